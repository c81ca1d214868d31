import PyProof.Rows.All
import Wide.All
import OpenK.AllK
import Wide.FinOn
import Lean
import PyProof.EqAt
import PyProof.EqKinds
import PyProof.TupleCall
import PyProof.InstStoreFacts
import PySem.Challenge.RW_pursewright_k03_the_first_wrong_row
set_option Elab.async false
set_option linter.all false
set_option maxRecDepth 100000
local macro_rules|`(tactic|symm)=>`(tactic|exact ⟨rfl,rfl,rfl,by decide +kernel,rfl,by decide +kernel,by decide +kernel⟩)
open List renaming mem_singleton→aB,mem_cons_of_mem→aJ,mem_cons_self→di,mem_cons→fx,length_map→gV,getElem?_eq_some_iff→kf,mem_append_right→lO,mem_append→mu,length_cons→my,nodup_nil→mz,mem_append_left→px,length_append→qd,append_nil→qp,getElem?_eq_getElem→rY,getElem?_map→tW,getElem?_set_ne→ui,map_append→uj,size_toArray→uZ,getElem?_set_self→u6,lookup_cons→xa,nodup_cons→xj,length_tail→xv,length_drop→xH,cons_ne_nil→xT,length_take→xU,replicate→xV,nodup_append→x2,mem_of_getElem?→Au,all_eq_true→Av,contains_cons→Ax,append_assoc→Ay,length_set→Az,getElem?_append_right→CF,tail_drop→CG,map_cons→CH,getElem?_append_left→CJ,sum_append→Fq,take_length→Fs,take_add_one→Jc,drop_eq_nil_of_le→MJ,drop_eq_getElem_cons→UQ,not_mem_nil→UR,mem_of_mem_drop→UT,sum_cons→U5,range→Ww,length→YH,length_reverse→YJ,perm_append_comm_assoc→YO,takeWhile_cons_of_pos→YS,dropWhile_cons_of_pos→YT,takeWhile_cons_of_neg→YU,dropWhile_cons_of_neg→YV,take_append_drop→YW,lookup→YX,mem_map→YY,mem_of_mem_take→YZ,flatMap_cons→Y0,set_eq_of_length_le→Y2,getElem?_replicate→Y5,length_eq_zero_iff→Y6,mem_flatMap→Y7,map_map→Zb,getElem?_eq_none→Zd,cons_append→Zk,any_cons→Zm,mem_filterMap→Zo,ext_getElem→Zx,getElem_mem→Zy,sublist_nil→Zz,eq_nil_iff_forall_not_mem→ZA,length_nil→ZF,length_zip→ZG,filterMap_cons→ZH,map_congr_left→ZI,length_pos_iff→ZJ,all_map→ZL,mem_range→ZN,sublist_append_right→ZO,any_eq_true→ZU,isEmpty_iff→ZW,drop_length→ZX,any_map→Z1,append_eq_nil_iff→Z2,of_mem_zip→Z5,length_replicate→Z9,getElem?_reverse→aa0,take_eq_take_iff→aa1,dropLast_concat→aa3,mem_of_mem_tail→aa4,drop_eq_nil_iff→aa6,countP_eq_zero→aa9,map_drop→ab0,map_take→ab1,map_set→ab5
open PySem renaming starEach→dO,wpAny_bind→fH,sizeLine→ot,wpAny_pure→u7,wpAny_mono→E3,wpAny_Call_Name_kw→MI,sizeLine_eq→Y1,wpAny_call_entry→Y8,wpAny_holding→Zc,wpAny_newObj_type→Zf,wpAny_setField→Zv,wpAny_typeOf→ZM,PassesOwn→ZY,wpAny_rule→Z4,wpAny_specialOf→Z7,wpAny_updateSeq→Z8,GenState→aa7
open PySem.Heap renaming get?_push_of_some→iP,lt_size→uY,get?_push_size→u3,get?_update_other→B5,get?_update_self→EV,get?_none_of_le→Jd,size_push→Yj,MadeExcOf→Zg,SameBut→Zr,get?_update_ne→aa8,ExtBut→ab6
open Option renaming map_eq_some_iff→kg,map_eq_none_iff→WR,getD_some→ZC,isSome_map→ZR,bind_eq_some_iff→ZV
open Nat renaming le_refl→oa,le_trans→u4,lt_of_lt_of_le→wa,le_of_lt→wh,ne_of_lt→Aw,lt_irrefl→EW,zero_le→Je,lt_succ_self→YQ,lt_of_le_of_lt→Y9,lt_trans→Zj,min_eq_left→Zn,toDigits→Zu,ne_of_gt→ZK,le_succ→ZP,min_eq_right→ZS,min_le_right→ZT,le_of_eq→ZZ,sub_le→Z0,sub_self→Z3,zero_lt_one→Z6,mul_le_mul_right→aa5
open Bool renaming false_ne_true→rZ,and_eq_true→ti,eq_false_iff→EX,true_and→Y3,and_false→Zs,or_true→Zt,eq_iff_iff→ZE,false_and→aa2,and_true→ab2,true_or→ab4
open Array renaming toList_append→WS,length_toList→Y4,getElem?_eq_some_iff→Zh,getElem?_toList→Zw,find?_toList→ab3
open PySem.Obj renaming data_mapFields→YR,isFreed_of_fields→Ze,mapSeq→Zq,mapFields→ZD
open Int renaming le_trans→Za,le_refl→Zi,toNat_of_nonneg→Zl,natCast_nonneg→Zp,toNat_natCast→ZQ
open Option renaming some→Z,none→Y
open Bool renaming true→O,false→ϊ
open PySem renaming Value→B,Addr→J,Shared→ϋ
def U{α:Sort u}{a:α}:a=a:=rfl
open Lean in
def lp:Nat->Syntax->MacroM (TSyntax `rcasesPat)
|n+1,s=>match s with
 |`(($a,$b,*))=>do let c<-(#[a]++b.getElems).mapM λx=>lp n x;`(rcasesPat|⟨$[$c:rcasesPat],*⟩)
 |`(⟨$a,*⟩)=>do let c<-a.getElems.mapM λx=>lp n x;`(rcasesPat|⟨$[$c:rcasesPat],*⟩)
 |`($x:ident)=>let y:=if x.getId==`U then mkIdent `rfl else x;`(rcasesPat|$y:ident)
 |_=>`(rcasesPat|_)
|_,_=>`(rcasesPat|_)
local macro_rules|`(tactic|let $p:term:=$e)=>do`(tactic|obtain $(<-lp 9 p):rcasesPat:=$e)
local macro_rules|`(($a,$b,*))=>`(⟨$a,$b,*⟩)
open PySem.W renaming Frag→BT
open PySem renaming FuncData→Ch,World→Da,Program→Db,Around→Do,Heap→Ev,Expr→EQ,Stmt→Fk
theorem zdc(h:True:=by decide):True:=h
theorem zrf(h:True=True:=by rfl):True=True:=h
local macro_rules|`(‹$t›)=>`(autoParam $t zrf._auto_1)
noncomputable section
set_option bootstrap.genMatcherCode false
set_option genSizeOf false
set_option genInjectivity false
namespace L2
open PySem PySem.Spec PyProof.Rows
inductive M2{A' B':Type}(P:A'->B'->Prop):Prop
 |mk(a b:_)(_:P a b)
inductive Ea5{A' B' C' D' E':Type}(P:A'->B'->C'->D'->E'->Prop):Prop
 |mk(a b c d e:_)(_:P a b c d e)
inductive Ea6{A' B' C' D' E' F':Type}(P:A'->B'->C'->D'->E'->F'->Prop):Prop
 |mk(a b c d e f:_)(_:P a b c d e f)
inductive Ea7{A' B' C' D' E' F' G':Type}(P:A'->B'->C'->D'->E'->F'->G'->Prop):Prop
 |mk(a b c d e f g:_)(_:P a b c d e f g)
inductive Ea8{A' B' C' D' E' F' G' H':Type}(P:A'->B'->C'->D'->E'->F'->G'->H'->Prop):Prop
 |mk(a b c d e f g h:_)(_:P a b c d e f g h)
inductive P3{A' B' C':Type}(P:A'->B'->C'->Prop):Prop
 |mk(a b c:_)(_:P a b c)
inductive Q4{A' B' C' D':Type}(P:A'->B'->C'->D'->Prop):Prop
 |mk(a b c d:_)(_:P a b c d)
abbrev Key:=Sum Int Str
def yh:Key->B->Bool
 |.inl k,v=>B.isInt k v
 |.inr x,v=>B.isStrOf x v
def X9(w:Da):Key->Int
 |.inl k=>hashInt k
 |.inr x=>hashStr w x
theorem c5:∀{k:Key}{v:B},yh k v=O->(∃i t,k=Sum.inl i/\v=B.int i t)\/(∃x t,k=Sum.inr x/\v=B.str x t)
 |.inl i,v,h=>by
  let(t,e):=B.isInt_shape h;exact .inl (i,t,U,e)
 |.inr x,v,h=>by
  let(t,e):=B.isStrOf_shape h;exact .inr (x,t,U,e)
def Ig(i:Int)(t:Tok):yh (.inl i) (.int i t)=true:=by simp[yh,B.isInt]
def Ie(x:Str)(t:Tok):yh (.inr x) (.str x t)=true:=by simp[yh,B.isStrOf]
def TQ(a b:Int):decide ((Sum.inl a:Key)=Sum.inl b)=(a==b):=by
 by_cases e:a=b
 ·subst e;simp
 ·have h:¬(Sum.inl a:Key)=Sum.inl b:=λq=>e (Sum.inl.inj q)
  rw[decide_eq_false h];exact(beq_eq_false_iff_ne.mpr e).symm
def TK(a b:Str):decide ((Sum.inr a:Key)=Sum.inr b)=decide (a=b):=by
 by_cases e:a=b
 ·simp
 ·have h:¬(Sum.inr a:Key)=Sum.inr b:=λq=>e (Sum.inr.inj q)
  rw[decide_eq_false h,decide_eq_false e]
def TN(a:Int)(b:Str):decide ((Sum.inl a:Key)=Sum.inr b)=false:=decide_eq_false (λq=>nomatch q)
def TL(a:Str)(b:Int):decide ((Sum.inr a:Key)=Sum.inl b)=false:=decide_eq_false (λq=>nomatch q)
def d8(prog:Db)(w:Da):PySem.KeyKind prog w Key where
 is:=yh
 hash:=X9 w
 inj:=λv a b ha q=>by
  obtain⟨i,t,rfl,rfl⟩|⟨x,t,rfl,rfl⟩:=c5 ha
  ·obtain⟨j,u,rfl,e⟩|⟨y,u,rfl,e⟩:=c5 q
   ·injection e with g _;rw[g]
   ·exact nomatch e
  ·obtain⟨j,u,rfl,e⟩|⟨y,u,rfl,e⟩:=c5 q
   ·exact nomatch e
   ·injection e with g _;rw[g]
 byValue:=λk v h=>by
  obtain⟨i,t,rfl,rfl⟩|⟨x,t,rfl,rfl⟩:=c5 h <;> rfl
 pyHash:=λhv h=>by
  obtain⟨i,t,rfl,rfl⟩|⟨x,t,rfl,rfl⟩:=c5 hv
  ·exact wpAny_pyHash_int h
  ·exact wpAny_pyHash_str h
 eqBool:=λz hv h=>by
  obtain⟨i,t,rfl,rfl⟩|⟨x,t,rfl,rfl⟩:=c5 z
  ·obtain⟨j,u,rfl,rfl⟩|⟨y,u,rfl,rfl⟩:=c5 hv
   ·rw[TQ]at h;exact wpAny_eqBool_int h
   ·rw[TN]at h;exact SeqAt.EqAt.int_str i t y u _ _ _ _ h
  ·obtain⟨j,u,rfl,rfl⟩|⟨y,u,rfl,rfl⟩:=c5 hv
   ·rw[TL]at h;exact SeqAt.EqAt.str_int x t j u _ _ _ _ h
   ·rw[TK]at h;exact wpAny_eqBool_str h
 «strs»:=λk x t v h=>by
  obtain⟨i,u,rfl,e⟩|⟨y,u,rfl,e⟩:=c5 h
  ·exact nomatch e
  ·injection e with g _
   subst g;cases v <;> rfl
def BK(prog:Db)(w:Da)(i:Int)(t:Tok):(d8 prog w).is (.inl i) (.int i t)=true:=Ig i t
def BJ(prog:Db)(w:Da)(x:Str)(t:Tok):(d8 prog w).is (.inr x) (.str x t)=true:=Ie x t
set_option genInjectivity true in
inductive V where
 |non|bl (b:Bool)|int (i:Int)|str (x:Str)|byt (b:Array UInt8)|flt (b:UInt64)|ref (a:J)|ty (n:String)
 deriving DecidableEq
def RelV:V->B->Prop
 |.non,u=>u=B.none
 |.bl b,u=>u=B.bool b
 |.int i,u=>∃t,u=B.int i t
 |.str x,u=>∃t,u=B.str x t
 |.byt b,u=>∃t,u=B.bytes b t
 |.flt b,u=>∃t,u=B.float b t
 |.ref a,u=>u=B.ref a
 |.ty n,u=>u=B.type n
abbrev Vals:List V->List B->Prop:=Paired RelV
theorem Vals.length{xs:List V}{us:List B}(r:Vals xs us):xs.length=us.length:=Paired.length r
theorem Vals.get:∀{xs:List V}{us:List B}{i:Nat}{x:V},Vals xs us->xs[i]?=Z x->∃u,us[i]?=Z u/\RelV x u
 |_,_,_,_,.nil,e=>by simp at e
 |_,_,0,_,.cons r _,e=>by simp at e;subst e;exact(_,U,r)
 |_,_,i+1,x,.cons _ t,e=>by
  let(u,h1,h2):=Vals.get t (by simpa using e)
  exact(u,by simpa using h1,h2)
theorem Vals.set{x:V}{u:B}(r:RelV x u):∀{xs:List V}{us:List B}(i:Nat),Vals xs us->Vals (xs.set i x) (us.set i u)
 |_,_,_,.nil=>.nil
 |_,_,0,.cons _ t=>.cons r t
 |_,_,i+1,.cons q t=>.cons q (Vals.set r i t)
variable{xs:List V}{ys:List V}{us:List B}
def Vals.append{ws:List B}(h:Vals xs us)(s:Vals ys ws):Vals (xs++ys) (us++ws):=by
 induction h with
 |nil=>exact s
 |cons r _ g=>exact .cons r g
theorem Vals.take:∀{xs:List V}{us:List B}(n:Nat),Vals xs us->Vals (xs.take n) (us.take n)
 |_,_,0,_=>.nil
 |_,_,_+1,.nil=>.nil
 |_,_,n+1,.cons r t=>.cons r (Vals.take n t)
theorem Vals.drop:∀{xs:List V}{us:List B}(n:Nat),Vals xs us->Vals (xs.drop n) (us.drop n)
 |_,_,0,r=>r
 |_,_,_+1,.nil=>.nil
 |_,_,n+1,.cons _ t=>Vals.drop n t
def lN:Option V->Option B->Prop
 |some v,Z u=>RelV v u
 |none,Y=>True
 |_,_=>False
def KV{κ:Type}:List (κ×V)->List (κ×B)->Prop:=Paired λ(p:κ×V)(q:κ×B)=>p.1=q.1/\RelV p.2 q.2
def kV:Key->V
 |.inl i=>.int i
 |.inr x=>.str x
inductive HO where
 |lst(xs:List V)
 |tup(xs:List V)
 |dK(kvs:List (Key×V))|dT (kvs:List (List Key×V))
 |set(S:Int->Bool)(n:Nat)
 |ins(C dx:J)(fs:List (Str×V))
 |own(x:J)
 |xd(fs:List (Str×V))
 |room(x:Int)
 |met(f x:J)
 |rng(lo hi:Int)
 |frz(o:Obj)(u:HO)
 |tbl(ps:Array B)
 |ext(φ:Ev->Prop)
abbrev Hp:=J->Option HO
def upd(H:Hp)(a:J)(o:HO):Hp:=λb=>if b=a then Z o else H b
variable{H:Hp}{a:J}
def aC{o:HO}:upd H a o a=Z o:=by unfold upd;rw[if_pos rfl]
def ax{b:J}{o:HO}(h:b≠a):upd H a o b=H b:=by unfold upd;rw[if_neg h]
def dQ{b:J}{o u:HO}(h:H a=Z o)(h':H b=Z u)(d:o≠u):a≠b:=by
 intro e;subst e;rw[h]at h';exact d (Option.some.inj h')
def aZ{b:J}{o:HO}(h:H a=Z o)(h':H b=Y):a≠b:=by
 intro e;subst e;rw[h]at h';cases h'
def tU(h:Ev)(a:J)(items:Array B):Prop:=IsTup h a items/\∃o,h.get? a=Z o/\o.dict=Y
theorem tU.new(h:Ev)(items:Array B):tU (h.push {cls:=.type "tuple",data:=.seq items}) h.objs.size items:=(IsTup.new _ _,_,u3 _ U,U)
section
variable(P:Db)(w:Da)
def dm(H:Hp)(h:Ev)(a:J):HO->Prop
 |.lst xs=>xs.length<=ot/\∃(its:List B)(n:Nat),Vals xs its/\h.get? a=Z {cls:=.type "list",data:=.seq its.toArray n}
 |.tup xs=>xs.length<=ot/\∃its:List B,Vals xs its/\tU h a its.toArray
 |.dK kvs=>kvs.length<=ot/\(a==sysModules)=ϊ/\∃vs,KV kvs vs/\h.DictOf (d8 P w) a vs
 |.dT kvs=>kvs.length<=ot/\(a==sysModules)=ϊ/\∃xs:List (List Key×J×B),
   Paired (λ(p:List Key×V)(q:List Key×J×B)=>p.1=q.1/\H q.2.1=Z (.tup (p.1.map kV))/\RelV p.2 q.2.2) kvs xs /\
   ∃o es g,h.get? a=Z o/\o.ExactDict/\o.data=.dict es g/\es.toList=xs.map (entryOfKey (tupleKind (d8 P w)))/\(xs.map (·.1)).Nodup
 |.set S n=>h.SetOf (intKind P w) a S n
 |.ins C dx fs=>H dx=Z (.own a)/\fs.length<=1000/\dx≠a/\h.get? a=Z (W.instObj C dx) /\
   ∃mA,h.Ns1 dx mA/\(∀f,lN (fs.lookup f) (mA f))/\PySem.Within mA (fs.map (·.1))
 |.own _=>∃o,h.get? a=Z o
 |.xd fs=>∃mA,h.Ns1 a mA/\∀f,lN (fs.lookup f) (mA f)
 |.room x=>∃(its:List B)(n:Nat),Vals [.int x] its/\h.get? a=Z {cls:=.type "list",data:=.seq its.toArray n}
 |.rng lo hi=>∃t u v,h.get? a=Z {cls:=.type "range",data:=.fields #[.int lo t,.int hi u,.int 1 v]}
 |.frz o u=>h.get? a=Z o/\dm H h a u
 |.tbl ps=>h.get? a=Z {cls:=.none,data:=.fields ps}
 |.met f x=>h.get? a=Z (W.methodObj (.ref f) (.ref x))
 |.ext φ=>φ h/\(∃o,h.get? a=Z o)/\∀h1 h2:Ev,φ h1->(∀o,h1.get? a=Z o->h2.get? a=Z o)->φ h2
def HOk(H:Hp)(h:Ev):Prop:=∀a o,H a=Z o->dm P w H h a o
end
section
variable{P:Db}{w:Da}{H':Hp}{h h':Ev}{o:HO}
theorem dm.lt(x:dm P w H h a o):a<h.objs.size:=by
 cases o with
 |lst xs=>let(_,_,_,_,e):=x;exact uY e
 |tup xs=>let(_,_,_,p):=x;exact p.1.lt
 |dK kvs=>let(_,_,_,_,o,_,_,e,_):=x;exact uY e
 |dT kvs=>let(_,_,_,_,o,_,_,e,_):=x;exact uY e
 |set S n=>let(o,_,_,_,e,_):=x;exact uY e
 |ins C dx fs=>let(_,_,_,e,_):=x;exact uY e
 |own y=>let(_,e):=x;exact uY e
 |xd fs=>let(_,(_,_,_,e,_),_):=x;exact uY e
 |room g=>let(_,_,_,e):=x;exact uY e
 |rng lo hi=>let(_,_,_,e):=x;exact uY e
 |frz ob u=>let(e,_):=x;exact uY e
 |tbl ps=>exact uY (x)
 |met f y=>exact uY (x)
 |ext φ=>let(_,(_,e),_):=x;exact uY e
def Paired.Wj{α β:Type}{F G:α->β->Prop}{l₁:List α}{g:List β}(r:Paired F l₁ g)(f:∀a b,F a b->G a b):Paired G l₁ g:=by
 induction r with
 |nil=>exact .nil
 |cons r _ q=>exact .cons (f _ _ r) q
def dm.eC(x:dm P w H h a o)(k:∀b u,(b=a\/H b=Z (.own a))->h.get? b=Z u->h'.get? b=Z u)
  (ho:∀b,H b=Z (.own a)->H' b=Z (.own a)) (V:∀b xs,H b=Z (.tup xs)->H' b=Z (.tup xs)):dm P w H' h' a o:=by
 induction o with
 |lst xs=>let(z,its,n,r,e):=x;exact(z,its,n,r,k _ _ (.inl U) e)
 |tup xs=>let(z,its,r,(ob,e,c),o2,K,d2):=x;exact(z,its,r,(ob,k _ _ (.inl U) e,c),o2,k _ _ (.inl U) K,d2)
 |dK kvs=>let(z,y,vs,r,ob,es,g,e,c):=x;exact(z,y,vs,r,ob,es,g,k _ _ (.inl U) e,c)
 |dT kvs =>
  let(z,y,xs,r,ob,es,g,e,c):=x;exact(z,y,xs,Paired.Wj r λp q z=>(z.1,V _ _ z.2.1,z.2.2),ob,es,g,k _ _ (.inl U) e,c)
 |set S n=>let(ob,es,g,t,e,c):=x;exact(ob,es,g,t,k _ _ (.inl U) e,c)
 |ins C dx fs =>
  let(d,z,ne,e,mA,(od,es,g,K,c),r):=x;exact(ho _ d,z,ne,k _ _ (.inl U) e,mA,(od,es,g,k _ _ (.inr d) K,c),r)
 |own y=>let(ob,e):=x;exact(ob,k _ _ (.inl U) e)
 |xd fs=>let(mA,(od,es,g,e,c),r):=x;exact(mA,(od,es,g,k _ _ (.inl U) e,c),r)
 |room x'=>let(t,u,v,e):=x;exact(t,u,v,k _ _ (.inl U) e)
 |rng lo hi=>let(t,u,v,e):=x;exact(t,u,v,k _ _ (.inl U) e)
 |frz ob u Q=>let(e,q):=x;exact(k _ _ (.inl U) e,Q q)
 |tbl ps =>
  have e:=x;exact k a _ (.inl U) e
 |met f y =>
  have e:=x;exact k a _ (.inl U) e
 |ext φ=>let(p,(o,e),st):=x;exact(st _ _ p λo q=>k _ _ (.inl U) q,(o,k _ _ (.inl U) e),st)
theorem HOk.lt(x:HOk P w H h)(e:H a=Z o):a<h.objs.size:=(x a o e).lt
def HOk.fresh(x:HOk P w H h)(e:h.objs.size<=a):H a=none:=by
 cases q:H a with
 |none=>rfl
 |some u=>exact absurd (wa (x.lt q) e) (EW _)
def HOk.kept(x:HOk P w H h)(k:∀b u,h.get? b=Z u->h'.get? b=Z u):HOk P w H h':=λa o e =>
 (x a o e).eC (λb u _ q=>k b u q) (λ_ q=>q) λ_ _ q=>q
def HOk.laid(x:HOk P w H h)(k:∀b u,h.get? b=Z u->h'.get? b=Z u)(hp:h.objs.size<=a)(new:dm P w (upd H a o) h' a o):HOk P w (upd H a o) h':=λb u e=>by
 have hn:=x.fresh hp;by_cases g:b=a
 ·subst g;rw[aC]at e;cases e;exact new
 ·rw[ax g]at e;exact(x b u e).eC (λc v _ q=>k c v q) (λc q=>by rw[ax (aZ q hn)];exact q) λc xs q=>by rw[ax (aZ q hn)];exact q
end
def Rd(H:Hp)(a:J)(u:HO):Prop:=H a=Z u\/∃o,H a=Z (.frz o u)
def Rd.ok{P:Db}{w:Da}{H:Hp}{h:Ev}{a:J}{u:HO}(r:Rd H a u)(x:HOk P w H h):dm P w H h a u:=by
 obtain r |⟨o,r⟩:=r
 ·exact x a u r
 ·let(_,q):=x a _ r;exact q
def Mut:Option HO->Prop
 |some (.lst _)=>True
 |some (.dK _)=>True
 |some (.dT _)=>True
 |some (.set _ _)=>True
 |some (.ins _ _ _)=>True
 |some (.ext _)=>True
 |some (.room _)=>True
 |_=>False
section
variable{P:Db}{w:Da}{h h':Ev}{x e:J}{o':HO}
def HOk.write(ok:HOk P w H h)(K:Mut (H x))(he:e=x\/H e=Z (.own x))(k:∀b u,b≠e->h.get? b=Z u->h'.get? b=Z u)(ah:∃u,h'.get? e=Z u)
  (new:dm P w (upd H x o') h' x o'):HOk P w (upd H x o') h':=λb u q=>by
 have V9:∀c y,H c=Z (.own y)->c≠x:=λc y r z=>by subst z;rw[r]at K;exact K
 have X1:∀c xs,H c=Z (.tup xs)->c≠x:=λc xs r z=>by subst z;rw[r]at K;exact K
 by_cases V:b=x
 ·subst V;rw[aC]at q;cases q;exact new
 ·rw[ax V]at q;by_cases g:b=e
  ·have q':H b=Z (.own x):=by
    obtain z|z:=he
    ·exact absurd (g.trans z) V
    ·rw[g];exact z
   rw[q]at q';cases q';let(v,hv):=ah;exact(v,by rw[g];exact hv)
  ·refine(ok b u q).eC (λc v Q r=>k c v ?_ r) (λc r=>by rw[ax (V9 c b r)];exact r) λc xs r=>by rw[ax (X1 c xs r)];exact r
   obtain rfl|Q:=Q
   ·exact g
   ·rintro rfl
    obtain z|z:=he
    ·exact V9 c b Q z
    ·rw[Q]at z;cases z;exact V U
end
structure Un(fs ex:List J)(H H':Hp)(h h':Ev):Prop where
 keep:∀b o,h.get? b=Z o->H b=Y->b ∉ fs->b ∉ ex->h'.get? b=Z o
 slot:∀b o,h.get? b=Z o->H b=Y->b∈fs->b ∉ ex->∃sl,h'.get? b=Z {o with slots:=sl}
 free:∀b o,h.get? b=Z o->H b=Y->b ∉ ex->H' b=Y
 there:∀b o,h.get? b=Z o->b ∉ ex->∃o',h'.get? b=Z o'
 sk:∀b xs,H b=Z (.tup xs)->H' b=Z (.tup xs)
 pN:∀b o u,H b=Z (.frz o u)->H' b=Z (.frz o u)
 sr:∀b ps,H b=Z (.tbl ps)->∃more,H' b=Z (.tbl (ps++more))
section
variable{fs ex:List J}{H1:Hp}{h h1 h':Ev}{x e:J}{o:HO}
def Un.any(u:Un fs ex H H1 h h1){b:J}{ob:Obj}(q:h.get? b=Z ob)(n:H b=Y)(hx:b ∉ ex):∃sl,h1.get? b=Z {ob with slots:=sl}:=by
 by_cases g:b∈fs
 ·exact u.slot b ob q n g hx
 ·exact(ob.slots,u.keep b ob q n g hx)
def Un.kept(k:∀b u,h.get? b=Z u->h'.get? b=Z u):Un fs ex H H h h' :=
 (λb ob q _ _ _=>k b ob q,λb ob q _ _ _=>(ob.slots,k b ob q),λ_ _ _ n _=>n,λb ob q _=>(ob,k b ob q),λ_ _ q=>q,λ_ _ _ q=>q,λ_ ps q=>(#[],by rw[q];simp))
def Un.refl:Un fs ex H H h h:=Un.kept λ_ _ q=>q
def Un.laid(k:∀b u,h.get? b=Z u->h'.get? b=Z u)(hp:h.objs.size<=a)(hn:H a=Y):Un fs ex H (upd H a o) h h' where
 keep:=λb u q _ _ _=>k b u q
 slot:=λb u q _ _ _=>(u.slots,k b u q)
 free:=λb u q n _=>by rw[ax (Aw (wa (uY q) hp))];exact n
 there:=λb u q _=>(u,k b u q)
 sk:=λb xs q=>by rw[ax (aZ q hn)];exact q
 pN:=λb u xs q=>by rw[ax (aZ q hn)];exact q
 sr:=λb ps q=>(#[],by rw[ax (aZ q hn),q];simp)
def Un.write(K:Mut (H x))(he:e=x\/H e=Z (.own x))(k:∀b u,b≠e->h.get? b=Z u->h'.get? b=Z u)(P:∃u,h'.get? e=Z u):Un fs ex H (upd H x o) h h':=by
 have hx:∀b,H b=Y->b≠x:=λb n z=>by subst z;rw[n]at K;exact K
 have Q:∀b,H b=Y->b≠e:=λb n z=>by
  subst z;obtain r|r:=he
  ·exact hx b n r
  ·rw[n]at r;cases r
 have hm:∀b u,H b=Z u->¬ Mut (Z u)->b≠x:=λb u q nm z=>by subst z;rw[q]at K;exact nm K
 refine(λb u q n _ _=>k b u (Q b n) q,λb u q n _ _=>(u.slots,k b u (Q b n) q),λb u q n _=>by rw[ax (hx b n)];exact n,λb u q _=>?_,
  λb xs q=>by rw[ax (hm b _ q λz=>z)];exact q,λb u xs q=>by rw[ax (hm b _ q λz=>z)];exact q,λb ps q=>(#[],by rw[ax (hm b _ q λz=>z),q];simp))
 by_cases g:b=e
 ·subst g;exact P
 ·exact(u,k b u g q)
end
def trk(h:Ev)(H:Hp):List Addr:=(Ww h.objs.size).filter λa=>(H a).isSome
def B6(h:Ev)(H:Hp):Ev:=W.hideAll h (trk h H)
theorem Iq(h:Ev)(H:Hp):(B6 h H).objs.size=h.objs.size:=W.hideAll_size _ _
theorem LL{h:Ev}{b:J}{o:Obj}(e:h.get? b=Z o)(n:H b=Y):(B6 h H).get? b=Z o :=
 W.hideAll_get _ e λhm=>by
  have q:=(List.mem_filter.mp hm).2;rw[n]at q;simp at q
theorem OS{h:Ev}{b:J}{o:Obj}(e:(B6 h H).get? b=Z o):h.get? b=Z o/\H b=none:=by
 have g:=W.of_hideAll (trk h H) e;refine(g,?_);cases q:H b with
 |none=>rfl
 |some x =>
  have hm:b∈trk h H:=List.mem_filter.mpr (ZN.mpr (uY g),by simp[q])
  have z:(B6 h H).get? b=none:=W.hideAll_none (trk h H) hm;rw[z]at e;cases e
structure Mod(K:BT)(mg:Str->Option B)(base:Ev):Prop where
 kin:K.In base
 glob:base.Ns mainGlobals mg
 blt:∃mb,base.Ns builtinsNs mb/\∀x:Str,x ≠ "__name__"->mb x=bootBuiltins x
 nolimit:base.NoLimit
structure Cx where
 prog:Db
 w:Da
 K:BT
 mg:Str->Option B
 base:Ev
 A:Do
 N:List Str
 s₀:ϋ
 H₀:Hp
 env:Env
 outer:List Env
 stack:List Env
 ex:List J
 fn:Str->Bool
 calm:Bool
 pn:List (J×Obj)
 xe:B->ϋ->Prop
abbrev XV(X:Cx){α:Type}:=@wpAny α (model X.prog X.w) X.A
def frs(l:List Env):List Addr:=l.filterMap (·.frame)
abbrev Cx.fs(X:Cx):List Addr:=frs X.outer
def Vis(sc:Scope)(x:Str):Prop:=sc.names.lookup x=Z .local\/sc.names.lookup x=Z .cell\/sc.names.lookup x=Z .free
def Loc(sc:Scope)(x:Str):Prop:=sc.names.lookup x=Z .local\/sc.names.lookup x=Z .cell
def Look(env:Env)(h:Ev)(m:Str->Option B)(x:Str)(u:B):Prop :=
 (env.kindOf x=Z .local/\m x=Z u)\/((env.kindOf x=Z .cell\/env.kindOf x=Z .free)/\∃c,env.cells.lookup x=Z c/\h.IsCell c (Z u))
structure Cx.Ok(X:Cx):Prop where
 mod:Mod X.K X.mg X.base
 kind:X.env.scope.kind=.function
 glob:X.env.globals=mainGlobals
 blt:X.env.builtins=builtinsNs
 above:X.s₀.heap.objs.size<=X.env.locals
 inj:∀x y c,X.env.cells.lookup x=Z c->X.env.cells.lookup y=Z c->x=y
 has:∀x,(X.env.kindOf x=Z .cell\/X.env.kindOf x=Z .free)->∃c,X.env.cells.lookup x=Z c
 cab:∀x c,X.fn x=O->X.env.cells.lookup x=Z c->X.s₀.heap.objs.size<=c
 hd:X.calm=O->X.A.handled=Y
 frames:X.A.frames=Z X.stack
 stk:X.stack=X.outer\/(X.stack=X.env::X.outer/\X.env.frame=Z X.env.locals)
 exf:∀b∈X.ex,b≠X.env.locals/\∀x c,X.env.cells.lookup x=Z c->c≠b
 bs:∀b o,X.base.get? b=Z o->X.s₀.heap.get? b=Z o/\X.H₀ b=Y
 bsz:X.base.objs.size<=X.s₀.heap.objs.size
 D8:∀b o,X.base.get? b=Z o->b ∉ X.ex
 Iz:∀b∈X.ex,b ∉ X.fs
 oj:X.s₀.heap.FunFrames X.base X.outer
 frf:∀b∈X.fs,X.H₀ b=Y
structure Inv(X:Cx)(gd:List (J×Obj))(σ:List (Option V))(H:Hp)(s:ϋ):Prop where
 ok:X.Ok
 os:s.os=X.s₀.os
 bare:AllBare s.gens
 base:Un X.fs X.ex X.H₀ H X.s₀.heap s.heap
 loc:∃m,s.heap.Ns X.env.locals m/\∀(i:Nat)(x:Str)(v:V),X.N[i]?=Z x->σ[i]?=Z (Z v)->Vis X.env.scope x->∃u,RelV v u/\Look X.env s.heap m x u
 cell:∀x c,X.env.cells.lookup x=Z c->∃v,s.heap.IsCell c v
 free:H X.env.locals=Y
 iN:∀x c,X.env.cells.lookup x=Z c->H c=Y
 pin:∀p∈X.pn++gd,s.heap.get? p.1=Z p.2/\H p.1=Y/\p.1≠X.env.locals/\p.1 ∉ X.fs/\∀v,p.2.data ≠ .cell v
 hok:HOk X.prog X.w H s.heap
 len:σ.length=X.N.length
variable{ch:List J}{t':Nat}{it:J}{N:List Str}{i:Nat}{j:Nat}{x:Str}{u:B}{s':ϋ}
section
variable{X:Cx}{gd:List (J×Obj)}{σ:List (Option V)}{H':Hp}{s:ϋ}{h':Ev}
def Cx.Ok.X3(ok:X.Ok){b:J}{o:Obj}(e:X.base.get? b=Z o):b ∉ X.fs:=λg=>by
 have:=(ok.oj.mem g).1
 rw[e]at this;cases this
theorem Inv.bs(I:Inv X gd σ H s):∀b o,X.base.get? b=Z o->s.heap.get? b=Z o/\H b=none:=λb o e =>
 (I.base.keep b o (I.ok.bs b o e).1 (I.ok.bs b o e).2 (I.ok.X3 e) (I.ok.D8 b o e),I.base.free b o (I.ok.bs b o e).1 (I.ok.bs b o e).2 (I.ok.D8 b o e))
def Inv.bk(I:Inv X gd σ H s):∀b o,X.base.get? b=Z o->s.heap.get? b=Z o:=λb o e=>(I.bs b o e).1
theorem Inv.mod(I:Inv X gd σ H s):Mod X.K X.mg X.base:=I.ok.mod
def Inv.kIn(I:Inv X gd σ H s):X.K.In s.heap:=I.ok.mod.kin.keeps I.bk
theorem Inv.lt(I:Inv X gd σ H s):X.env.locals<s.heap.objs.size:=let(_,hn,_):=I.loc;hn.lt
def Inv.sz(I:Inv X gd σ H s):X.s₀.heap.objs.size<=s.heap.objs.size:=u4 I.ok.above (wh I.lt)
def Inv.Wf(I:Inv X gd σ H s)(h:s.heap.objs.size<=a):a ∉ X.fs:=λg=>by
 let(_,o,ho,_):=I.ok.oj.mem g;exact absurd (wa (uY ho) (u4 I.sz h)) (EW _)
def Inv.cne(I:Inv X gd σ H s):∀x c,X.env.cells.lookup x=Z c->c≠X.env.locals:=λx c e z=>by
 let(v,o,ho,hd):=I.cell x c e;let(m,(o',es,K,g,q,_),_):=I.loc;rw[z,g]at ho;cases ho;rw[q]at hd;cases hd
theorem Inv.oj(I:Inv X gd σ H s):s.heap.FunFrames X.base X.outer:=by
 have all:∀l,(∀b∈frs l,b∈X.fs)->X.s₀.heap.FunFrames X.base l->s.heap.FunFrames X.base l:=by
  intro l
  induction l with
  |nil=>intro _ _;trivial
  |cons env r K =>
   intro hs hl;let(P,(L,o,hf,hn,ho,hd),hr):=hl;have q:=hs L (by unfold frs;rw[ZH,hf];exact di)
   let(sl,e):=I.base.slot L o ho (I.ok.frf L q) q λz=>I.ok.Iz L z q
   exact(P,(L,_,hf,hn,e,hd),K (λb g=>hs b (by unfold frs;rw[ZH,hf];exact aJ _ g)) hr)
 exact all X.outer (λ_ g=>g) I.ok.oj
theorem Inv.stack(I:Inv X gd σ H s):s.heap.FunFrames X.base X.stack:=by
 obtain e |⟨e,hf⟩:=I.ok.stk
 ·rw[e];exact I.oj
 ·rw[e];let(m,hn,_):=I.loc;exact .cons (by rw[I.ok.kind];decide) hf hn (Jd (u4 I.ok.bsz I.ok.above)) I.oj
def Inv.sy(I:Inv X gd σ H s):∀b∈frs X.stack,b∈X.env.locals::X.fs:=λb g=>by
 obtain e |⟨e,hf⟩:=I.ok.stk
 ·rw[e]at g;exact aJ _ g
 ·rw[e]at g;unfold frs at g;rw[ZH,hf]at g;exact g
def Inv.nJ(I:Inv X gd σ H s):∀b∈frs X.stack,H b=none:=λb g=>by
 obtain e|g:=fx.mp (I.sy b g)
 ·rw[e];exact I.free
 ·let(_,o,ho,_):=I.ok.oj.mem g;exact I.base.free b o ho (I.ok.frf b g) λz=>I.ok.Iz b z g
def Inv.step{g':Array aa7}{t':Nat}{d':Drawn}(I:Inv X gd σ H s)
  (K:∀b∈ch,(b∈X.ex\/X.s₀.heap.objs.size<=b)/\b≠X.env.locals/\(∀x c,X.env.cells.lookup x=Z c->c≠b)/\∀p∈X.pn++gd,p.1≠b)
  (keep:∀b o,b≠X.env.locals->b ∉ X.fs->b ∉ ch->s.heap.get? b=Z o->H b=Y->h'.get? b=Z o)
  (slot:∀b o,b≠X.env.locals->b∈X.fs->b ∉ ch->s.heap.get? b=Z o->H b=Y->∃sl,h'.get? b=Z {o with slots:=sl}) (free:∀b o,b ∉ ch->s.heap.get? b=Z o->H b=Y->H' b=Y)
  (there:∀b o,b ∉ ch->s.heap.get? b=Z o->∃o',h'.get? b=Z o')
  (sk:∀b xs,H b=Z (.tup xs)->H' b=Z (.tup xs)) (pN:∀b o u,H b=Z (.frz o u)->H' b=Z (.frz o u)) (sr:∀b ps,H b=Z (.tbl ps)->∃more,H' b=Z (.tbl (ps++more)))
  (ns:∀m,s.heap.Ns X.env.locals m->h'.Ns X.env.locals m) (hok:HOk X.prog X.w H' h') (hg:AllBare g'):
  Inv X gd σ H' {s with heap:=h',gens:=g',drawn:=d',toks:=t'}:=by
 have ah:∀b o,X.s₀.heap.get? b=Z o->b≠X.env.locals:=λb o e=>Aw (wa (uY e) I.ok.above)
 have P:∀b o,X.s₀.heap.get? b=Z o->b ∉ X.ex->b ∉ ch:=λb o e hx V=>by
  obtain z|z:=(K b V).1
  ·exact hx z
  ·exact absurd (wa (uY e) z) (EW _)
 have cellK:∀x c,X.env.cells.lookup x=Z c->∀v,s.heap.IsCell c v->h'.IsCell c v:=λx c e v (o,ho,hd)=>by
  have g:=λz=>(K c z).2.2.1 x c e U
  by_cases hc:c∈X.fs
  ·let(sl,q):=slot c o (I.cne x c e) hc g ho (I.iN x c e);exact(_,q,hd)
  ·exact(o,keep c o (I.cne x c e) hc g ho (I.iN x c e),hd)
 refine(I.ok,I.os,hg,(λb o e n V hx=>?_,λb o e n V hx=>?_,λb o e n hx=>?_,λb o e hx=>?_,λb xs e=>sk b xs (I.base.sk b xs e),λb o xs e=>pN b o xs (I.base.pN b o xs e),λb ps e=>?_),?_,λx c e=>?_,?_,λx c e=>?_,λp hp=>?_,hok,I.len)
 ·exact keep b o (ah b o e) V (P b o e hx) (I.base.keep b o e n V hx) (I.base.free b o e n hx)
 ·let(sl,Q):=I.base.slot b o e n V hx;let(ak,e2):=slot b _ (ah b o e) V (P b o e hx) Q (I.base.free b o e n hx);exact(ak,e2)
 ·let(o',Q):=I.base.there b o e hx;exact free b o' (P b o e hx) Q (I.base.free b o e n hx)
 ·let(o',Q):=I.base.there b o e hx;exact there b o' (P b o e hx) Q
 ·let(m1,Q):=I.base.sr b ps e;let(m2,e2):=sr b _ Q;exact(m1++m2,by rw[e2,Array.append_assoc])
 ·let(m,hn,hl):=I.loc;refine(m,ns m hn,λi x v Q e2 e3=>?_)
  let(u,r,l):=hl i x v Q e2 e3;refine(u,r,?_);obtain l |⟨k,c,e,z⟩:=l
  ·exact .inl l
  ·exact .inr (k,c,e,cellK x c e _ z)
 ·let(v,z):=I.cell x c e;exact(v,cellK x c e v z)
 ·let(m,(o,_,_,ho,_),_):=I.loc;exact free _ o (λz=>(K _ z).2.1 U) ho I.free
 ·let(v,o,ho,hd):=I.cell x c e;exact free c o (λz=>(K c z).2.2.1 x c e U) ho (I.iN x c e)
 ·let(e,n,ne,nf,d):=I.pin p hp;have g:=λz=>(K p.1 z).2.2.2 p hp U
  exact(keep p.1 p.2 ne nf g e n,free p.1 p.2 g e n,ne,nf,d)
def Inv.un(I:Inv X gd σ H s)(u:Un X.fs [] H H' s.heap h')(hok:HOk X.prog X.w H' h'):Inv X gd σ H' {s with heap:=h',toks:=t'}:=by
 let(m,(o,es,V,ho,r),_):=id I.loc;let(sl,Q):=u.any ho I.free (by simp)
 exact I.step (ch:=[]) (λ_ z=>nomatch z) (λb o _ q _ e n=>u.keep b o e n q (by simp)) (λb o _ q _ e n=>u.slot b o e n q (by simp)) (λb o _ e n=>u.free b o e n (by simp)) (λb o _ e=>u.there b o e (by simp)) u.sk u.pN u.sr (λm' hm=>by
  let(o',K,P,g,r'):=hm;rw[ho]at g;cases g;exact(_,K,P,Q,r')) hok I.bare
def Inv.call{g':Array aa7}{d':Drawn}(I:Inv X gd σ H s)(u:Un (frs X.stack) ch H H' s.heap h')(hok:HOk X.prog X.w H' h')(hg:AllBare g')
  (K:∀b∈ch,(b∈X.ex\/X.s₀.heap.objs.size<=b)/\b≠X.env.locals/\(∀x c,X.env.cells.lookup x=Z c->c≠b)/\∀p∈X.pn++gd,p.1≠b):
  Inv X gd σ H' {s with heap:=h',gens:=g',drawn:=d',toks:=t'}:=by
 let(m,(o,es,ep,ho,r),_):=id I.loc;let(sl,P):=u.any ho I.free λz=>(K _ z).2.1 U
 exact I.step K (λb o P hb g e n=>u.keep b o e n (λz=>(fx.mp (I.sy b z)).elim P hb) g) (λb o _ _ g e n=>u.any e n g) (λb o g e n=>u.free b o e n g) (λb o g e=>u.there b o e g) u.sk u.pN u.sr (λm' hm=>by
  let(o',Q,V,q,r'):=hm;rw[ho]at q;cases q;exact(_,Q,V,P,r')) hok hg
def Inv.turned(I:Inv X gd σ H s)(k:∀b o,b≠it->s.heap.get? b=Z o->h'.get? b=Z o)(hn:H it=Y)(P:it≠X.env.locals)
  (h1:it∈X.ex\/X.s₀.heap.objs.size<=it) (h2:∀x c,X.env.cells.lookup x=Z c->c≠it) (h3:∀p∈X.pn++gd,p.1≠it):Inv X gd σ H {s with heap:=h',toks:=t'}:=by
 have K:∀b u,H b=Z u->b≠it:=λb u e z=>by rw[z,hn]at e;cases e
 refine I.step (ch:=[it]) (λb Q=>?_) (λb o _ _ g e _=>k b o (λz=>g (by simp[z])) e) (λb o _ _ g e _=>(o.slots,k b o (λz=>g (by simp[z])) e)) (λ_ _ _ _ n=>n)
  (λb o g e=>(o,k b o (λz=>g (by simp[z])) e)) (λ_ _ e=>e) (λ_ _ _ e=>e) (λb ps e=>(#[],by rw[e];simp)) (λm hm=>?_) (λb u e=>?_) I.bare
 ·have e:=by simpa using Q
  subst e;exact(h1,P,h2,h3)
 ·let(o,es,V,ho,r):=hm;exact(o,es,V,k _ o (Ne.symm P) ho,r)
 ·refine(I.hok b u e).eC (λc v g q=>k c v ?_ q) (λ_ q=>q) λ_ _ q=>q
  obtain z|z:=g
  ·rw[z];exact K b u e
  ·exact K c _ z
def Inv.tok(I:Inv X gd σ H s)(t:Nat):Inv X gd σ H {s with toks:=t}:=I.un Un.refl I.hok
theorem Inv.kept{t':Nat}(I:Inv X gd σ H s)(k:∀b u,s.heap.get? b=Z u->h'.get? b=Z u):Inv X gd σ H {s with heap:=h',toks:=t'}:=I.un (Un.kept k) (I.hok.kept k)
theorem Inv.laid{a:J}{o:HO}{t':Nat}(I:Inv X gd σ H s)(k:∀b u,s.heap.get? b=Z u->h'.get? b=Z u)(hp:s.heap.objs.size<=a)(new:dm X.prog X.w (upd H a o) h' a o):
  Inv X gd σ (upd H a o) {s with heap:=h',toks:=t'}:=I.un (Un.laid k hp (I.hok.fresh hp)) (I.hok.laid k hp new)
theorem Inv.write{x e:J}{o:HO}{t':Nat}(I:Inv X gd σ H s)(q:Mut (H x))(he:e=x\/H e=Z (.own x))(k:∀b u,b≠e->s.heap.get? b=Z u->h'.get? b=Z u)(g:∃u,h'.get? e=Z u)
  (new:dm X.prog X.w (upd H x o) h' x o):Inv X gd σ (upd H x o) {s with heap:=h',toks:=t'}:=I.un (Un.write q he k g) (I.hok.write q he k g new)
def Inv.qK{pins':List (J×Obj)}(I:Inv X gd σ H s)(h:∀p∈pins',s.heap.get? p.1=Z p.2/\H p.1=Y/\p.1≠X.env.locals/\p.1 ∉ X.fs/\∀v,p.2.data ≠ .cell v):Inv X pins' σ H s :=
 (I.ok,I.os,I.bare,I.base,I.loc,I.cell,I.free,I.iN,λp hp=>(mu.mp hp).elim (λz=>I.pin p (px _ z)) (h p),I.hok,I.len)
def v9(g:N.Nodup)(a:N[i]?=Z x)(b:N[j]?=Z x):i=j:=by
 let(h1,z):=kf.mp a;let(h2,q):=kf.mp b;exact(List.getElem_inj g).mp (z.trans q.symm)
abbrev AT(X:Cx)(x:Str):Prop:=X.fn x=true\/X.env.scope.names.lookup x=some .local
def Hh{M:Model}{A:Do}{E:B->ϋ->Prop}{v:V}{Q:Unit->ϋ->Prop}(I:Inv X gd σ H s)(hN:X.N.Nodup)(hi:X.N[i]?=Z x)(hx:Loc X.env.scope x)(r:RelV v u)
  (h:∀s',Inv X gd (σ.set i (Z v)) H s'->(∃a,Zr a s.heap s'.heap/\(a=X.env.locals\/X.env.cells.lookup x=Z a))->Q () s') (hf:AT X x:=by first|exact .inl rfl|exact .inr rfl|assumption):wpAny M A (storeName X.env x u) Q E s:=by
 let(m,hn,hl):=id I.loc;have B8:(X.env.scope.kind == .class ||(X.env.scope.kind == .module&&X.env.locals != X.env.globals))=false:=by rw[I.ok.kind];rfl
 have ah:i < σ.length:=by rw[I.len];exact(kf.mp hi).1
 have cne:=I.cne;have tracked:∀{a:J}{h':Ev},(∃o,s.heap.get? a=Z o/\H a=Y)->Zr a s.heap h'->HOk X.prog X.w H h':=λ{a h'} ha hs b ob e=>by
  let(_,_,lU):=ha;refine(I.hok b ob e).eC (λc w' K q=>(hs.2 c ?_).trans q) (λ_ q=>q) λ_ _ q=>q
  rintro rfl
  obtain rfl|K:=K
  ·rw[lU]at e;cases e
  ·rw[lU]at K;cases K
 obtain hk|hk:=hx
 ·refine wpAny_storeName_local hk hn (λh' aL hs=>?_) B8
  let(oL,_,_,aH,_):=id hn;refine h _ (I.ok,I.os,I.bare,(λb o e n hb hx=>?_,λb o e n hb hx=>?_,I.base.free,λb o e hx=>?_,I.base.sk,I.base.pN,I.base.sr),(_,aL,λj y v' g P e3=>?_),λy c e=>?_,I.free,I.iN,λp hp=>?_,tracked (oL,aH,I.free) hs,by simpa using I.len) (_,hs,.inl U)
  ·exact(hs.2 b (Aw (wa (uY e) I.ok.above))).trans (I.base.keep b o e n hb hx)
  ·let(sl,g):=I.base.slot b o e n hb hx;exact(sl,(hs.2 b (Aw (wa (uY e) I.ok.above))).trans g)
  ·let(o',g):=I.base.there b o e hx;exact(o',(hs.2 b (Aw (wa (uY e) I.ok.above))).trans g)
  ·by_cases hj:j=i
   ·subst hj;rw[hi]at g;cases g;rw[u6 ah]at P;cases P;exact(u,r,.inl (hk,by simp))
   ·rw[ui (Ne.symm hj)]at P;let(u',r',q):=hl j y v' g P e3;refine(u',r',?_);obtain⟨k,e⟩|⟨k,c,e,z⟩:=q
    ·refine .inl (k,?_)
     have:y≠x:=λe=>hj (v9 hN g (e▸hi))
     simp[this,e]
    ·exact .inr (k,c,e,z.sameBut hs (cne y c e))
  ·let(w',z):=I.cell y c e;exact(w',z.sameBut hs (cne y c e))
  ·let(e,n,ne,nf,d):=I.pin p hp;exact((hs.2 p.1 ne).trans e,n,ne,nf,d)
 ·have ak:X.fn x=true:=by
   obtain z|z:=hf
   ·exact z
   ·rw[z]at hk;cases hk
  let(c,K):=I.ok.has x (.inl hk);let(w',z):=I.cell x c K;refine wpAny_storeName_cell I.ok.kind hk K z (λh' aD hs=>?_)
  let(oc,au,Yh):=id z;refine h {s with heap:=h'} (I.ok,I.os,I.bare,(λb o e n hb hx=>?_,λb o e n hb hx=>?_,I.base.free,λb o e hx=>?_,I.base.sk,I.base.pN,I.base.sr),(m,hn.sameBut hs (Ne.symm (cne x c K)),λj y v' g P e3=>?_),λy c' e=>?_,I.free,I.iN,λp hp=>?_,tracked (oc,au,I.iN x c K) hs,by simpa using I.len) (c,hs,.inr K)
  ·exact(hs.2 b (Aw (wa (uY e) (I.ok.cab x c ak K)))).trans (I.base.keep b o e n hb hx)
  ·let(sl,g):=I.base.slot b o e n hb hx;exact(sl,(hs.2 b (Aw (wa (uY e) (I.ok.cab x c ak K)))).trans g)
  ·let(o',g):=I.base.there b o e hx;exact(o',(hs.2 b (Aw (wa (uY e) (I.ok.cab x c ak K)))).trans g)
  ·by_cases hj:j=i
   ·subst hj;rw[hi]at g;cases g;rw[u6 ah]at P;cases P;exact(u,r,.inr (.inl hk,c,K,aD))
   ·rw[ui (Ne.symm hj)]at P;let(u',r',q):=hl j y v' g P e3;refine(u',r',?_);obtain q |⟨k,c',e,z'⟩:=q
    ·exact .inl q
    ·refine .inr (k,c',e,z'.sameBut hs ?_)
     rintro rfl
     exact hj (v9 hN g (I.ok.inj _ _ _ e K▸hi))
  ·by_cases aw:c'=c
   ·subst aw;exact(_,aD)
   ·let(w2,z2):=I.cell y c' e;exact(w2,z2.sameBut hs aw)
  ·let(e,n,ne,nf,d):=I.pin p hp;refine((hs.2 p.1 ?_).trans e,n,ne,nf,d);intro q;rw[q,au]at e;have q':=Option.some.inj e;exact d w' (by rw[<- q'];exact Yh)
def ki{M:Model}{A:Do}{E:B->ϋ->Prop}{v:V}{Q:Unit->ϋ->Prop}(I:Inv X gd σ H s)(g:X.N.Nodup)(hi:X.N[i]?=Z x)(hx:Loc X.env.scope x)(r:RelV v u)
  (h:∀s',Inv X gd (σ.set i (Z v)) H s'->Q () s') (hf:AT X x:=by first|exact .inl rfl|exact .inr rfl|assumption):wpAny M A (storeName X.env x u) Q E s :=
 Hh I g hi hx r (λs' q _=>h s' q) hf
def Inv.Cs(I:Inv X gd σ H s)(ho:s'.os=s.os)(u:Un (frs X.stack) ch H H' s.heap s'.heap)(hok:HOk X.prog X.w H' s'.heap)(hg:AllBare s'.gens)
  (g:∀b∈ch,(b∈X.ex\/X.s₀.heap.objs.size<=b)/\b≠X.env.locals/\(∀x c,X.env.cells.lookup x=Z c->c≠b)/\∀p∈X.pn++gd,p.1≠b):Inv X gd σ H' s':=by
 let(h',g',q,t',o'):=s';have e:=ho;subst e;exact I.call u hok hg g
end
abbrev XK:=B->Option J->Hp->Prop
abbrev St:=List (Option V)
abbrev VK:=V->Hp->Prop
abbrev TE:=St->Hp->VK->Prop
abbrev TT:=St->Hp->(Bool->Hp->Prop)->Prop
abbrev TA:=St->Hp->(List V->Hp->Prop)->Prop
structure Ends where
 nx:St->Hp->Prop
 rt:VK
 bk:St->Hp->Prop:=λ_ _=>False
 ct:St->Hp->Prop:=λ_ _=>False
abbrev TS:=Ends->St->Hp->Prop
inductive EP(X:Cx)(gd:List (J×Obj))(σ:St)(Q:VK)(u:B)(s':ϋ):Prop
 |mk(v H':_)(h1:Inv X gd σ H' s')(h2:RelV v u)(h3:Q v H')
inductive TP(X:Cx)(gd:List (J×Obj))(σ:St)(Q:Bool->Hp->Prop)(b:Bool)(s':ϋ):Prop
 |mk(H':_)(h1:Inv X gd σ H' s')(h2:Q b H')
inductive AP(X:Cx)(gd:List (J×Obj))(σ:St)(Q:List V->Hp->Prop)(us:List B)(s':ϋ):Prop
 |mk(vs H':_)(h1:Inv X gd σ H' s')(h2:Vals vs us)(h3:Q vs H')
def SP(X:Cx)(gd:List (J×Obj))(D:Ends)(f:Flow)(s':ϋ):Prop :=
 match f with
 |.next=>∃g H',Inv X gd g H' s'/\D.nx g H'
 |.brk=>∃g H',Inv X gd g H' s'/\D.bk g H'
 |.cont=>∃g H',Inv X gd g H' s'/\D.ct g H'
 |.ret u=>∃v g H',Inv X gd g H' s'/\RelV v u/\D.rt v H'
def PE(X:Cx)(e:EQ)(t:TE):Prop :=
 ∀(gd:List (J×Obj))(s:ϋ)(σ:St)(H:Hp)(Q:VK),Inv X gd σ H s->t σ H Q->XV X (eval e X.env) (EP X gd σ Q) X.xe s
def PT(X:Cx)(e:EQ)(t:TT):Prop :=
 ∀(gd:List (J×Obj))(s:ϋ)(σ:St)(H:Hp)(Q:Bool->Hp->Prop),Inv X gd σ H s->t σ H Q->XV X (isTrue e X.env (eval e X.env)) (TP X gd σ Q) X.xe s
def PW(X:Cx)(e:EQ)(t:TT):Prop :=
 ∀(whole:Sem B)(gd:List (J×Obj))(s:ϋ)(σ:St)(H:Hp)(Q:Bool->Hp->Prop),Inv X gd σ H s->t σ H Q->XV X (isTrue e X.env whole) (TP X gd σ Q) X.xe s
variable{X:Cx}{e:EQ}
def PW.pt{t:TT}(h:PW X e t):PT X e t:=h _
def PA(X:Cx)(es:List EQ)(t:TA):Prop :=
 ∀(pos:Pos)(gd:List (J×Obj))(s:ϋ)(σ:St)(H:Hp)(Q:List V->Hp->Prop),Inv X gd σ H s->t σ H Q->XV X (spliced (backTo pos (dO es X.env))) (AP X gd σ Q) X.xe s
def PS(X:Cx)(st:Fk)(t:TS):Prop :=
 ∀(gd:List (J×Obj))(s:ϋ)(σ:St)(H:Hp)(D:Ends),Inv X gd σ H s->t D σ H->XV X (exec st X.env) (SP X gd D) X.xe s
def PSs(X:Cx)(st:List Fk)(t:TS):Prop :=
 ∀(gd:List (J×Obj))(s:ϋ)(σ:St)(H:Hp)(D:Ends),Inv X gd σ H s->t D σ H->XV X (execs st X.env) (SP X gd D) X.xe s
variable{M:Model}{A:Do}{E:B->ϋ->Prop}{s:ϋ}
def thn{α:Type}{t:Sem α}{Q g:α->ϋ->Prop}(h:wpAny M A t Q E s)(q:∀a s,Q a s->g a s):wpAny M A t g E s:=E3 h q λ_ _ x=>x
variable{gd:List (J×Obj)}{Q:B->ϋ->Prop}{op:CmpOp}
section
inductive cc(i:Nat)(σ:St)(H:Hp)(Q:VK):Prop
 |mk(v:_)(h1:σ[i]?=Z (Z v))(h2:Q v H)
def tC(v:V):TE:=λ_ H Q=>Q v H
abbrev AS(x:Str):Prop:=(x ==("__debug__":Str))=false
def zx(P:X.N[i]?=Z x)(hv:Vis X.env.scope x)(hd:autoParam (AS x) zdc._auto_1)(q:autoParam ((x ==("__classdict__":Str))=false) zdc._auto_1):PE X (.Name x pos) (cc i):=by
 intro gd s σ H Q I h;let(v,e,h):=h;let(m,hn,hl):=I.loc;let(u,r,l):=hl i x v P e hv;have fin:EP X gd σ Q u s:=(v,H,I,r,h);obtain⟨g,hm⟩|⟨g,c,K,z⟩:=l
 ·exact wpAny_Name (wpAny_loadName_local I.ok.kind g hn hm fin) hd
 ·obtain g|g:=g
  ·exact wpAny_Name (wpAny_loadName_cell I.ok.kind g K z fin) hd
  ·exact wpAny_Name (wpAny_loadName_free I.ok.kind g K z fin q) hd
def b7{i j pos}:PE X (.Constant (.int i) j pos) (tC (.int i)):=λ_ _ _ H _ I h=>wpAny_Constant_int (.int i,H,I.tok _,(_,U),h)
def V4{b j pos}:PE X (.Constant (.bool b) j pos) (tC (.bl b)):=λ_ _ _ H _ I h=>Constant_bool (.bl b,H,I,U,h)
def SV{j pos}:PE X (.Constant .none j pos) (tC .non):=λ_ _ _ H _ I h=>Constant_none (.non,H,I,U,h)
def gF{x j pos}:PE X (.Constant (.str x) j pos) (tC (.str x)):=λ_ _ _ H _ I h=>Calls.Constant_str (.str x,H,I.tok _,(_,U),h)
def Gl(X:Cx)(x:Str):Prop:=X.env.kindOf x=Z .globalImplicit
def nT{E:B->ϋ->Prop}{σ:St}{pos:Pos}(I:Inv X gd σ H s)(hg:Gl X x)(hm:X.mg x=Z u)(h:Q u s)
  (hd:autoParam (AS x) zdc._auto_1):XV X (eval (.Name x pos) X.env) Q E s :=
 Calls.Name_function_global I.ok.kind hg (Calls.loadGlobal_global (by rw[I.ok.glob];exact I.mod.glob.keeps I.bk) hm h) hd
def nc{E:B->ϋ->Prop}{σ:St}{pos:Pos}(I:Inv X gd σ H s)(hg:Gl X x)(hm:X.mg x=Y)(hv:bootBuiltins x=Z u)(h:Q u s)
  (hn:autoParam (x ≠ "__name__") zdc._auto_1) (hd:autoParam (AS x) zdc._auto_1):XV X (eval (.Name x pos) X.env) Q E s:=by
 let(mb,h1,h2):=I.mod.blt;exact Calls.Name_function_global I.ok.kind hg (Calls.loadGlobal_builtin (by rw[I.ok.glob];exact I.mod.glob.keeps I.bk) hm (by rw[I.ok.blt];exact h1.keeps I.bk) ((h2 x hn).trans hv) h) hd
def zy{v:V}(hg:Gl X x)(hm:X.mg x=Z u)(r:RelV v u)(hd:autoParam (AS x) zdc._auto_1):PE X (.Name x pos) (tC v) :=
 λ_ _ _ H _ I h=>nT I hg hm (v,H,I,r,h) hd
def FV{v:V}(hg:Gl X x)(hm:X.mg x=Y)(hv:bootBuiltins x=Z u)(r:RelV v u)(hn:autoParam (x ≠ "__name__") zdc._auto_1)(hd:autoParam (AS x) zdc._auto_1):PE X (.Name x pos) (tC v) :=
 λ_ _ _ H _ I h=>nc I hg hm hv (v,H,I,r,h) hn hd
variable{a b:EQ}{ta tb:TE}{pos:Pos}
def Lh(b:EQ)(h:op ≠ .In)(h2:op ≠ .NotIn):behindInMarks op b=false:=by
 have q:(op==CmpOp.In)=false:=by cases op <;> first|rfl|exact absurd U h
 have g:(op==CmpOp.NotIn)=false:=by cases op <;> first|rfl|exact absurd U h2
 cases b with
 |Set elts k pos =>
  show(k==0&&(op==CmpOp.In||op==CmpOp.NotIn)&&_)=ϊ
  rw[q,g]
  cases(k==0) <;> rfl
 |_=>rfl
variable{tA tB':TT}{rest:List EQ}
def Rv(t u:TT):TT:=λσ H Q=>t σ H λc H1=>if c=O then u σ H1 Q else Q ϊ H1
def tOr(t u:TT):TT:=λσ H Q=>t σ H λc H1=>if c=O then Q O H1 else u σ H1 Q
def Rq(t:TT):TT:=λσ H Q=>t σ H λc H1=>Q (!c) H1
def FH(ha:PT X a tA):PW X (.BoolOp .And [a] pos) tA:=by
 intro g gd s σ H Q I h;refine isTrue_and (thn (ha gd s σ H Q I h) λc s1 e=>?_)
 cases c with
 |true=>exact isTrue_and_nil e
 |false=>exact e
def Sf(ha:PT X a tA):PW X (.BoolOp .Or [a] pos) tA:=by
 intro g gd s σ H Q I h;refine isTrue_or (thn (ha gd s σ H Q I h) λc s1 e=>?_)
 cases c with
 |false=>exact isTrue_or_nil e
 |true=>exact e
def KA(ha:PT X a tA)(P:PW X (.BoolOp .And (b::rest) pos) tB'):PW X (.BoolOp .And (a::b::rest) pos) (Rv tA tB'):=by
 intro K gd s σ H Q I h;refine isTrue_and (thn (ha gd s σ H _ I h) λc s1 g=>?_)
 let(H1,z,q):=g;cases c with
 |true=>exact P K gd s1 σ H1 Q z q
 |false=>exact(H1,z,q)
def VX(ha:PT X a tA)(P:PW X (.BoolOp .Or (b::rest) pos) tB'):PW X (.BoolOp .Or (a::b::rest) pos) (tOr tA tB'):=by
 intro K gd s σ H Q I h;refine isTrue_or (thn (ha gd s σ H _ I h) λc s1 g=>?_)
 let(H1,z,q):=g;cases c with
 |true=>exact(H1,z,q)
 |false=>exact P K gd s1 σ H1 Q z q
def Sj(ha:PT X a tA):PT X (.UnaryOp .Not a pos) (Rq tA):=by
 intro gd s σ H Q I h;refine isTrue_not (thn (ha gd s σ H (λc H1=>Q (!c) H1) I h) λc s' z=>?_)
 let(H',g,q):=z;exact(H',g,q)
def Jy(ta tb:TE):TE:=λσ H Q=>ta σ H λx H1=>∃c,x=.bl c/\if c=O then tb σ H1 Q else Q (.bl ϊ) H1
def Ro(ta tb:TE):TE:=λσ H Q=>ta σ H λx H1=>∃c,x=.bl c/\if c=O then Q (.bl O) H1 else tb σ H1 Q
def SU{op}{t:TE}(h:PE X a t):PE X (.BoolOp op [a] pos) t:=λgd s σ H Q I hw=>BoolOp_one (h gd s σ H Q I hw)
def SW(ha:PE X a ta)(P:PE X (.BoolOp .And (b::rest) pos) tb):PE X (.BoolOp .And (a::b::rest) pos) (Jy ta tb):=by
 intro gd s σ H Q I h;refine BoolOp_and (thn (ha gd s σ H _ I h) λv s1 q=>?_)
 let(x,H1,z,K,g):=q;let(c,U,g):=g;cases K;refine wpAny_truthy_bool ?_;cases c with
 |true=>exact P gd s1 σ H1 Q z g
 |false=>exact(.bl ϊ,H1,z,U,g)
def V3(ha:PE X a ta)(P:PE X (.BoolOp .Or (b::rest) pos) tb):PE X (.BoolOp .Or (a::b::rest) pos) (Ro ta tb):=by
 intro gd s σ H Q I h;refine BoolOp_or (thn (ha gd s σ H _ I h) λv s1 q=>?_)
 let(x,H1,z,K,g):=q;let(c,U,g):=g;cases K;refine wpAny_truthy_bool ?_;cases c with
 |false=>exact P gd s1 σ H1 Q z g
 |true=>exact(.bl O,H1,z,U,g)
def tIf(t:TT)(ta tb:TE):TE:=λσ H Q=>t σ H λc H1=>if c=O then ta σ H1 Q else tb σ H1 Q
def K6{c:EQ}(K:PT X c tA)(ha:PE X a ta)(P:PE X b tb):PE X (.IfExp c a b pos) (tIf tA ta tb):=by
 intro gd s σ H Q I h;refine wpAny_IfExp (thn (K gd s σ H _ I h) λd s1 g=>?_)
 let(H1,z,q):=g;cases d with
 |true=>exact ha gd s1 σ H1 Q z q
 |false=>exact P gd s1 σ H1 Q z q
end
def SqL(K:BT)(H:Hp)(a:J)(xs:List V):Prop :=
 Rd H a (.lst xs) \/
  ∃(o:Obj)(its:Array B)(n:Nat),K.lookup a=Z o/\o.cls=.type "list" /\ o.dict=Y/\o.data=.seq its n/\its.size<=ot/\Vals xs its.toList
def SqT(K:BT)(H:Hp)(a:J)(xs:List V):Prop :=
 Rd H a (.tup xs) \/
  ∃(o:Obj)(its:Array B)(n:Nat),K.lookup a=Z o/\o.cls=.type "tuple" /\ o.data=.seq its n/\its.size<=ot/\Vals xs its.toList
def Yx:B->Option V
 |.none=>Z .non
 |.bool b=>Z (.bl b)
 |.int i _=>Z (.int i)
 |.str x _=>Z (.str x)
 |.bytes b _=>Z (.byt b)
 |.float b _=>Z (.flt b)
 |.ref a=>Z (.ref a)
 |.type n=>Z (.ty n)
 |_=>Y
def RelV.abs{x:V}(r:RelV x u):Yx u=Z x:=by
 cases x with
 |non=>cases r;rfl
 |bl _=>cases r;rfl
 |int _=>let(t,U):=r;rfl
 |str _=>let(t,U):=r;rfl
 |byt _=>let(t,U):=r;rfl
 |flt _=>let(t,U):=r;rfl
 |ref _=>cases r;rfl
 |ty _=>cases r;rfl
theorem RelV.inj{x y:V}{u:B}(r:RelV x u)(q:RelV y u):x=y:=Option.some.inj (r.abs.symm.trans q.abs)
theorem Vals.inj:∀{xs ys:List V}{us:List B},Vals xs us->Vals ys us->xs=ys:=by
 intro xs ys us h
 induction h generalizing ys with
 |nil=>intro h';cases h';rfl
 |cons r t g=>intro h';cases h' with|cons r' t'=>rw[r.inj r',g t']
section
variable{σ:St}
theorem SqL.of{K:BT}(h:H a=Z (.lst xs)):SqL K H a xs:=.inl (.inl h)
theorem SqT.of{K:BT}(h:H a=Z (.tup xs)):SqT K H a xs:=.inl (.inl h)
def Inv.list(I:Inv X gd σ H s)(h:SqL X.K H a xs):∃its:List B,Vals xs its/\PlainL s.heap a its.toArray/\xs.length<=ot:=by
 obtain h |⟨o,its,n,g,q,hd,hs,P,r⟩:=h
 ·let(z,its,n,r,e):=h.ok I.hok;exact(its,r,(_,n,e,U,U,U),z)
 ·refine(its.toList,r,(o,n,I.kIn a o g,q,hd,by simpa using hs),?_)
  have e:=r.length;simp only[Y4]at e
  lia
def Inv.tuple(I:Inv X gd σ H s)(h:SqT X.K H a xs):∃its:List B,Vals xs its/\IsTup s.heap a its.toArray/\xs.length<=ot:=by
 obtain h |⟨o,its,n,g,q,hs,P,r⟩:=h
 ·let(z,its,r,p):=h.ok I.hok;exact(its,r,p.1,z)
 ·refine(its.toList,r,(o,I.kIn a o g,q,n,by simpa using hs),?_)
  have e:=r.length;simp only[Y4]at e;omega
def Inv.wg(I:Inv X gd σ H s)(h:SqL X.K H a xs)(h':SqL X.K H a ys):xs=ys:=by
 let(its,r,(o,n,e,_,_,d),_):=I.list h;let(P,r',(o',Q,g,_,_,q),_):=I.list h';rw[e]at g;cases g;rw[d]at q;injection q with z _
 have:=by simpa using congrArg Array.toList z
 subst this;exact r.inj r'
def Inv.xZ(I:Inv X gd σ H s)(h:SqT X.K H a xs)(h':SqT X.K H a ys):xs=ys:=by
 let(its,r,(o,e,_,n,d),_):=I.tuple h;let(P,r',(o',g,_,Q,q),_):=I.tuple h';rw[e]at g;cases g;rw[d]at q;injection q with z _
 have:=by simpa using congrArg Array.toList z
 subst this;exact r.inj r'
end
abbrev Cx.xn(X:Cx)(E:B->ϋ->Prop):Cx:={X with xe:=E}
abbrev Cx.nox(X:Cx):Cx:=X.xn λ_ _=>False
theorem Cx.Ok.xn{X:Cx}(ok:X.Ok)(E:B->ϋ->Prop):(X.xn E).Ok :=
 (ok.mod,ok.kind,ok.glob,ok.blt,ok.above,ok.inj,ok.has,ok.cab,ok.hd,ok.frames,ok.stk,ok.exf,ok.bs,ok.bsz,ok.D8,ok.Iz,ok.oj,ok.frf)
def Cx.Ok.mB(ok:(X.xn E).Ok):X.Ok :=
 (ok.mod,ok.kind,ok.glob,ok.blt,ok.above,ok.inj,ok.has,ok.cab,ok.hd,ok.frames,ok.stk,ok.exf,ok.bs,ok.bsz,ok.D8,ok.Iz,ok.oj,ok.frf)
section
variable{σ:St}
theorem Inv.xn(I:Inv X gd σ H s)(E:B->ϋ->Prop):Inv (X.xn E) gd σ H s:=(I.ok.xn E,I.os,I.bare,I.base,I.loc,I.cell,I.free,I.iN,I.pin,I.hok,I.len)
theorem Inv.mB(I:Inv (X.xn E) gd σ H s):Inv X gd σ H s:=(I.ok.mB,I.os,I.bare,I.base,I.loc,I.cell,I.free,I.iN,I.pin,I.hok,I.len)
theorem SP.mB{D:Ends}{f:Flow}{s':ϋ}(h:SP (X.xn E) gd D f s'):SP X gd D f s':=by
 cases f with
 |next=>let(g,H',I,q):=h;exact(g,H',I.mB,q)
 |brk=>let(g,H',I,q):=h;exact(g,H',I.mB,q)
 |cont=>let(g,H',I,q):=h;exact(g,H',I.mB,q)
 |ret u=>let(v,g,H',I,r,q):=h;exact(v,g,H',I.mB,r,q)
theorem PSs.nox{st:List Fk}{t:TS}(h:PSs X.nox st t):PSs X st t:=λgd s σ H D I hw =>
 E3 (h gd s σ H D (I.xn _) hw) (λ_ _ q=>q.mB) λ_ _ z=>False.elim z
end
section
variable{st:Fk}{rest:List Fk}{t u:TS}{te:TE}{pos:Pos}
def PU:TS:=λD σ H=>D.nx σ H
def Rm(t u:TS):TS:=λD σ H=>t {D with nx:=u D} σ H
def FJ:PSs X [] PU:=λ_ _ σ H _ I h=>wpAny_execs_nil (σ,H,I,h)
def dB(h1:PS X st t)(h2:PSs X rest u):PSs X (st::rest) (Rm t u):=by
 intro gd s σ H D I h;refine wpAny_execs_cons (thn (h1 gd s σ H {D with nx:=u D} I h) λf s1 q=>?_)
 cases f with
 |next =>
  let(g,H',z,q):=q;exact h2 gd s1 g H' D z q
 |ret v=>exact q
 |brk=>exact q
 |cont=>exact q
def jC(h1:PS X st t):PSs X [st] t:=by
 intro gd s σ H D I h;refine wpAny_execs_cons (thn (h1 gd s σ H D I h) λf s1 q=>?_)
 cases f with
 |next=>exact wpAny_execs_nil q
 |ret v=>exact q
 |brk=>exact q
 |cont=>exact q
def PX:TS:=λD σ H=>D.ct σ H
def Bi:PS X (.Continue pos) PX:=λ_ _ σ H _ I h=>wpAny_Continue (σ,H,I,h)
def Inv.quiet{σ:St}(I:Inv X gd σ H s):interactive X.env=false:=by simp[interactive,I.ok.kind]
def mD(te:TE):TS:=λD σ H=>te σ H λ_ H1=>D.nx σ H1
def jD(he:PE X e te)(hs:‹swapsWith e Y pos.line X.env=pure false›):PS X (.Expr e pos) (mD te):=by
 intro gd s σ H D I h;exact wpAny_Expr_any (thn (he gd s σ H _ I h) λv s1 (x,H1,q,z,g)=>(σ,H1,q,g)) I.quiet hs
def Ju(te:TE):TS:=λD σ H=>te σ H D.rt
def pj(he:PE X e te):PS X (.Return (Z e) pos) (Ju te):=by
 intro gd s σ H D I h;exact wpAny_Return_some (thn (he gd s σ H _ I h) λv s1 (x,H1,z,g,q)=>(x,σ,H1,z,g,q))
def Ni(c:TT)(t u:TS):TS:=λD σ H=>c σ H λb H1=>if b=O then t D σ H1 else u D σ H1
def FK{c:EQ}{a b:List Fk}{tc:TT}(K:PT X c tc)(ha:PSs X a t)(P:PSs X b u):PS X (.If c a b pos) (Ni tc t u):=by
 intro gd s σ H D I h;refine wpAny_If (thn (K gd s σ H _ I h) λd s1 g=>?_)
 let(H1,z,q):=g;cases d with
 |true=>exact ha gd s1 σ H1 D z q
 |false=>exact P gd s1 σ H1 D z q
end
abbrev TG:=V->St->Hp->(St->Hp->Prop)->Prop
abbrev TGs:=List V->St->Hp->(St->Hp->Prop)->Prop
def PG(X:Cx)(target:EQ)(t:TG):Prop :=
 ∀(gd:List (J×Obj))(s:ϋ)(σ:St)(H:Hp)(v:V)(u:B)(Q:St->Hp->Prop),Inv X gd σ H s->RelV v u->t v σ H Q ->
  XV X (assign target X.env u) (λ_ s'=>∃g H',Inv X gd g H' s'/\Q g H') X.xe s
def PGs(X:Cx)(ts:List EQ)(t:TGs):Prop :=
 ∀(gd:List (J×Obj))(s:ϋ)(σ:St)(H:Hp)(vs:List V)(us:List B)(Q:St->Hp->Prop),Inv X gd σ H s->Vals vs us->t vs σ H Q ->
  XV X (assignInOrder ((assignEach ts X.env).map (·.2)) us) (λ_ s'=>∃g H',Inv X gd g H' s'/\Q g H') X.xe s
abbrev UK:=V->V->V->Hp->(Hp->Prop)->Prop
def Xt(X:Cx)(t:UK):Prop :=
 ∀(gd:List (J×Obj))(s:ϋ)(σ:St)(H:Hp)(o i v:V)(g iv u:B)(Q:Hp->Prop),Inv X gd σ H s->RelV o g->RelV i iv->RelV v u->t o i v H Q ->
  XV X (setItem g iv u) (λ_ s'=>∃H',Inv X gd σ H' s'/\Q H') X.xe s
variable{es:List EQ}{n:Nat}{to:TE}{tg:EQ}{te:TE}{b:EQ}
section
variable{pos:Pos}
def jF(i:Nat):TG:=λv σ H Q=>Q (σ.set i (Z v)) H
def qL(g:X.N.Nodup)(hi:X.N[i]?=Z x)(hx:Loc X.env.scope x)(hf:AT X x:=by first|exact .inl rfl|exact .inr rfl|assumption):PG X (.Name x pos) (jF i):=by
 intro gd s σ H v u Q I r h;exact wpAny_assign_Name (ki I g hi hx r (λs' q=>(_,H,q,h)) hf)
def Pe:TGs:=λvs σ H Q=>vs=[]/\Q σ H
def yl(t:TG)(u:TGs):TGs:=λvs σ H Q=>∃v r,vs=v::r/\t v σ H λg H'=>u r g H' Q
def vh:PGs X [] Pe:=by
 intro gd s σ H vs us Q I r h;let(e,h):=h;subst e;exact assignInOrder_nil (σ,H,I,h)
def fD{t:TG}{u:TGs}(h1:PG X e t)(h2:PGs X es u)
  (hs:‹(assignEach (e::es) X.env).map (·.2)=assign e X.env ::(assignEach es X.env).map (·.2)›):PGs X (e::es) (yl t u):=by
 intro gd s σ H vs us Q I r h;let(v,V,K,h):=h;subst K;cases r with
 |cons r q =>
  rw[hs];exact assignInOrder_cons (thn (h1 gd s σ H _ _ _ I r h) λ_ s1 (g,H1,P,z)=>(h2 gd s1 g H1 _ _ Q P q z))
inductive LR(K:BT)(n:Nat)(t:TGs)(v:V)(σ:St)(H:Hp)(Q:(St->Hp->Prop)):Prop
 |mk(a xs:_)(h1:v=.ref a)(h2:SqT K H a xs)(h3:xs.length=n)(h4:t xs σ H Q)
def K0{k:Nat}{t:TGs}(V:X.calm=O)(h:PGs X es t)
  (hn:‹(assignEach es X.env).length=n›) (g:‹(assignEach es X.env).findIdx? (·.1)=none›):PG X (.Tuple es k pos) (LR X.K n t):=by
 intro gd s σ H v u Q I r hw;let(a,xs,e1,P,hl,hw):=hw;subst e1;cases r;let(its,q,z,hz):=I.tuple P;refine assign_Tuple_tuple (I.ok.hd V) z (by simp[hn,<- hl,q.length]) g λh' hx=>?_
 have I1:=I.kept (t':=s.toks) λb o e=>hx b o (Aw (uY e)) e
 exact h gd _ σ H xs _ Q I1 (by simpa using q) hw
def Iv(to g:TE)(t:UK):TG:=λv σ H Q=>to σ H λo H1=>g σ H1 λi z=>t o i v z λq=>Q σ q
def DT{o i:EQ}{q:TE}{t:UK}(ho:PE X o to)(hi:PE X i q)(hs:Xt X t)
  (ha:∀v,assign (.Subscript o i pos) X.env v=(do
   let g <- holding [v] (eval o X.env)
   let iv <- holding [v,g] (eval i X.env)
   standAt pos
   holding [v,g,iv] (setItem g iv v)
   release [v,g,iv] []):=by intro _;rfl):PG X (.Subscript o i pos) (Iv to q t):=by
 intro gd s σ H v u Q I r h;exact fH (Zc (thn (ho gd s σ H _ I h) λg s1 (x,H1,I1,K,q1)=>(fH (Zc (thn (hi gd s1 σ H1 _ I1 q1) λiv s2 (y,H2,I2,z,V)=>(fH (wpAny_standAt (fH (Zc (thn (hs gd s2 σ H2 x y v g iv u _ I2 K z r V) λ_ s3 (H3,I3,P)=>(wpAny_release (σ,H3,I3,P))))))))))))
def uM(te:TE)(g:TG):TS:=λD σ H=>te σ H λx H1=>g x σ H1 D.nx
def KJ{g:TG}(he:PE X e te)(hg:PG X tg g)(hs:‹swapsWithSole [tg] e pos.line X.env=pure false›)(hw:‹swappedStores [tg] e X.env=pure none›)
  (h1:‹(assignEach [tg] X.env).map (·.2)=[assign tg X.env]›):PS X (.Assign [tg] e pos) (uM te g):=by
 intro gd s σ H D I h;refine wpAny_Assign_stores (thn (he gd s σ H _ I h) λv s1 z=>?_) hs hw
 let(x,H1,Q,K,P):=z;rw[h1];exact thn (hg gd s1 σ H1 x v _ Q K P) λ_ s2 q=>q
def lj(z:X.N.Nodup)(hi:X.N[i]?=Z x)(hx:Loc X.env.scope x)(he:PE X e te)(hs:‹swapsWith e (Z (.Name x pos')) pos.line X.env=pure false›)(hf:AT X x:=by first|exact .inl rfl|exact .inr rfl|assumption):
  PS X (.Assign [.Name x pos'] e pos) (uM te (jF i)):=by
 intro gd s σ H D I h;exact wpAny_Assign_Name (thn (he gd s σ H _ I h) λv s1 (y,H1,P,g,q)=>(ki P z hi hx g (λs2 K=>(_,H1,K,q)) hf)) hs
def Rn(i j:Nat)(ta:TA):TS:=λD σ H=>ta σ H λvs H1=>∃v w,vs=[v,w]/\D.nx ((σ.set i (Z v)).set j (Z w)) H1
abbrev BC(X:Cx)(x:Str):Prop:=X.env.scope.names.lookup x=some .local
def Sm{y:Str}{a:EQ}{ta:TA}{V pt:Pos}{kt k2 g}(hc:X.calm=O)(hN:X.N.Nodup)(hi:X.N[i]?=Z x)(hj:X.N[j]?=Z y)(ak:i≠j)
  (hx:BC X x) (hy:BC X y) (ha:PA X [a,b] ta)
  (hw:swappedStores [.Tuple [.Name x V,.Name y py] kt pt] (.Tuple [a,b] k2 g) X.env=pure (Z [x,y]))
  (hs:‹swapsWithSole [.Tuple [.Name x V,.Name y py] kt pt] (.Tuple [a,b] k2 g) pos.line X.env=pure false›):
  PS X (.Assign [.Tuple [.Name x V,.Name y py] kt pt] (.Tuple [a,b] k2 g) pos) (Rn i j ta):=by
 intro gd s σ H D I h;refine fH (wpAny_standAt ?_);refine fH (u7 ?_);refine fH (Tuple_ (thn (ha _ gd s σ H _ I h) λus s1 au=>?_))
 let(vs,H1,I1,r1,Q):=au;let(v,w,e1,Q):=Q;subst e1;obtain⟨K,z,rfl,rv,P⟩:∃K z,us=[K,z]/\RelV v K/\RelV w z:=by
  cases r1 with
  |cons p q =>
   cases q with
   |cons p' q' =>
    cases q';exact(_,_,U,p,p')
 refine Zf ?_ (by show 2<=ot;decide)
 have I2:Inv X gd σ H1 {s1 with heap:=s1.heap.push {cls:=.type "tuple",data:=.seq [K,z].toArray}}:=I1.kept λb o e=>iP _ e
 rw[hw];refine fH (u7 ?_);refine fH (Z4 (fH (unpackItems_tuple (items:=#[K,z]) (I.ok.hd hc) (IsTup.new s1.heap _) λh' ah=>?_)))
 have I3:=I2.kept (t':=s1.toks) λb o e=>ah b o (Aw (uY e)) e
 refine fH (assignInOrder_cons (wpAny_bindName (ki I3 hN hj (.inl hy) P (λs2 I4=>(assignInOrder_cons (wpAny_bindName (ki I4 hN hi (.inl hx) rv (λs3 I5=>assignInOrder_nil (u7 ?_)) (.inr hx))))) (.inr hy))))
 rw[List.set_comm _ _ (Ne.symm ak)]at I5;exact(_,H1,I5,Q)
end
variable{body:List Fk}
section
variable{pos:Pos}
def y4(c:TT)(tb:TS):TS:=λD σ H=>∃W:Nat->St->Hp->Prop,(∃m,W m σ H)/\∀m σ H,W m σ H ->
 c σ H λb H1=>if b=O then ∃N:St->Hp->Prop,(∀g H',N g H'->∃m',m'<m/\W m' g H')/\tb {D with nx:=N,ct:=N,bk:=D.nx} σ H1 else D.nx σ H1
def vO{c:EQ}{tc:TT}{tb:TS}(hp:ZY (model X.prog X.w) X.A X.env X.xe)(hc:PT X c tc)(hb:PSs X body tb):PS X (.While c body [] pos) (y4 tc tb):=by
 intro gd s σ H D I h;let(W,(m0,w0),turn):=h;refine wpAny_While (codeAny_whileLoop (λn s'=>∃z H',Inv X gd z H' s'/\W n z H') ?_ m0 (σ,H,I,w0))
 rintro n s1 ⟨q,H1,I1,w1⟩
 refine wpAny_passesOwn hp (thn (hc gd s1 q H1 _ I1 (turn n q H1 w1)) λb s2 ah=>?_)
 let(H2,I2,Q):=ah;cases b with
 |true =>
  let(N,hN,Q):=Q;refine wpAny_passesOwn hp (thn (hb gd s2 q H2 _ I2 Q) λf s3 P=>?_)
  cases f with
  |next =>
   let(g,K,I3,n3):=P;let(m',hm,V):=hN g K n3;exact(m',hm,g,K,I3,V)
  |cont =>
   let(g,K,I3,n3):=P;let(m',hm,V):=hN g K n3;exact(m',hm,g,K,I3,V)
  |brk=>exact P
  |ret v=>exact P
 |false =>
  exact wpAny_execs_nil (q,H2,I2,Q)
end
structure It where
 go:Nat->Hp->Prop
 yld:Nat->Hp->V->Hp->Prop
 stop:Nat->Hp->Prop
def xW(X:Cx)(gd:List (J×Obj))(H:Hp)(b:J):Prop :=
 H b=Y/\b≠X.env.locals/\b ∉ X.fs/\(b∈X.ex\/X.s₀.heap.objs.size<=b)/\(∀x c,X.env.cells.lookup x=Z c->c≠b)/\∀p∈X.pn++gd,p.1≠b
variable{H':Hp}
def Inv.Iw{σ:St}{b:J}(I:Inv X gd σ H s)(g:s.heap.objs.size<=b)(hn:H' b=Y):xW X gd H' b:=by
 refine(hn,ZK (wa I.lt g),I.Wf g,.inr (u4 I.sz g),λx c e z=>?_,λp hp z=>?_)
 ·let(v,q):=I.cell x c e;exact absurd (wa q.lt (by rw[z];exact g)) (EW _)
 ·exact absurd (wa (uY (I.pin p hp).1) (by rw[z];exact g)) (EW _)
structure Turn(P:Db)(w:Da)(K:BT)(tg:EQ)(ύ:It)(fp:List J)(it:J)(tn:Nat->Ev->Prop):Prop where
 mem:it∈fp
 obj:∀i h,tn i h->∀b∈fp,∃o,h.get? b=Z o/\∀v,o.data ≠ .cell v
 keep:∀i h h',tn i h->(∀b∈fp,∀o,h.get? b=Z o->h'.get? b=Z o)->tn i h'
 item:∀(X:Cx),X.prog=P->X.w=w->X.K=K->X.calm=O->∀(i:Nat)(gd:List (J×Obj))(s:ϋ)(σ:St)(H:Hp)(E:B->ϋ->Prop),Inv X gd σ H s->(∀b∈fp,xW X gd H b)->tn i s.heap->ύ.go i H ->
  wpAny (model P w) X.A (pyNext (.ref it)) (λr s1=>∃u,r=Z u /\
   wpAny (model P w) X.A (letOwnedTupleGo tg (.ref it) u) (λ_ s2=>∃x H',Inv X gd σ H' s2/\RelV x u/\ύ.yld i H x H'/\tn (i+1) s2.heap/\∀b∈fp,H' b=Y) E s1) E s
 done:∀(X:Cx),X.prog=P->X.w=w->X.K=K->X.calm=O->∀(i:Nat)(gd:List (J×Obj))(s:ϋ)(σ:St)(H:Hp)(E:B->ϋ->Prop),Inv X gd σ H s->(∀b∈fp,xW X gd H b)->tn i s.heap->ύ.stop i H ->
  wpAny (model P w) X.A (pyNext (.ref it)) (λr s1=>r=Y/\Inv X gd σ H s1) E s
 self:∀(A:Do)(i:Nat)(s:ϋ)(Q:B->ϋ->Prop)(E:B->ϋ->Prop),tn i s.heap->Q (.ref it) s->wpAny (model P w) A (pyIter (.ref it)) Q E s
abbrev TI:=St->Hp->(It->Hp->Prop)->Prop
def PIE(X:Cx)(gd:List (J×Obj))(σ:St)(tg:EQ)(R:It->Hp->Prop)(g:B)(s2:ϋ):Prop :=
 ∃(it:J)(fp:List J)(tn:Nat->Ev->Prop)(ύ:It)(H':Hp),g=.ref it/\Inv X gd σ H' s2/\Turn X.prog X.w X.K tg ύ fp it tn/\tn 0 s2.heap/\(∀b∈fp,xW X gd H' b)/\R ύ H'
def PI(X:Cx)(tg iter:EQ)(wi:TI):Prop :=
 ∀(gd:List (J×Obj))(s:ϋ)(σ:St)(H:Hp)(R:It->Hp->Prop),Inv X gd σ H s->wi σ H R ->
  XV X (eval iter X.env) (λv s1=>XV X (pyIter v) (PIE X gd σ tg R) X.xe s1) X.xe s
def Ca{o:Obj}{n:String}{vs:Array B}{Q:Unit->ϋ->Prop}(ho:s.heap.get? it=Z o)(q:o.cls=.type n)(hd:o.data=.fields vs)
  (hn:["enumerate","zip","dict_itemiterator","dict_reverseitemiterator","odict_iterator","itertools.zip_longest","itertools.pairwise"].contains n=ϊ) (g:Q () s):wpAny M A (letOwnedTupleGo tg (.ref it) u) Q E s:=by
 cases tg <;> first
  |exact u7 g
  | (cases u <;> first
    |exact u7 g
    | (refine fH (wpAny_load ho ?_)
       rw[q,hd];show wpAny M A (if(["enumerate","zip","dict_itemiterator","dict_reverseitemiterator","odict_iterator","itertools.zip_longest","itertools.pairwise"].contains n&&vs[0]? == Z (rawInt _))=O then _ else _) Q E s
       rw[if_neg (by intro h;rw[hn]at h;cases h)]
       exact u7 g))
def Itl(K:BT)(a:J):It :=
 (λi H=>∃xs x,SqL K H a xs/\xs[i]?=Z x,λi H x H'=>H'=H/\∀xs,SqL K H a xs->xs[i]?=Z x,λi H=>∃xs,SqL K H a xs/\xs.length<=i)
def Itt(K:BT)(a:J):It :=
 (λi H=>∃xs x,SqT K H a xs/\xs[i]?=Z x,λi H x H'=>H'=H/\∀xs,SqT K H a xs->xs[i]?=Z x,λi H=>∃xs,SqT K H a xs/\xs.length<=i)
def Itr(lo:Int)(n:Nat):It:=(λi _=>i<n,λi H x H'=>H'=H/\x=.int (lo+i),λi _=>n<=i)
variable{P:Db}
theorem Hb{w:Da}{K:BT}(a it:J):Turn P w K tg (Itl K a) [it] it (λi h=>h.IsListIter it a i) where
 mem:=by simp
 obj:=λi h st b g=>by
  have e:=by simpa using g
  subst e;let(o,e,c,d):=st;exact(o,e,λv z=>by rw[d]at z;cases z)
 keep:=λi h h' st k=>st.at λo e=>k it (by simp) o e
 item:=by
  intro X hP hw hK hc i gd s σ H E I hf st hg;subst hP hw hK;let(xs,x,Q,hx):=hg;let(its,V,p,hz):=I.list Q;let(u,hu,ru):=V.get hx;let(f0,f1,f2,f3,f4,f5):=hf it (by simp)
  refine wpAny_pyNext_list_item st p.isList (by simpa using hu) λh' q sb=>?_
  have I1:=I.turned (t':=s.toks) (λb o g e=>(sb.2 b g).trans e) f0 f1 f3 f4 f5
  let(o,e,c,d):=id q;exact(u,U,Ca e c d (by decide) (x,H,I1,ru,(U,λys hy=>by rw[I.wg hy Q];exact hx),q,λb g=>(hf b g).1))
 done:=by
  intro X hP hw hK hc i gd s σ H E I hf st hg;subst hP hw hK;let(xs,Q,hx):=hg;let(its,V,p,hz):=I.list Q;let(f0,f1,f2,f3,f4,f5):=hf it (by simp)
  have hl:=V.length;exact wpAny_pyNext_list_end (I.ok.hd hc) st p.isList (by simp;lia) λh' eb=>(U,I.turned (λb o g e=>eb b o g e) f0 f1 f3 f4 f5)
 self:=λ_ _ _ _ _ st h=>wpAny_pyIter_listiter st h
theorem De{w:Da}{K:BT}(a it:J):Turn P w K tg (Itt K a) [it] it (λi h=>h.IsTupleIter it a i) where
 mem:=by simp
 obj:=λi h st b g=>by
  have e:=by simpa using g
  subst e;let(o,e,c,d):=st;exact(o,e,λv z=>by rw[d]at z;cases z)
 keep:=λi h h' st k=>st.at λo e=>k it (by simp) o e
 item:=by
  intro X hP hw hK hc i gd s σ H E I hf st hg;subst hP hw hK;let(xs,x,Q,hx):=hg;let(its,V,p,hz):=I.tuple Q;let(u,hu,ru):=V.get hx;let(f0,f1,f2,f3,f4,f5):=hf it (by simp)
  refine wpAny_pyNext_tuple_item st (p) (by simpa using hu) λh' q sb=>?_
  have I1:=I.turned (t':=s.toks) (λb o g e=>(sb.2 b g).trans e) f0 f1 f3 f4 f5
  let(o,e,c,d):=id q;exact(u,U,Ca e c d (by decide) (x,H,I1,ru,(U,λys hy=>by rw[I.xZ hy Q];exact hx),q,λb g=>(hf b g).1))
 done:=by
  intro X hP hw hK hc i gd s σ H E I hf st hg;subst hP hw hK;let(xs,Q,hx):=hg;let(its,V,p,hz):=I.tuple Q;let(f0,f1,f2,f3,f4,f5):=hf it (by simp)
  have hl:=V.length;exact wpAny_pyNext_tuple_end (I.ok.hd hc) st (p) (by simp;omega) λh' eb=>(U,I.turned (λb o g e=>eb b o g e) f0 f1 f3 f4 f5)
 self:=λ_ _ _ _ _ st h=>wpAny_pyIter_tupleiter st h
theorem Df{w:Da}{K:BT}(it:J)(lo:Int)(n:Nat):Turn P w K tg (Itr lo n) [it] it (λi h=>IsRangeIter h it (lo+(i:Nat)*1) ((n:Int) - (i:Nat)) 1) where
 mem:=by simp
 obj:=λi h st b g=>by
  have e:=by simpa using g
  subst e;exact(_,st,λv z=>by
   have z':=z;cases z')
 keep:=λi h h' st k=>k it (by simp) _ st
 item:=by
  intro X hP hw hK Q i gd s σ H E I hf st hg;subst hP hw hK;let(f0,f1,f2,f3,f4,V):=hf it (by simp)
  have W:=Walks.range (prog:=X.prog) (w:=X.w) (I.ok.hd Q) it lo 1 n;refine W.item i s _ _ hg st λv h' tk hv q kk=>?_
  let(t,U):=hv;have I1:Inv X gd σ H {s with heap:=h',toks:=tk}:=I.turned (λb o g e=>kk b o (by simpa using g) e) f0 f1 f3 f4 V
  refine(_,U,Ca q U U (by decide) (.int (lo+i),H,I1,(t,?_),(U,U),q,λb g=>(hf b g).1))
  rw[Int.mul_one]
 done:=by
  intro X hP hw hK Q i gd s σ H E I hf st hg;let(f0,f1,f2,f3,f4,V):=hf it (by simp)
  exact wpAny_pyNext_range_end (I.ok.hd Q) st (by have:n<=i:=hg;lia) λh' eb=>(U,I.turned (λb o g e=>eb b o g e) f0 f1 f3 f4 V)
 self:=λ_ _ _ _ _ st h=>wpAny_pyIter_rangeiter st h
variable{lo:Int}{fp:List J}{iter:EQ}{wi:TI}
section
def LG(K:BT)(tl:TE):TI:=λσ H R=>tl σ H λx H1=>∃a,x=.ref a/\(∃xs,SqL K H1 a xs)/\R (Itl K a) H1
def O8(K:BT)(tl:TE):TI:=λσ H R=>tl σ H λx H1=>∃a,x=.ref a/\(∃xs,SqT K H1 a xs)/\R (Itt K a) H1
def vg{l:EQ}{tl:TE}(hl:PE X l tl):PI X tg l (LG X.K tl):=by
 intro gd s σ H R I h;refine thn (hl gd s σ H _ I h) λv s1 z=>?_
 let(x,H1,g,P,Q):=z;let(a,e,(xs,V),q):=Q;subst e;cases P;let(its,rv,p,hz):=g.list V;refine wpAny_pyIter_list p.isList ?_;refine(s1.heap.objs.size,[s1.heap.objs.size],_,_,H1,U,g.kept λb o e=>iP _ e,Hb a _,(_,u3 _ U,U,U),λb hb=>?_,q)
 have e:=by simpa using hb
 subst e;exact g.Iw (oa _) (g.hok.fresh (oa _))
def SO{l:EQ}{tl:TE}(hl:PE X l tl):PI X tg l (O8 X.K tl):=by
 intro gd s σ H R I h;refine thn (hl gd s σ H _ I h) λv s1 z=>?_
 let(x,H1,g,P,Q):=z;let(a,e,(xs,V),q):=Q;subst e;cases P;let(its,rv,p,hz):=g.tuple V;refine wpAny_pyIter_tuple (p) ?_;refine(s1.heap.objs.size,[s1.heap.objs.size],_,_,H1,U,g.kept λb o e=>iP _ e,De a _,(_,u3 _ U,U,U),λb hb=>?_,q)
 have e:=by simpa using hb
 subst e;exact g.Iw (oa _) (g.hok.fresh (oa _))
def J5{σ:St}{R:It->Hp->Prop}{hi:Int}{t u v:Tok}{tk:Nat}(I:Inv X gd σ H s)(h1:-(2 ^ 62)<=lo)(h2:lo<2 ^ 62)(h3:-(2 ^ 62)<=hi)(h4:hi<2 ^ 62)
  (q:R (Itr lo (hi - lo).toNat) H):XV X (pyIter (.ref s.heap.objs.size)) (PIE X gd σ tg R) E {s with heap:=s.heap.push {cls:=.type "range",data:=.fields #[.int lo t,.int hi u,.int 1 v]},toks:=tk}:=by
 refine wpAny_pyIter_range (IsRange.new ..) (small_one h1 h2 h3 h4) ?_;have g:Inv X gd σ H {s with heap:=s.heap.push {cls:=.type "range",data:=.fields #[.int lo t,.int hi u,.int 1 v]},toks:=tk}:=I.kept λb o e=>iP _ e
 refine((s.heap.push {cls:=.type "range",data:=.fields #[.int lo t,.int hi u,.int 1 v]}).objs.size,[(s.heap.push {cls:=.type "range",data:=.fields #[.int lo t,.int hi u,.int 1 v]}).objs.size],_,_,H,U,
  g.kept λb o e=>iP _ e,Df _ lo (hi - lo).toNat,?_,λb z=>?_,q)
 ·have P:lo+((0:Nat))*1=lo:=by simp
  have K:(((hi - lo).toNat)) - ((0:Nat))=Builtin.Range.rangeSize lo hi 1:=by rw[rangeSize_one];split <;> lia
  rw[P,K];exact u3 _ U
 ·have e:b=(s.heap.push {cls:=.type "range",data:=.fields #[.int lo t,.int hi u,.int 1 v]}).objs.size:=by simpa using z
  subst e;exact g.Iw (oa _) (g.hok.fresh (oa _))
def LF(ta:TA):TI:=λσ H R=>ta σ H λvs H1=>∃j:Int,vs=[.int j] /\ -(2 ^ 62)<=j/\j<2 ^ 62/\R (Itr 0 j.toNat) H1
abbrev AD(X:Cx)(e:EQ):Prop:=dO [e] X.env=[(false,eval e X.env)]
def yd{a:EQ}{ta:TA}(hg:Gl X "range")(hm:X.mg "range"=Y)(ha:PA X [a] ta)(hs:‹AD X a›):PI X tg (.Call (.Name "range" p) [a] [] pos) (LF ta):=by
 intro gd s σ H R I h;refine Call_ (nc I hg hm boot_range (PyProof.Rows.callWith_type1 (thn (ha pos gd s σ H _ I h) λus s1 (vs,H1,Q,K,g)=>?_) hs U))
 let(j,e,g,P,q):=g;subst e;cases K with
 |cons r z =>
  cases z;let(t,U):=r;exact call_range_1 (J5 Q (by lia) (by lia) g P (by simpa using q))
def Rt(wi:TI)(g:TG)(tb:TS):TS:=λD σ H=>wi σ H λύ H1=>∃W:Nat->Nat->St->Hp->Prop,(∃m,W 0 m σ H1)/\∀i m σ H,W i m σ H ->
 (ύ.stop i H/\D.nx σ H)\/(ύ.go i H/\∃N:St->Hp->Prop,(∀q H',N q H'->∃m',m'<m/\W (i+1) m' q H')/\∀x H',ύ.yld i H x H'->g x σ H' λz K=>tb {D with nx:=N,ct:=N,bk:=D.nx} z K)
def vS(fp:List J)(h:Ev):List (J×Obj):=fp.filterMap λb=>(h.get? b).map λo=>(b,o)
def jt{h:Ev}{b:J}{o:Obj}(g:b∈fp)(e:h.get? b=Z o):(b,o)∈vS fp h:=Zo.mpr (b,g,by rw[e];rfl)
def HJ{h:Ev}{p:J×Obj}(hp:p∈vS fp h):p.1∈fp/\h.get? p.1=Z p.2:=by
 let(b,g,e):=Zo.mp hp;cases q:h.get? b with
 |none=>rw[q]at e;cases e
 |some o =>
  rw[q]at e;have z:=Option.some.inj e;subst z;exact(g,q)
def Inv.pinned{σ:St}(I:Inv X gd σ H s)(hf:∀b∈fp,xW X gd H b)(ho:∀b∈fp,∃o,s.heap.get? b=Z o/\∀v,o.data ≠ .cell v):Inv X (gd++vS fp s.heap) σ H s :=
 I.qK λp hp=>(mu.mp hp).elim (λz=>I.pin p (lO _ z)) λz=>by
  let(g,e):=HJ z;let(f0,f1,f2,_):=hf p.1 g;let(o,q,d):=ho p.1 g;rw[e]at q;cases q;exact(e,f0,f1,f2,d)
def Inv.p6{pl:List (J×Obj)}{σ:St}(I:Inv X (gd++pl) σ H s):Inv X gd σ H s:=I.qK λp hp=>I.pin p (lO _ (px _ hp))
def DQ{g:TG}{tb:TS}{pos:Pos}(hp:ZY (model X.prog X.w) X.A X.env X.xe)(hc:X.calm=O)(hi:PI X tg iter wi)(hg:PG X tg g)(P:PSs X body tb)
  (hs:∀x,foldedSetIterable iter X.env x=pure x:=by intro _;rfl):PS X (.For tg iter body [] pos) (Rt wi g tb):=by
 intro gd s σ H D I h;refine wpAny_For (thn (hi gd s σ H _ I h) λv s1 h1=>thn h1 λaX s2 h2=>?_) hs
 let(it,fp,tn,ύ,H2,e,I2,T,aD,f2,W,(m0,w0),turn):=h2;subst e;have Rz:∀{H':Hp},(∀b∈fp,H' b=Y)->∀b∈fp,xW X gd H' b:=λhn b P=>(hn b P,(f2 b P).2)
 refine codeAny_forLoop_any (λn s'=>∃i K H',Inv X gd K H' s'/\tn i s'.heap/\(∀b∈fp,H' b=Y)/\W i n K H') ?_ m0 (0,σ,H2,I2,aD,λb P=>(f2 b P).1,w0)
 rintro n s3 ⟨i,z,H3,I3,ak,au,w3⟩
 obtain⟨stop,qn⟩|⟨go,N,hN,step⟩:=turn i n z H3 w3
 ·refine wpAny_passesOwn hp (thn (T.done X U U U hc i gd s3 z H3 X.xe I3 (Rz au) ak stop) λr s4 Q=>?_)
  let(hr,I4):=Q;subst hr;exact wpAny_execs_nil (z,H3,I4,qn)
 ·refine wpAny_passesOwn hp (thn (T.item X U U U hc i gd s3 z H3 X.xe I3 (Rz au) ak go) λr s4 Q=>?_)
  let(u,hr,h4):=Q;subst hr;refine wpAny_passesOwn hp (thn h4 λ_ s5 Q=>?_)
  let(x,H5,I5,r5,y5,ah,aH):=Q;have aL:=I5.pinned (Rz aH) (T.obj _ _ ah);refine wpAny_passesOwn hp (thn (hg _ s5 z H5 x u _ aL r5 (step x H5 y5)) λ_ s6 (aw,H6,I6,q6)=>(wpAny_passesOwn hp (thn (P _ s6 aw H6 _ I6 q6) λf s7 q7=>?_)))
  have again:∀{q:St}{H7:Hp},Inv X (gd++vS fp s5.heap) q H7 s7->N q H7->∃m,m<n/\∃i K H',Inv X gd K H' s7/\tn i s7.heap/\(∀b∈fp,H' b=Y)/\W i m K H':=λ{q H7} V n7=>by
   let(m',hm,w7):=hN q H7 n7;refine(m',hm,i+1,q,H7,V.p6,T.keep _ _ _ ah λb P o e=>(V.pin (b,o) (lO _ (lO _ (jt P e)))).1,λb P=>?_,w7)
   let(o,e,d):=T.obj _ _ ah b P;exact(V.pin (b,o) (lO _ (lO _ (jt P e)))).2.1
  cases f with
  |next=>let(q,H7,V,n7):=q7;exact again V n7
  |cont=>let(q,H7,V,n7):=q7;exact again V n7
  |brk=>let(q,H7,V,q7):=q7;exact(q,H7,V.p6,q7)
  |ret v=>let(x7,q,H7,V,r7,q7):=q7;exact(x7,q,H7,V.p6,r7,q7)
end
variable{D:Ends}
theorem LV{K:BT}{g:TG}{tb:TS}{σ:St}(Pv:Nat->St->Hp->Prop)(h0:Pv 0 σ H)(hl:∀i σ H,i<=xs.length->Pv i σ H->SqL K H a xs)
  (hs:∀i x σ H,xs[i]?=Z x->Pv i σ H->g x σ H λz V=>tb {D with nx:=Pv (i+1),ct:=Pv (i+1),bk:=D.nx} z V) (hd:∀σ H,Pv xs.length σ H->D.nx σ H):
  ∃W:Nat->Nat->St->Hp->Prop,(∃m,W 0 m σ H)/\∀i m σ H,W i m σ H ->
   ((Itl K a).stop i H/\D.nx σ H)\/((Itl K a).go i H/\∃N:St->Hp->Prop,(∀P H',N P H'->∃m',m'<m/\W (i+1) m' P H')/\∀x H',(Itl K a).yld i H x H'->g x σ H' λz V=>tb {D with nx:=N,ct:=N,bk:=D.nx} z V):=by
 refine(λi m σ H=>m=xs.length - i/\i<=xs.length/\Pv i σ H,(xs.length,by simp,Je _,h0),?_)
 rintro i m σ H ⟨rfl,hi,p⟩
 have q:=hl i σ H hi p;by_cases Q:i<xs.length
 ·refine .inr ((xs,xs[i],q,by simp[Q]),Pv (i+1),λP H' p'=>(xs.length - (i+1),by omega,U,Q,p'),λx H' y=>?_)
  let(e,y):=y;subst e;exact hs i x σ _ (y xs q) p
 ·have e:i=xs.length:=by lia
  subst e;exact .inl ((xs,q,oa _),hd σ H p)
abbrev R2:=V->V->Hp->VK->Prop
def OpR(X:Cx)(f:B->B->Sem B)(r:R2):Prop :=
 ∀(gd:List (J×Obj))(s:ϋ)(σ:St)(H:Hp)(x y:V)(v u:B)(Q:VK),Inv X gd σ H s->RelV x v->RelV y u->r x y H Q ->
  XV X (f v u) (EP X gd σ Q) X.xe s
def UnR(X:Cx)(f:B->Sem B)(r:V->Hp->VK->Prop):Prop :=
 ∀(gd:List (J×Obj))(s:ϋ)(σ:St)(H:Hp)(x:V)(v:B)(Q:VK),Inv X gd σ H s->RelV x v->r x H Q ->
  XV X (f v) (EP X gd σ Q) X.xe s
def de(X:Cx)(f:B)(r:List V->Hp->VK->Prop):Prop :=
 ∀(gd:List (J×Obj))(s:ϋ)(σ:St)(H:Hp)(xs:List V)(us:List B)(Q:VK),Inv X gd σ H s->Vals xs us->r xs H Q ->
  XV X (call f us) (EP X gd σ Q) X.xe s
def Yy(X:Cx)(r:V->Hp->(Bool->Hp->Prop)->Prop):Prop :=
 ∀(gd:List (J×Obj))(s:ϋ)(σ:St)(H:Hp)(x:V)(v:B)(Q:Bool->Hp->Prop),Inv X gd σ H s->RelV x v->r x H Q ->
  XV X (truthy v) (TP X gd σ Q) X.xe s
def tOp(r:R2)(ta tb:TE):TE:=λσ H Q=>ta σ H λx H1=>tb σ H1 λy g=>r x y g Q
def tUn(r:V->Hp->VK->Prop)(ta:TE):TE:=λσ H Q=>ta σ H λx H1=>r x H1 Q
inductive rI(C:Int->Int->Prop)(g:Int->Int->V)(x:V)(y:V)(H:Hp)(Q:VK):Prop
 |mk(i j:_)(h1:x=.int i)(h2:y=.int j)(h3:C i j)(h4:Q (g i j) H)
inductive rI0(g:Int->Int->V)(x:V)(y:V)(H:Hp)(Q:VK):Prop
 |mk(i j:_)(h1:x=.int i)(h2:y=.int j)(h3:Q (g i j) H)
inductive rU(g:Int->V)(x:V)(H:Hp)(Q:VK):Prop
 |mk(i:_)(h1:x=.int i)(h2:Q (g i) H)
variable{g:Int->Int->Int}
section
variable{a:EQ}{ta tb:TE}{pos:Pos}
def Us(ha:PE X a ta)(hb:PE X b tb){σ:St}{R:V->V->Hp->Prop}(I:Inv X gd σ H s)
  (h:ta σ H λx H1=>tb σ H1 λy g=>R x y g) {Q:B->ϋ->Prop} {f:B->B->Sem B}
  (hf:∀v u s2 x y g,Inv X gd σ g s2->RelV x v->RelV y u->R x y g->XV X (f v u) Q X.xe s2):
  XV X (eval a X.env) (λv q=>XV X (eval b X.env) (λu s₂=>XV X (f v u) Q X.xe s₂) X.xe q) X.xe s:=thn (ha gd s σ H _ I h) λv s1 (x,H1,I1,K,q1)=>(thn (hb gd s1 σ H1 _ I1 q1) λu s2 (y,g,I2,z,P)=>(hf v u s2 x y g I2 K z P))
def fh{op:Operator}{r:R2}(ho:OpR X (binaryOp op) r)(ha:PE X a ta)(K:PE X b tb):PE X (.BinOp a op b pos) (tOp r ta tb):=by
 intro gd s σ H Q I h;exact wpAny_BinOp (Us ha K I h λv u s2 x y V P z g q=>ho gd s2 σ V x y v u Q P z g q)
def FQ{op:UnaryOp}{r:V->Hp->VK->Prop}(ho:UnR X (unaryOp op) r)(ha:PE X a ta):PE X (.UnaryOp op a pos) (tUn r ta):=by
 intro gd s σ H Q I h;exact UnaryOp_ (thn (ha gd s σ H _ I h) λv s1 (x,H1,z,g,q)=>ho gd s1 σ H1 x v Q z g q)
def opI{f:B->B->Sem B}{C:Int->Int->Prop}
  (rule:∀(i j:Int)(t u:Tok)(s:ϋ)(Q:B->ϋ->Prop)(E:B->ϋ->Prop),C i j->Q (.int (g i j) s.toks) {s with toks:=s.toks+1}->XV X (f (.int i t) (.int j u)) Q E s):
  OpR X f (rI C λi j=>.int (g i j)):=by
 intro gd s σ H x y v u Q I K z h;let(i,j,U,U,P,q):=h;let(t,U):=K;let(t',U):=z;exact rule i j t t' s _ _ P (.int (g i j),H,I.tok _,(_,U),q)
def V7{f:B->B->Sem B}
  (rule:∀(i j:Int)(t u:Tok)(s:ϋ)(Q:B->ϋ->Prop)(E:B->ϋ->Prop),Q (.int (g i j) s.toks) {s with toks:=s.toks+1}->XV X (f (.int i t) (.int j u)) Q E s):
  OpR X f (rI0 λi j=>.int (g i j)):=by
 intro gd s σ H x y v u Q I K z h;let(i,j,U,U,q):=h;let(t,U):=K;let(t',U):=z;exact rule i j t t' s _ _ (.int (g i j),H,I.tok _,(_,U),q)
def OM{f:B->B->Sem B}{g:Int->Int->Bool}
  (rule:∀(i j:Int)(t u:Tok)(s:ϋ)(Q:B->ϋ->Prop)(E:B->ϋ->Prop),Q (.bool (g i j)) s->XV X (f (.int i t) (.int j u)) Q E s):
  OpR X f (rI0 λi j=>.bl (g i j)):=by
 intro gd s σ H x y v u Q I K z h;let(i,j,U,U,q):=h;let(t,U):=K;let(t',U):=z;exact rule i j t t' s _ _ (.bl (g i j),H,I,U,q)
def YG(i j:Int):Prop:=0<=j/\j<=1000000/\i.natAbs<2 ^ 64
def MY(i j:Int):Prop:=(-(2 ^ 64)<i/\i<2 ^ 64)\/(-(2 ^ 64)<j/\j<2 ^ 64)
def MY.ok{i j:Int}(h:MY i j):IntMulOk i j:=by
 obtain⟨h1,h2⟩|⟨h1,h2⟩:=h
 ·exact .of_left (intBits_le_64 h1 h2)
 ·exact .of_right (intBits_le_64 h1 h2)
def sR:OpR X (binaryOp .Add) (rI0 λi j=>.int (i+j)):=V7 λ_ _ _ _ _ _ _ q=>add_int q
def Lc:OpR X (binaryOp .Sub) (rI0 λi j=>.int (i - j)):=V7 λ_ _ _ _ _ _ _ q=>sub_int q
def pB:OpR X (binaryOp .Mult) (rI MY λi j=>.int (i*j)):=opI λ_ _ _ _ _ _ _ g q=>mul_int q g.ok
def lz:OpR X (binaryOp .Mod) (rI (λ_ j=>0<j) λi j=>.int (i % j)):=opI λi j _ _ _ _ _ g q=>by
 exact mod_int' (by lia) (by rw[Int.fmod_eq_emod_of_nonneg i (by lia)];exact q)
def SX:OpR X (binaryOp .Pow) (rI YG λi j=>.int (i ^ j.toNat)):=opI λ_ _ _ _ _ _ _ g q=>pow_int_small g.1 g.2.1 g.2.2 q
def unI{f:B->Sem B}{g:Int->Int}
  (rule:∀(i:Int)(t:Tok)(s:ϋ)(Q:B->ϋ->Prop)(E:B->ϋ->Prop),Q (.int (g i) s.toks) {s with toks:=s.toks+1}->XV X (f (.int i t)) Q E s):
  UnR X f (rU λi=>.int (g i)):=by
 intro gd s σ H x v Q I z h;let(i,U,q):=h;let(t,U):=z;exact rule i t s _ _ (.int (g i),H,I.tok _,(_,U),q)
def yZ:UnR X (unaryOp .USub) (rU λi=>.int (-i)):=unI λ_ _ _ _ _ q=>neg_int q
end
def NA:V->V->Bool
 |.non,.non=>O|.non,.int _=>O|.int _,.non=>O|.non,.bl _=>O|.bl _,.non=>O|.non,.str _=>O|.str _,.non=>O
 |.int _,.int _=>O|.bl _,.bl _=>O|.str _,.str _=>O|.byt _,.byt _=>O
 |.int _,.str _=>O|.str _,.int _=>O|.bl _,.str _=>O|.str _,.bl _=>O
 |_,_=>ϊ
def rEq:R2:=λx y H Q=>NA x y=O/\Q (.bl (decide (x=y))) H
def rNe:R2:=λx y H Q=>NA x y=O/\Q (.bl (!decide (x=y))) H
def Gw{i j:Int}:decide (V.int i=V.int j)=(i==j):=by
 rw[ZE];simp
def Mf{i j:Bool}:decide (V.bl i=V.bl j)=(i==j):=by
 rw[ZE];simp
def Gv{i j:Str}:decide (V.str i=V.str j)=(i==j):=by
 rw[ZE];simp
def Gx{i j:Array UInt8}:decide (V.byt i=V.byt j)=(i.toList==j.toList):=by
 rw[ZE];cases i;cases j;simp
variable{r':R2}{its:List B}{y:V}
section
variable{a c:EQ}{ta tb tc:TE}{pos:Pos}
def bz{σ:St}{Q:VK}{k k':Bool}(I:Inv X gd σ H s)(q:Q (.bl k) H)(e:k=k'):EP X gd σ Q (.bool k') s:=by
 subst e;exact(.bl k,H,I,U,q)
theorem Qg:OpR X (compareOp .Eq) rEq:=by
 intro gd s σ H x y v u Q I z g h;let(hs,q):=h;cases x with
 |non =>
  cases z;cases y with
  |non=>cases g;exact PySem.EqNone.eq_none_none (bz I q (by simp))
  |bl j=>cases g;exact PySem.EqNone.eq_none_bool (bz I q (by simp))
  |int j=>let(t',U):=g;exact PySem.EqNone.eq_none_int (bz I q (by simp))
  |str j=>let(t',U):=g;exact PySem.EqNone.eq_none_str (bz I q (by simp))
  |_=>exact absurd (show ϊ=O from hs) rZ
 |bl i =>
  cases z;cases y with
  |non=>cases g;exact PySem.EqNone.eq_bool_none (bz I q (by simp))
  |bl j=>cases g;exact eq_bool (bz I q Mf)
  |str j=>let(t',U):=g;exact PySem.EqMixed.eq_bool_str (bz I q (by simp))
  |_=>exact absurd (show ϊ=O from hs) rZ
 |int i =>
  let(t,U):=z;cases y with
  |non=>cases g;exact PySem.EqNone.eq_int_none (bz I q (by simp))
  |int j=>let(t',U):=g;exact eq_int (bz I q Gw)
  |str j=>let(t',U):=g;exact PySem.EqMixed.eq_int_str (bz I q (by simp))
  |_=>exact absurd (show ϊ=O from hs) rZ
 |str i =>
  let(t,U):=z;cases y with
  |non=>cases g;exact PySem.EqNone.eq_str_none (bz I q (by simp))
  |bl j=>cases g;exact PySem.EqMixed.eq_str_bool (bz I q (by simp))
  |int j=>let(t',U):=g;exact PySem.EqMixed.eq_str_int (bz I q (by simp))
  |str j=>let(t',U):=g;exact eq_str (bz I q Gv)
  |_=>exact absurd (show ϊ=O from hs) rZ
 |byt i =>
  let(t,U):=z;cases y with
  |byt j=>let(t',U):=g;exact W.eq_bytes (bz I q Gx)
  |_=>exact absurd (show ϊ=O from hs) rZ
 |_=>cases y <;> exact absurd (show ϊ=O from hs) rZ
theorem gW:OpR X (compareOp .NotEq) rNe:=by
 intro gd s σ H x y v u Q I z g h;let(hs,q):=h;cases x with
 |non =>
  cases z;cases y with
  |non=>cases g;exact PySem.EqNone.ne_none_none (bz I q (by simp))
  |bl j=>cases g;exact PySem.EqNone.ne_none_bool (bz I q (by simp))
  |int j=>let(t',U):=g;exact PySem.EqNone.ne_none_int (bz I q (by simp))
  |str j=>let(t',U):=g;exact PySem.EqNone.ne_none_str (bz I q (by simp))
  |_=>exact absurd (show ϊ=O from hs) rZ
 |bl i =>
  cases z;cases y with
  |non=>cases g;exact PySem.EqNone.ne_bool_none (bz I q (by simp))
  |bl j=>cases g;exact ne_bool (bz I q (congrArg not Mf))
  |str j=>let(t',U):=g;exact PySem.EqMixed.ne_bool_str (bz I q (by simp))
  |_=>exact absurd (show ϊ=O from hs) rZ
 |int i =>
  let(t,U):=z;cases y with
  |non=>cases g;exact PySem.EqNone.ne_int_none (bz I q (by simp))
  |int j=>let(t',U):=g;exact ne_int (bz I q (congrArg not Gw))
  |str j=>let(t',U):=g;exact PySem.EqMixed.ne_int_str (bz I q (by simp))
  |_=>exact absurd (show ϊ=O from hs) rZ
 |str i =>
  let(t,U):=z;cases y with
  |non=>cases g;exact PySem.EqNone.ne_str_none (bz I q (by simp))
  |bl j=>cases g;exact PySem.EqMixed.ne_str_bool (bz I q (by simp))
  |int j=>let(t',U):=g;exact PySem.EqMixed.ne_str_int (bz I q (by simp))
  |str j=>let(t',U):=g;exact ne_str (bz I q (congrArg not Gv))
  |_=>exact absurd (show ϊ=O from hs) rZ
 |byt i =>
  let(t,U):=z;cases y with
  |byt j=>let(t',U):=g;exact W.ne_bytes (bz I q (congrArg not Gx))
  |_=>exact absurd (show ϊ=O from hs) rZ
 |_=>cases y <;> exact absurd (show ϊ=O from hs) rZ
def Qd:OpR X (compareOp .Lt) (rI0 λi j=>.bl (decide (i<j))):=OM λ_ _ _ _ _ _ _ q=>lt_int q
def Qe:OpR X (compareOp .LtE) (rI0 λi j=>.bl (decide (i<=j))):=OM λ_ _ _ _ _ _ _ q=>le_int q
def FX:OpR X (compareOp .Gt) (rI0 λi j=>.bl (decide (j<i))):=OM λ_ _ _ _ _ _ _ q=>gt_int q
def Qf:OpR X (compareOp .GtE) (rI0 λi j=>.bl (decide (j<=i))):=OM λ_ _ _ _ _ _ _ q=>ge_int q
def HF:OpR X (compareOp .In) (λx y H Q=>∃i j,x=.str i/\y=.str j/\Q (.bl (!(Builtin.Str.occurrences j i 0 j.length 1).isEmpty)) H):=by
 intro gd s σ H x y v u Q I z g h;let(i,j,U,U,q):=h;let(t,U):=z;let(t',U):=g;exact in_str (bz I q U)
def FW:OpR X (compareOp .IsNot) (λx y H Q=>y=.non/\Q (.bl (!decide (x=.non))) H):=by
 intro gd s σ H x y v u Q I z g h;let(U,q):=h;cases g;refine isnot_none_gen (bz I q ?_);cases x <;>(let(t,U):=z;rfl)
def zA:OpR X (compareOp .NotIn) (λx y H Q=>∃i j,x=.str i/\y=.str j/\Q (.bl (!(!(Builtin.Str.occurrences j i 0 j.length 1).isEmpty))) H):=by
 intro gd s σ H x y v u Q I z g h;let(i,j,U,U,q):=h;let(t,U):=z;let(t',U):=g;exact notIn_str (bz I q U)
def OpR.or{f:B->B->Sem B}{r:R2}(h:OpR X f r)(h':OpR X f r'):OpR X f (λx y H Q=>r x y H Q\/r' x y H Q):=by
 intro gd s σ H x y v u Q I z g q;obtain q|q:=q
 ·exact h gd s σ H x y v u Q I z g q
 ·exact h' gd s σ H x y v u Q I z g q
def a8(b:EQ)(h:autoParam (op ≠ .In) zdc._auto_1)(h2:autoParam (op ≠ .NotIn) zdc._auto_1):behindInMarks op b=false:=Lh b h h2
def OC{r:R2}(ho:OpR X (compareOp op) r)(ha:PE X a ta)(K:PE X b tb)(hm:behindInMarks op b=ϊ):PE X (.Compare a [op] [b] pos) (tOp r ta tb):=by
 intro gd s σ H Q I h;exact wpAny_Compare1 (Us ha K I h λv u s2 x y V P z g q=>ho gd s2 σ V x y v u Q P z g q) hm
def AQ(t:TE):TT:=λσ H Q=>t σ H λx H'=>∃k,x=.bl k/\Q k H'
def nP{r:R2}(ho:OpR X (compareOp op) r)(ha:PE X a ta)(hb:PE X b tb)(hm:behindInMarks op b=ϊ):PT X (.Compare a [op] [b] pos) (AQ (tOp r ta tb)):=by
 intro gd s σ H Q I h;refine wpAny_isTrue_Compare1 (thn (ha gd s σ H _ I h) λv s1 (x,H1,I1,K,q1)=>thn (hb gd s1 σ H1 _ I1 q1) λu s2 (y,H2,I2,q,V) =>
  thn (ho gd s2 σ H2 x y v u _ I2 K q V) λc s3 (z,H3,I3,g,k,e,P)=>?_) hm
 subst e;cases g;exact wpAny_truthy_bool (H3,I3,P)
def Jx(r r':R2)(ta tb tc:TE):TE:=λσ H Q=>ta σ H λx H1=>tb σ H1 λy P=>r x y P λz g=>∃k,z=.bl k /\
 (if k=O then tc σ g λq K=>r' y q K Q else Q (.bl ϊ) g)
def La{g:CmpOp}{r:R2}(ho:OpR X (compareOp op) r)(q:OpR X (compareOp g) r')(ha:PE X a ta)(hb:PE X b tb)(hc:PE X c tc)
  (hm:lastMarks [op,g] [b,c]=false:=by with_unfolding_all rfl):PE X (.Compare a [op,g] [b,c] pos) (Jx r r' ta tb tc):=by
 intro gd s σ H Q I h;refine Compare_chain (thn (ha gd s σ H _ I h) λv s1 (x,H1,I1,r1,q1)=>chain_link (thn (hb gd s1 σ H1 _ I1 q1) λu s2 (y,H2,I2,K,q2) =>
  thn (ho gd s2 σ H2 x y v u _ I2 r1 K q2) λd s3 (z,H3,V,r3,k,e,P)=>?_)) hm
 subst e;cases r3;refine wpAny_truthy_bool ?_;cases k with
 |false=>exact ite_ff (.bl ϊ,H3,V,U,P)
 |true=>exact ite_tt (chain_last (thn (hc gd s3 σ H3 _ V P) λw' s4 (z',H4,I4,r4,q4)=>q gd s4 σ H4 y z' u w' Q I4 K r4 q4))
def PJ(K:BT)(x:V)(H:Hp)(k:Bool):Prop :=
 match x with
 |.non=>k=ϊ
 |.bl b=>k=b
 |.int i=>k=(i != 0)
 |.str y=>y.length<=ot/\k=((y.length:Int) != 0)
 |.byt y=>y.size<=ot/\k=((y.size:Int) != 0)
 |.ref p=>(∃xs,SqL K H p xs/\k = !xs.isEmpty)\/(∃xs,SqT K H p xs/\k = !xs.isEmpty)\/∃kvs,H p=Z (.dK kvs)/\k = !kvs.isEmpty
 |_=>False
def Er{κ:Type}{kvs:List (κ×V)}{vs:List (κ×B)}(r:KV kvs vs):(!vs.isEmpty) = !kvs.isEmpty:=by
 cases r <;> rfl
def wq(r:Vals xs its):(!its.toArray.isEmpty) = !xs.isEmpty:=by
 cases r <;> simp
def pJ:(ot:Nat)<2 ^ 63:=by decide
def Cb(h:n<=ot):(n:Int)<2 ^ 63:=by
 have:=Y1
 omega
theorem Rl:Yy X (λx H Q=>∃k,PJ X.K x H k/\Q k H):=by
 intro gd s σ H x v Q I z h;let(k,e,q):=h;have hl:=pJ;have hs:ot=16777216:=Y1;cases x with
 |non =>
  cases z;have g:k=false:=e;subst g;exact truthy_none (H,I,q)
 |bl b =>
  cases z;have g:k=b:=e;subst g;exact wpAny_truthy_bool (H,I,q)
 |int i =>
  let(t,U):=z;have g:k=(i != 0):=e;subst g;exact PySem.P.truthy_int (H,I,q)
 |str y =>
  let(t,U):=z;let(hy,g):=e;subst g;exact PySem.P.truthy_str (by omega) (H,I.tok _,q)
 |byt y =>
  let(t,U):=z;let(hy,g):=e;subst g;exact W.truthy_bytes (by omega) (H,I.tok _,q)
 |ref p =>
  cases z;have g:=e;obtain⟨xs,hx,g⟩|⟨xs,hx,g⟩|⟨kvs,hx,g⟩:=g
  ·subst g;let(its,r,pl,V):=I.list hx;have hlen:=r.length;exact wpAny_truthy_list pl.isList (by rw[uZ,<- hlen];exact Cb (by assumption)) (H,I.tok _,by rw[wq r];exact q)
  ·subst g;let(its,r,pl,V):=I.tuple hx;have hlen:=r.length;exact truthy_tuple pl (by rw[uZ,<- hlen];exact Cb (by assumption)) (H,I.tok _,by rw[wq r];exact q)
  ·subst g;let(V,hS,vs,r,m):=I.hok p _ hx;have hlen:kvs.length=vs.length:=Paired.length r;exact wpAny_truthy_dict hS m (by rw[<- hlen];exact Cb V) (H,I.tok _,by rw[Er r];exact q)
 |_=>exact(show False from e).elim
def KG(ha:PE X a ta)(he:∀whole,isTrue a X.env whole=(do let v <- whole;standAt a.pos;holding [v] (truthy v))):
  PT X a (λσ H Q=>ta σ H λx H'=>∃k,PJ X.K x H' k/\Q k H'):=by
 intro gd s σ H Q I h;exact isTrue_plain (thn (ha gd s σ H _ I h) λv s1 (x,H1,z,g,q)=>Rl gd s1 σ H1 x v Q z g q) (he _)
def D3:OpR X (binaryOp .Add) (λx y H Q=>∃i j,x=.str i/\y=.str j/\i.length+j.length<=ot/\Q (.str (i++j)) H):=by
 intro gd s σ H x y v u Q I z g h;let(i,j,U,U,K,q):=h;let(t,U):=z;let(t',U):=g;exact add_str (λt' tk=>(.str (i++j),H,I.tok _,(_,U),q)) K
def vals1{x:V}(r:Vals [x] us):∃u,us=[u]/\RelV x u:=by
 cases r with
 |cons q g=>cases g;exact(_,U,q)
def vals2{x:V}(r:Vals [x,y] us):∃u g,us=[u,g]/\RelV x u/\RelV y g:=by
 cases r with
 |cons P K =>
  cases K with
  |cons z q=>cases q;exact(_,_,U,P,z)
def IL(z:X.calm=O):de X (.builtin "max") (λxs H Q=>∃i j,xs=[.int i,.int j]/\Q (.int (if j > i then j else i)) H):=by
 intro gd s σ H xs us Q I r h;let(i,j,U,q):=h;let(u,K,U,(t,U),(t',U)):=vals2 r;refine max_two_ints (I.ok.hd z) λh' tk k=>(_,H,I.kept k,?_,q)
 by_cases g:j > i
 ·rw[if_pos g,if_pos g];exact(_,U)
 ·rw[if_neg g,if_neg g];exact(_,U)
def IK(z:X.calm=O):de X (.builtin "min") (λxs H Q=>∃i j,xs=[.int i,.int j]/\Q (.int (if j<i then j else i)) H):=by
 intro gd s σ H xs us Q I r h;let(i,j,U,q):=h;let(u,K,U,(t,U),(t',U)):=vals2 r;refine min_two_ints (I.ok.hd z) λh' tk k=>(_,H,I.kept k,?_,q)
 by_cases g:j<i
 ·rw[if_pos g,if_pos g];exact(_,U)
 ·rw[if_neg g,if_neg g];exact(_,U)
def dI:de X (.type "int") (λxs H Q=>(∃i,xs=[.int i]/\Q (.int i) H)\/∃k,xs=[.bl k]/\Q (.int (if k then 1 else 0)) H):=by
 intro gd s σ H xs us Q I r h;obtain⟨i,rfl,q⟩|⟨k,rfl,q⟩:=h
 ·let(u,U,t,U):=vals1 r;exact call_int_int (.int i,H,I,(_,U),q)
 ·let(u,U,g):=vals1 r;cases g;exact call_int_bool (.int (if k then 1 else 0),H,I.tok _,(_,U),q)
end
structure EU(h:Ev)(x dx C:J)(mA:Str->Option B):Prop where
 obj:h.get? x=Z (W.instObj C dx)
 ns:h.Ns1 dx mA
 ne:dx≠x
variable{mA:Str->Option B}
theorem HW{h:Ev}{dx:J}(n:h.Ns1 dx mA):∃od,h.get? dx=Z od/\∀name,W.lookIn name od=Z (mA name):=by
 let(o,es,V,ho,hd,K,_,hm):=n;refine(o,ho,λname=>?_)
 have e:=hm name;unfold nsFind findBy at e;rw[<- ab3]at e;unfold W.lookIn;rw[hd];dsimp only
 split
 ·rename_i y q;rw[q]at e;exact congrArg Z e
 ·rename_i q;rw[q]at e;have a:es.toList.any (·.refKey)=false:=by
   rw[List.any_eq_false];intro y g;let(z,t,Q):=K y (Array.mem_toList_iff.mp g);simp[DictEntry.refKey,Q]
  have P:¬ es.toList.any (·.refKey)=true:=by rw[a];exact rZ
  rw[if_neg P];exact congrArg Z e
variable{C:J}
theorem EU.look{h:Ev}{x dx:J}(I:EU h x dx C mA):∃od,W.InstAt h x (W.instObj C dx) C (Z od)/\∀name,W.lookIn name od=Z (mA name) :=
 let(od,ho,hl):=HW I.ns
 (od,(I.obj,U,U,ho),hl)
variable{pl:Sem Bool}{ns:List Str}{R:Result->ϋ->Prop}{kw:List (Str×B)}
section
variable{prog:Db}{w:Da}{K:BT}{x dx f:J}{name:Str}{v:B}
theorem get_map{expr:Bool}(X:K.In s.heap)(I:EU s.heap x dx C mA)(hg:W.plainGet K C name=O)(q:W.hasDictIn K C=O)
  (ha:W.findIn K (.ref C) name=Z Y) (hv:mA name=Z v) (g:W.handedIn v=O) (h:Q v {s with toks:=s.toks+1}):
  wpAny (model prog w) A (getAttr (.ref x) name expr) Q E s:=by
 let(od,ύ,hl):=I.look;exact W.get_value X ύ (W.plainGet_of hg).1 (W.findObj_own q ha U (by rw[hl,hv])) g h
theorem LQ{Q:B×List B->ϋ->Prop}(X:K.In s.heap)(I:EU s.heap x dx C mA)(hg:W.plainGet K C name=O)
  (hf:W.findIn K (.ref C) name=Z (Z (.ref f))) (g:W.isFn K (.ref f)=O) (hv:mA name=Y) (h:Q (.ref f,[.ref x]) s):
  wpAny (model prog w) A (getMethod (.ref x) name pl) Q E s:=by
 let(od,ύ,hl):=I.look;exact W.method_fn X ύ (W.plainGet_of hg).1 (W.plainGet_of hg).2 hf (beq_iff_eq.mp g) (by show(W.lookIn name od).map (·.isSome)=Z ϊ;rw[hl,hv];rfl) h
theorem Nz{Q:Unit->ϋ->Prop}(X:K.In s.heap)(I:EU s.heap x dx C mA)
  (hs:W.findIn K (.ref C) "__setattr__"=Z (Z (.builtin "object.__setattr__"))) (hp:W.plainOver K C=O) (ht:W.takerIn K C name=Z Y) (hh:W.hasDictIn K C=O)
  (hw:PySem.Within mA ns) (hsz:ns.length<=ot)
  (h:∀h',EU h' x dx C (λy=>if y=name then Z v else mA y)->Zr dx s.heap h'->Q () {s with heap:=h',toks:=s.toks+2}):
  wpAny (model prog w) A (setAttr (.ref x) name v) Q E s:=by
 let(od,ύ,hl):=I.look;refine W.set_plain X ύ hs (W.osa_open X ύ hp ht λb=>?_)
 let(cd,hc,V):=W.any_some hh;have hx:=I.obj;refine fH (u7 (fH (fH (wpAny_loadPart hx (fH (W.Looks.here (W.looks_clsIn X hc) ?_))))));rw[V];refine u7 (fH (u7 (fH ?_)));refine wpAny_nsSet1 I.ns λh' q g=>?_
 let(oD,ak,au,z,P,ah):=q.count (PySem.Within.cons name v hw);exact fH (wpAny_lookBehind z (by rw[P];exact pastItsLine_dict (u4 ah (by rw[my];omega))) (u7 (h _ ((g.2 _ (Ne.symm I.ne)).trans I.obj,q,I.ne) g)))
theorem Lm{vs:List B}(X:K.In s.heap)(hm:W.makesIn K C=O)
  (hi:W.findIn K (.ref C) "__init__"=Z (Z (.ref f))) (hf:W.typeIn K (.ref f)=Z (.type "function"))
  (h:codeAny (model prog w) (A.under (.builtin "type.__call__" (.ref C::vs,kw))) (.call (.ref f) (.ref (s.heap.objs.size+1)::vs,kw)) (W.InitBack (s.heap.objs.size+1) R)
   {s with heap:=(s.heap.push W.emptyDict).push (W.instObj C s.heap.objs.size)}):
  codeAny (model prog w) A (.call (.ref C) (vs,kw)) R s:=W.make_core (W.makes_of X hm) (W.looks_findIn X hi) (λself=>W.bind_fn X self hf) (.inl U) h
end
def fC(f:Str)(v:V):List (Str×V)->List (Str×V)
 |[]=>[(f,v)]
 | (g,x)::r=>if g=f then(g,v)::r else(g,x)::fC f v r
theorem m7(f g:Str)(v:V):∀fs:List (Str×V),(fC f v fs).lookup g=if g=f then Z v else fs.lookup g
 |[]=>by
  show YX g [(f,v)]=_;by_cases h:g=f
  ·have q:=beq_iff_eq.mpr h;simp only[YX,q,if_pos h]
  ·have q:=beq_eq_false_iff_ne.mpr h;simp only[YX,q,if_neg h]
 | (k,x)::r=>by
  have K:=m7 f g v r;rw[show fC f v ((k,x)::r)=(if k=f then(k,v)::r else(k,x)::fC f v r)from rfl]
  by_cases z:k=f
  ·rw[if_pos z];by_cases h:g=k
   ·have q:=beq_iff_eq.mpr h;simp only[YX,q,if_pos (h.trans z)]
   ·have q:=beq_eq_false_iff_ne.mpr h;simp only[YX,q,if_neg (λe:g=f=>h (e.trans z.symm))]
  ·rw[if_neg z];by_cases h:g=k
   ·have q:=beq_iff_eq.mpr h;simp only[YX,q,if_neg (λe=>z (h.symm.trans e))]
   ·have q:=beq_eq_false_iff_ne.mpr h;simp only[YX,q];exact K
theorem kE(f:Str)(v:V):∀fs:List (Str×V),f∈(fC f v fs).map (·.1)/\∀g,g∈fs.map (·.1)->g∈(fC f v fs).map (·.1)
 |[]=>(by simp[fC],λg h=>by simp at h)
 | (k,x)::r=>by
  let(K,z):=kE f v r;rw[show fC f v ((k,x)::r)=(if k=f then(k,v)::r else(k,x)::fC f v r)from rfl]
  by_cases q:k=f
  ·rw[if_pos q];subst q;exact(by simp,λg h=>by simpa using h)
  ·rw[if_neg q];refine(?_,λg h=>?_)
   ·exact aJ _ K
   ·obtain e|e:=fx.mp h
    ·exact fx.mpr (.inl e)
    ·exact aJ _ (z g e)
theorem ug(f:Str)(v:V):∀fs:List (Str×V),(fC f v fs).length<=fs.length+1
 |[]=>by simp[fC]
 | (k,x)::r=>by
  have q:=ug f v r;rw[show fC f v ((k,x)::r)=(if k=f then(k,v)::r else(k,x)::fC f v r)from rfl]
  by_cases g:k=f
  ·rw[if_pos g,my,my];lia
  ·rw[if_neg g,my,my];lia
def lN.some_of{v:V}{o:Option B}(r:lN (Z v) o):∃u,o=Z u/\RelV v u:=by
 cases o with
 |none=>exact(r).elim
 |some u=>exact(u,U,r)
def lN.none_of{o:Option B}(r:lN Y o):o=none:=by
 cases o with
 |none=>rfl
 |some u=>exact(r).elim
theorem yk{v:V}(r:RelV v u):W.handedIn u=true:=by
 cases v with
 |non=>cases(r);rfl
 |bl b=>cases(r);rfl
 |int i=>let(t,e):=(r);cases e;rfl
 |str x=>let(t,e):=(r);cases e;rfl
 |byt b=>let(t,e):=(r);cases e;rfl
 |flt b=>let(t,e):=(r);cases e;rfl
 |ref a=>cases(r);rfl
 |ty n=>cases(r);rfl
section
variable{w:Da}{h:Ev}{dx:J}{fs:List (Str×V)}
def vk(hok:HOk P w H h)(e:H a=Z (.ins C dx fs)):∃mA,EU h a dx C mA/\(∀f,lN (fs.lookup f) (mA f))/\PySem.Within mA (fs.map (·.1))/\fs.length<=1000/\H dx=Z (.own a):=by
 let(d,z,ne,ob,mA,n,r,q):=(hok a _ e);exact(mA,(ob,n,ne),r,q,z,d)
end
structure Cls(K:BT)(C:J):Prop where
 pg:W.plainGet K C Str.empty=O
 hd:W.hasDictIn K C=O
 po:W.plainOver K C=O
 sa:W.findIn K (.ref C) "__setattr__"=Z (Z (.builtin "object.__setattr__"))
theorem Cls.get{K:BT}(c:Cls K C)(f:Str):W.plainGet K C f=true:=c.pg
def bS(K:BT)(C:J)(f:Str):Prop:=W.findIn K (.ref C) f=Z Y
theorem bS.U6{K:BT}{f:Str}(n:bS K C f):W.takerIn K C f=Z none:=by
 unfold W.takerIn;rw[n];rfl
structure Meth(K:BT)(C:J)(m:Str)(f:J):Prop where
 at_:W.findIn K (.ref C) m=Z (Z (.ref f))
 fn:W.isFn K (.ref f)=O
 kp:W.keepIn K (.ref f)=O
variable{m:Str}{env:Env}
section
variable{σ:St}{dx:J}{fs:List (Str×V)}{f:Str}{v:V}
def wB{b:Bool}(I:Inv X gd σ H s)(e:H a=Z (.ins C dx fs))(c:Cls X.K C)(n:bS X.K C f)(l:fs.lookup f=Z v)
  (h:∀u s',Inv X gd σ H s'->RelV v u->Q u s'):wpAny (model X.prog X.w) A (getAttr (.ref a) f b) Q E s:=by
 let(mA,ϊ,r,_,_,_):=vk I.hok e;let(u,g,ru):=lN.some_of (by rw[<- l];exact r f)
 exact get_map I.kIn ϊ (c.get f) c.hd n g (yk ru) (h u _ (I.tok _) ru)
def lH{g:J}{Q:B×List B->ϋ->Prop}(I:Inv X gd σ H s)(e:H a=Z (.ins C dx fs))(c:Cls X.K C)(k:Meth X.K C m g)(l:fs.lookup m=Y)
  (h:Q (.ref g,[.ref a]) s):wpAny (model X.prog X.w) A (getMethod (.ref a) m pl) Q E s:=by
 let(mA,ϊ,r,_,_,_):=vk I.hok e;have hn:=lN.none_of (by rw[<- l];exact r m)
 exact LQ I.kIn ϊ (c.get m) k.at_ k.fn hn h
def vG{Q:Unit->ϋ->Prop}(I:Inv X gd σ H s)(e:H a=Z (.ins C dx fs))(c:Cls X.K C)(n:bS X.K C f)(hl:fs.length<1000)(V:RelV y u)
  (h:∀s',Inv X gd σ (upd H a (.ins C dx (fC f y fs))) s'->Q () s'):wpAny (model X.prog X.w) A (setAttr (.ref a) f u) Q E s:=by
 let(mA,ϊ,r,wi,_,ho):=vk I.hok e;have hz:(fs.map (·.1)).length<=ot:=by rw[gV,Y1];lia
 refine Nz I.kIn ϊ c.sa c.po n.U6 c.hd wi hz λh' P sb=>h _ ?_
 have hd:∃o,h'.get? dx=Z o:=let(o,_,_,e',_):=P.ns;(o,e')
 refine I.write (x:=a) (e:=dx) (by rw[e];exact True.intro) (.inr ho) (λb q hb z=>(sb.2 b hb).trans z) hd (by rw[ax ϊ.ne];exact ho,?_,ϊ.ne,P.obj,_,P.ns,λg=>?_,λg hg=>?_)
 ·have:=ug f y fs;lia
 ·rw[m7];by_cases q:g=f
  ·rw[if_pos q,if_pos q];exact V
  ·rw[if_neg q,if_neg q];exact r g
 ·by_cases q:g=f
  ·rw[q];exact(kE f y fs).1
  ·refine(kE f y fs).2 g (wi g λz=>hg ?_)
   show(if g=f then Z u else mA g)=Y
   rw[if_neg q];exact z
theorem Inv.made(I:Inv X gd σ H s):Inv X gd σ (upd (upd H s.heap.objs.size (.own (s.heap.objs.size+1))) (s.heap.objs.size+1) (.ins C s.heap.objs.size []))
  {s with heap:=(s.heap.push W.emptyDict).push (W.instObj C s.heap.objs.size)}:=by
 have g:(s.heap.push W.emptyDict).get? s.heap.objs.size=Z W.emptyDict:=u3 s.heap U;have P:=by
  have:=u3 (s.heap.push W.emptyDict) (o:=W.instObj C s.heap.objs.size) U
  rwa [Yj]at this
 have K:(s.heap.push W.emptyDict).Ns s.heap.objs.size (λ_=>Y):=(W.emptyDict,#[],_,g,U,(λe he=>absurd he (by simp)),λ_=>rfl)
 have Q:=I.laid (o:=.own (s.heap.objs.size+1)) (t':=s.toks) (λb u q=>iP _ q) (oa _) (_,g)
 refine Q.laid (λb u q=>iP _ q) (ZZ (Yj _ _)) ?_
 have ne:s.heap.objs.size≠s.heap.objs.size+1:=Aw (YQ _);refine(by rw[ax ne,aC],Je _,ne,P,λ_=>Y,(Heap.Ns1.of_empty K).at λo q=>iP _ q,λ_=>True.intro,λy z=>absurd U z)
def GF{prog:Db}{w:Da}{f:Str}(q:attributeBase e f env (eval e env)=eval e env)
  (h:wpAny (model prog w) A (eval e env) (λo g=>wpAny (model prog w) A (getAttr o f O) Q E g) E s):wpAny (model prog w) A (eval (.Attribute e f pos) env) Q E s :=
 Attribute_any_ h (by rw[arm_eval_Attribute,q])
end
def Ru(K:BT)(ta:TE)(f:Str):TE:=λσ H Q=>ta σ H λx H1=>∃a C dx fs v,x=.ref a/\H1 a=Z (.ins C dx fs)/\Cls K C/\bS K C f/\fs.lookup f=Z v/\Q v H1
def NF(K:BT)(ta tv:TE)(f:Str):TS:=λD σ H=>tv σ H λy H1=>ta σ H1 λx g=>∃a C dx fs,x=.ref a/\g a=Z (.ins C dx fs)/\Cls K C/\bS K C f/\fs.length<1000 /\
 D.nx σ (upd g a (.ins C dx (fC f y fs)))
def UP(X:Cx)(op:Operator)(rd:V->V->Hp->VK->Prop):Prop :=
 ∀(gd:List (J×Obj))(s:ϋ)(σ:St)(H:Hp)(x y:V)(u v:B)(Q:VK),Inv X gd σ H s->RelV x u->RelV y v->rd x y H Q->XV X (inplaceOp op u v) (EP X gd σ Q) X.xe s
def Fz(K:BT)(ta tv:TE)(rd:V->V->Hp->VK->Prop)(f:Str):TS:=λD σ H=>ta σ H λx H1=>∃a C dx fs v,x=.ref a/\H1 a=Z (.ins C dx fs)/\Cls K C/\bS K C f/\fs.lookup f=Z v /\
 tv σ H1 λy Q=>rd v y Q λz P=>∃q g,P a=Z (.ins C q g)/\g.length<1000/\D.nx σ (upd P a (.ins C q (fC f z g)))
section
variable{o value:EQ}{f:Str}{pos pos' Js:Pos}{ta tv:TE}
def K9(he:PE X e ta)(P:attributeBase e f X.env (eval e X.env)=eval e X.env):PE X (.Attribute e f pos) (Ru X.K ta f):=by
 intro gd s σ H Q I h;refine GF P (thn (he gd s σ H _ I h) λu s1 g=>?_)
 let(x,H1,I1,z,a,C,dx,fs,v,ex,V,c,n,l,q):=g;subst ex;obtain rfl:=z;exact wB I1 V c n l λu' s2 I2 ru=>(v,H1,I2,ru,q)
def DR(ha:PE X o ta)(hv:PE X value tv)(hs:swapsWith value (Z (.Attribute o f pos')) pos.line X.env=pure ϊ):PS X (.Assign [.Attribute o f pos'] value pos) (NF X.K ta tv f):=by
 intro gd s σ H D I h;refine plainObj_wpAny_Assign_Attribute (thn (hv gd s σ H _ I h) λu s1 (y,H1,I1,z,q)=>thn (ha gd s1 σ H1 _ I1 q) λov s2 g=>?_) hs
 let(x,H2,I2,P,a,C,dx,fs,ex,V,c,n,l,Q):=g;subst ex;obtain rfl:=P;exact vG I2 V c n l z λs3 I3=>(σ,_,I3,Q)
def Hy{op:Operator}{rd:V->V->Hp->VK->Prop}(ha:PE X o ta)(hv:PE X value tv)(g:UP X op rd):PS X (.AugAssign (.Attribute o f Js) op value pos) (Fz X.K ta tv rd f):=by
 intro gd s σ H D I h;refine wpAny_AugAssign_AttributeAny (thn (ha gd s σ H _ I h) λov s1 P=>?_)
 let(x,H1,I1,rx,a,C,dx,fs,v,ex,ea,c,n,l,q):=P;subst ex;obtain rfl:=rx;exact wB I1 ea c n l λu s2 I2 ru=>thn (hv gd s2 σ H1 _ I2 q) λw3 s3 (y,H2,I3,ry,q3)=>thn (g gd s3 σ H2 v y u w3 _ I3 ru ry q3) λw4 s4 (z,H3,I4,rz,ak,ah,Q,l',q4)=>(vG I4 Q c n l' rz λs5 I5=>(σ,_,I5,q4))
inductive RO(x:V)(y:V)(H:Hp)(Q:VK):Prop
 |mk(i j:_)(h1:x=.int i)(h2:y=.int j)(h3:Q (.int (i+j)) H)
def T8:UP X .Add RO:=by
 rintro gd s σ H x y u v Q I z g ⟨i,j,rfl,rfl,q⟩
 let(t,U):=(z);let(t',U):=(g);exact PyProof.Rows.iadd_int (.int (i+j),H,I.tok _,(_,U),q)
end
section
variable{σ:St}{c:B}{b:Bool}
inductive oq(K:BT)(H:Hp):V->B->Prop where
 |non:oq K H .non (.type "NoneType")
 |bl(x:Bool):oq K H (.bl x) (.type "bool")
 |int(i:Int):oq K H (.int i) (.type "int")
 |str(x:Str):oq K H (.str x) (.type "str")
 |flt(x:UInt64):oq K H (.flt x) (.type "float")
 |lst{a:J}{xs:List V}(e:H a=Z (.lst xs)):oq K H (.ref a) (.type "list")
 |frz{a:J}{o:Obj}{xs:List V}(e:H a=Z (.frz o (.lst xs))):oq K H (.ref a) (.type "list")
 |tup{a:J}{xs:List V}(e:H a=Z (.tup xs)):oq K H (.ref a) (.type "tuple")
 |dK{a:J}{kvs:List (Key×V)}(e:H a=Z (.dK kvs)):oq K H (.ref a) (.type "dict")
 |dT{a:J}{kvs:List (List Key×V)}(e:H a=Z (.dT kvs)):oq K H (.ref a) (.type "dict")
 |ins{a C dx:J}{fs:List (Str×V)}(e:H a=Z (.ins C dx fs))(cl:Cls K C)(ha:W.findIn K (.ref C) "__class__"=Z (Z (.builtin "object.__class__")))
   (hn:W.specialIn K (.builtin "object.__class__") "__get__"=Z (Z (.builtin "getset_descriptor.__get__"))) (htk:W.takesIn K (.builtin "object.__class__")=Z O)
   (hm:W.mroIn K C (.type "object")=Z O):oq K H (.ref a) (.ref C)
theorem Ih{x:V}{t:B}(I:Inv X gd σ H s)(g:RelV x u)(ty:oq X.K H x t)(e:W.kitOne X.K t c=Z b)(h:∀tk,Q (.bool b) {s with toks:=tk}):
  wpAny (model X.prog X.w) A (call (.builtin "isinstance") [u,c]) Q E s:=by
 cases ty with
 |non=>cases(g);exact W.kia_one W.kitx_none I.kIn True.intro e (λz=>nomatch z) h
 |bl y=>cases(g);exact W.kia_one W.kitx_bool I.kIn True.intro e (λz=>nomatch z) h
 |int i=>let(t,q):=(g);cases q;exact W.kia_one W.kitx_int I.kIn True.intro e (λz=>nomatch z) h
 |str y=>let(t,q):=(g);cases q;exact W.kia_one W.kitx_str I.kIn True.intro e (λz=>nomatch z) h
 |flt y=>let(t,q):=(g);cases q;exact W.kia_one W.kitx_float I.kIn True.intro e (λz=>nomatch z) h
 |@lst a xs P =>
  cases(g)
  let(_,_,n,_,h1):=(I.hok a _ P);exact W.kia_one W.kitx_list I.kIn (_,h1,U) e (λz=>nomatch z) h
 |@frz a ob xs P =>
  cases(g)
  let(_,_,_,n,_,h1):=(I.hok a _ P);exact W.kia_one W.kitx_list I.kIn (_,h1,U) e (λz=>nomatch z) h
 |@tup a xs P =>
  cases(g)
  let(_,_,_,p):=(I.hok a _ P);let(o,h1,h2,_):=p.1;exact W.kia_one W.kitx_tuple I.kIn (o,h1,h2) e (λz=>nomatch z) h
 |@dK a kvs P =>
  cases(g)
  let(_,_,vs,_,p):=(I.hok a _ P);let(o,es,ep,h1,h2,_):=p;exact W.kia_one W.kitx_dict I.kIn (o,h1,h2.1) e (λz=>nomatch z) h
 |@dT a kvs P =>
  cases(g)
  let(_,_,xs,_,o,es,ep,h1,h2,_):=(I.hok a _ P);exact W.kia_one W.kitx_dict I.kIn (o,h1,h2.1) e (λz=>nomatch z) h
 |@ins a C dx fs P cl ha hn htk hm =>
  cases(g)
  let(mA,ϊ,_):=vk I.hok P;let(od,ύ,_):=ϊ.look;exact W.kia_one (W.kitx_own (cl.get _) cl.hd ha hn htk hm) I.kIn ύ e (λz=>nomatch z) h
end
structure bP(k:Nat)(A:Do):Prop where
 hd:A.handled=Y
 dp:A.depth+3*k+5<recursionLimit
 un:A.units+16*k+200<cLine
def bP.mono{k:Nat}(r:bP k A)(h:j<=k):bP j A:=(r.hd,by have:=r.dp;lia,by have:=r.un;lia)
def bP.aY{k:Nat}(r:bP k A)(h:j<=k:=by first|decide|lia):bP j A:=r.mono h
theorem bP.deeper{k:Nat}{A:Do}(r:bP (k+1) A)(env:Env):bP k (A.deeper env) :=
 (r.hd,by have:=r.dp;show A.depth+1+3*k+5<_;lia,by have:=r.un;show A.units+3+16*k+200<_;lia)
def Ef:(A.under (.builtin "type.__call__" (.ref C::us,kw))).depth=A.depth+1:=by
 rfl
def Ee:(A.under (.builtin "type.__call__" (.ref C::us,kw))).units=A.units+1:=by
 rfl
def bP.make{k:Nat}(r:bP (k+1) A)(C:J)(us:List B)(kw:List (Str×B)):bP k (A.under (.builtin "type.__call__" (.ref C::us,kw))) :=
 (r.hd,by have:=r.dp;rw[Ef];lia,by have:=r.un;rw[Ee];lia)
theorem bP.depth{k:Nat}{A:Do}(r:bP k A):A.depth<recursionLimit:=by have:=r.dp;lia
theorem bP.units{k:Nat}{A:Do}(r:bP k A):A.units+64<cLine:=by have:=r.un;lia
def fK:TA:=λ_ H Q=>Q [] H
def bH(ta:TE)(tr:TA):TA:=λσ H Q=>ta σ H λx H1=>tr σ H1 λxs g=>Q (x::xs) g
section
variable{t:TA}{pos:Pos}
def dC:PA X [] fK:=λ_ _ _ _ H Q I h=>Calls.spliced_nil ([],H,I,.nil,h)
abbrev AC(X:Cx)(e:EQ)(f:List EQ):Prop:=dO (e::f) X.env=(false,eval e X.env)::dO f X.env
def bh(ha:PE X e te)(hr:PA X es t)(hs:‹AC X e es›):PA X (e::es) (bH te t):=by
 intro pos gd s σ H Q I h;rw[hs];show wpAny _ _ (spliced ((ϊ,eval e X.env)::backTo pos (dO es X.env))) _ _ s;exact Calls.spliced_cons (thn (ha gd s σ H _ I h) λu s1 (x,H1,V,q,K)=>(thn (hr pos gd s1 σ H1 _ V K) λus s2 (xs,H2,P,g,z)=>(x::xs,H2,P,.cons q g,z)))
def Jt(t:TA):TE:=λσ H Q=>t σ H λxs H1=>xs.length<=ot/\∀p,H1 p=Y->Q (.ref p) (upd H1 p (.tup xs))
def Rr(t:TA):TE:=λσ H Q=>t σ H λxs H1=>xs.length<=ot/\∀p,H1 p=Y->Q (.ref p) (upd H1 p (.lst xs))
def DU{K}(h:PA X es t):PE X (.Tuple es K pos) (Jt t):=by
 intro gd s σ H Q I P;refine wpAny_Tuple_spliced (thn (h pos gd s σ H _ I P) λus s1 (xs,H1,g,r,z,q)=>(by rw[<- r.length];exact z,?_))
 have hf:=g.hok.fresh (oa _);refine(.ref s1.heap.objs.size,upd H1 s1.heap.objs.size (.tup xs),g.laid (λb u e=>iP _ e) (oa _) ?_,U,q _ hf)
 exact(z,us,r,((_,u3 _ U,U,_,U),_,u3 _ U,U))
def K5(h:PA X es t):PE X (.List es pos) (Rr t):=by
 intro gd s σ H Q I K;refine wpAny_List_spliced (thn (h pos gd s σ H _ I K) λus s1 (xs,H1,g,r,z,q)=>(by rw[<- r.length];exact z,?_))
 have hf:=g.hok.fresh (oa _);refine(.ref s1.heap.objs.size,upd H1 s1.heap.objs.size (.lst xs),g.laid (λb u e=>iP _ e) (oa _) ?_,U,q _ hf)
 exact(z,us,0,r,u3 _ U)
end
abbrev Sp:=List V->Hp->VK->XK->Prop
abbrev CXT:=List Env->Hp->ϋ->XK->B->ϋ->Prop
structure CM(P:Db)(w:Da)(K:BT)(mg:Str->Option B)(base:Ev)(A:Do)(outer:List Env)(s:ϋ)(H:Hp):Prop where
 frames:A.frames=Z outer
 mod:Mod K mg base
 bs:∀b o,base.get? b=Z o->s.heap.get? b=Z o/\H b=Y
 bsz:base.objs.size<=s.heap.objs.size
 oj:s.heap.FunFrames base outer
 frf:∀b∈frs outer,H b=Y
 hok:HOk P w H s.heap
 bare:AllBare s.gens
def CE(outer:List Env)(P:Db)(w:Da)(H:Hp)(s:ϋ)(Q:VK)(u:B)(s':ϋ):Prop :=
 ∃v H',s'.os=s.os/\AllBare s'.gens/\Un (frs outer) [] H H' s.heap s'.heap/\HOk P w H' s'.heap/\RelV v u/\Q v H'
def CR(CX:CXT)(outer:List Env)(P:Db)(w:Da)(H:Hp)(s:ϋ)(Q:VK)(E:XK)(r:Result)(s':ϋ):Prop :=
 match r with
 |.ok (.ret u)=>CE outer P w H s Q u s'
 |.ok _=>False
 |.error e=>CX outer H s E e s'
structure aV(P:Db)(w:Da)(K:BT)(mg:Str->Option B)(base:Ev)(CX:CXT)(k:Nat)(f:J)(fd:Ch)(ps:List Str)(sp:Sp):Prop where
 len:∀vs H Q E,sp vs H Q E->vs.length=ps.length
 run:∀(A:Do)(outer:List Env)(s:ϋ)(H:Hp)(args:Args)(us:List B)(vs:List V)(Q:VK)(E:XK),bP k A->CM P w K mg base A outer s H->BindsTo s fd args (ps.zip us)->Vals vs us->sp vs H Q E ->
  codeAny (model P w) A (.call (.ref f) args) (CR CX outer P w H s Q E) s
variable{mg:Str->Option B}{base:Ev}{CX:CXT}{fd:Ch}{ps:List Str}{sp:Sp}
theorem aV.imp{w:Da}{K:BT}{k:Nat}{f:J}{g:Sp}(F:aV P w K mg base CX k f fd ps sp)
  (h:∀vs H Q E,g vs H Q E->sp vs H Q E):aV P w K mg base CX k f fd ps g :=
 (λvs H Q E q=>F.len vs H Q E (h _ _ _ _ q),λA outer s H args us vs Q E hr he z hv hs=>F.run A outer s H args us vs Q E hr he z hv (h _ _ _ _ hs))
variable{outer:List Env}
theorem CM.make{w:Da}{K:BT}(e:CM P w K mg base A outer s H)(C:J)(us:List B)(kw:List (Str×B)):
  CM P w K mg base (A.under (.builtin "type.__call__" (.ref C::us,kw))) outer s H:=(by exact e.frames,e.mod,e.bs,e.bsz,e.oj,e.frf,e.hok,e.bare)
section
variable{σ:St}
def Inv.L7(I:Inv X gd σ H s):CM X.prog X.w X.K X.mg X.base X.A X.stack s H :=
 (I.ok.frames,I.ok.mod,I.bs,u4 I.ok.bsz I.sz,I.stack,I.nJ,I.hok,I.bare)
def Inv.after{Q:VK}(I:Inv X gd σ H s)(h:CE X.stack X.prog X.w H s Q u s'):EP X gd σ Q u s':=by
 let(v,H',os,bare,un,hok,r,q):=h;let(P,g,d,t,K):=s';obtain rfl:=os;exact(v,H',I.call un hok bare (λb z=>absurd z (by simp)),r,q)
end
def AR(sp:Sp)(dvs:List V)(E:XK)(t:TA):TE:=λσ H Q=>t σ H λvs H1=>sp (vs++dvs) H1 Q E
def tY(C:J)(m:Str)(sp:Sp)(dvs:List V)(E:XK)(ta:TE)(t:TA):TE:=λσ H Q=>ta σ H λx H1=>∃a dx fs,x=.ref a/\H1 a=Z (.ins C dx fs)/\fs.lookup m=Y /\
 t σ H1 λvs g=>sp (x ::(vs++dvs)) g Q E
def E9(C:J)(sp:Sp)(dvs:List V)(E:XK)(t:TA):TE:=λσ H Q=>t σ H λvs H1=>∀x dx,H1 x=Y->H1 dx=Y->dx≠x ->
 sp (.ref x ::(vs++dvs)) (upd (upd H1 dx (.own x)) x (.ins C dx [])) (λv g=>v=.non/\Q (.ref x) g) E
def Binds(K:BT)(fd:Ch)(ps:List Str)(ds:List B):Prop :=
 ∀(s:ϋ)(us:List B),K.In s.heap->(us++ds).length=ps.length->BindsTo s fd (us,[]) (ps.zip (us++ds))
theorem Binds.all{K:BT}(h:∀us:List B,us.length=ps.length->bindArgs fd (us,[])=pure (ps.zip us)):Binds K fd ps []:=λs us _ hl=>by
 rw[qp]at hl ⊢;exact .of_eq (h us hl)
def Passes(CX:CXT)(X:Cx)(E:XK):Prop:=∀(gd:List (J×Obj))(σ:St)(H:Hp)(s:ϋ)(e:B)(s':ϋ),Inv X gd σ H s->CX X.stack H s E e s'->X.xe e s'
section
variable{k:Nat}{f:J}{dvs:List V}{ds:List B}{E:XK}{p pos apos:Pos}{o:EQ}{ta:TE}{t:TA}
theorem DG{σ:St}{Q:VK}{vs:List V}(F:aV X.prog X.w X.K X.mg X.base CX k f fd ps sp)(hr:bP k X.A)(z:Binds X.K fd ps ds)(hd:Vals dvs ds)(hx:Passes CX X E)
  (I:Inv X gd σ H s) (r:Vals vs us) (h:sp (vs++dvs) H Q E):XV X (call (.ref f) us) (EP X gd σ Q) X.xe s:=by
 have q:=r.append hd;have hl:(us++ds).length=ps.length:=by rw[<- q.length];exact F.len _ _ _ _ h
 refine wpAny_call (codeAny_mono (F.run X.A X.stack s H (us,[]) (us++ds) (vs++dvs) Q E hr I.L7 (z s us I.kIn hl) q h) λr s' g=>?_)
 cases r with
 |error e=>exact hx gd σ H s e s' I g
 |ok fl =>
  cases fl with
  |ret u=>exact I.after g
  |next=>exact False.elim g
  |brk=>exact False.elim g
  |cont=>exact False.elim g
abbrev AM(X:Cx)(p:Pos)(e:List EQ):Prop:=(backTo p (dO e X.env)).any (·.1)=false
theorem zz(F:aV X.prog X.w X.K X.mg X.base CX k f fd ps sp)(hr:bP k X.A)(hg:Gl X x)(hm:X.mg x=Z (.ref f))(V:W.keepIn X.K (.ref f)=O)(hb:Binds X.K fd ps ds)(hd:Vals dvs ds)(hx:Passes CX X E)
  (ha:PA X (e::es) t) (z:autoParam (AS x) zdc._auto_1) (he:‹AC X e es›) (g:‹AM X pos es›):
  PE X (.Call (.Name x p) (e::es) [] pos) (AR sp dvs E t):=by
 intro gd s σ H Q I h;exact MI (nT I hg hm (W.callWith_K (h₀:=X.base) I.ok.mod.kin V (thn (ha pos gd s σ H _ I h) λus s1 (vs,H1,P,r,q)=>(P.kIn,(DG F hr hb hd hx P r q))) he g) z)
theorem Oy{pl:Sem Bool}(he:PE X o ta)(c:Cls X.K C)(hm:Meth X.K C m f)(F:aV X.prog X.w X.K X.mg X.base CX k f fd ps sp)(hr:bP k X.A)(hb:Binds X.K fd ps ds)(hd:Vals dvs ds)(hx:Passes CX X E)(ha:PA X (e::es) t)
  (g:‹AC X e es›) (z:‹AM X pos es›)
  (ht:‹eval (.Call (.Attribute o m apos) (e::es) [] pos) X.env=(do
   let V <- eval o X.env
   standAt apos.atName
   let(f,first) <- holding [V] (getMethod V m pl)
   callWith pos f first (backTo pos (dO (e::es) X.env)) (backToKw pos (keywordEach [] X.env)))›):
  PE X (.Call (.Attribute o m apos) (e::es) [] pos) (tY C m sp dvs E ta t):=by
 intro gd s σ H Q I h;refine W.methodCall_KW (thn (he gd s σ H _ I h) λu s1 P=>?_) ht
 let(x,H1,I1,rx,a,dx,fs,ex,ea,l,q):=P;subst ex;obtain rfl:=rx;refine lH I1 ea c hm l ?_;refine W.callWith_K I.ok.mod.kin hm.kp (thn (ha pos gd s1 σ H1 _ I1 q) λus s2 (vs,H2,I2,r,q2)=>(I2.kIn,?_)) g z
 exact DG (vs:=.ref a::vs) F hr hb hd hx I2 (.cons U r) q2
theorem vU(he:PE X o ta)(c:Cls X.K C)(hm:Meth X.K C m f)(F:aV X.prog X.w X.K X.mg X.base CX k f fd ps sp)(hr:bP k X.A)(hb:Binds X.K fd ps ds)(hd:Vals dvs ds)(hx:Passes CX X E)
  (ht:‹eval (.Call (.Attribute o m apos) [] [] pos) X.env=(do
   let P <- eval o X.env
   standAt apos.atName
   let(f,first) <- holding [P] (getMethod P m pl)
   callWith pos f first (backTo pos (dO [] X.env)) (backToKw pos (keywordEach [] X.env)))›):
  PE X (.Call (.Attribute o m apos) [] [] pos) (tY C m sp dvs E ta fK):=by
 intro gd s σ H Q I h;refine W.methodCall_KW (thn (he gd s σ H _ I h) λu s1 g=>?_) ht
 let(x,H1,z,V,a,dx,fs,ex,ea,l,q):=g;subst ex;obtain rfl:=V;refine lH z ea c hm l ?_;exact W.callWith_K0 z.kIn hm.kp (DG (vs:=[.ref a]) F hr hb hd hx z (.cons U .nil) q)
structure Mk(K:BT)(C f:J):Prop where
 makes:W.makesIn K C=O
 init:W.findIn K (.ref C) "__init__"=Z (Z (.ref f))
 fn:W.isFn K (.ref f)=O
 kp:W.keepIn K (.ref C)=O
theorem JV{σ:St}{Q:VK}{vs:List V}(M:Mk X.K C f)(F:aV X.prog X.w X.K X.mg X.base CX k f fd ps sp)(hr:bP (k+1) X.A)(hb:Binds X.K fd ps ds)(hd:Vals dvs ds)
  (hx:Passes CX X E) (I:Inv X gd σ H s) (r:Vals vs us)
  (h:∀x dx,H x=Y->H dx=Y->dx≠x->sp (.ref x ::(vs++dvs)) (upd (upd H dx (.own x)) x (.ins C dx [])) (λv H2=>v=.non/\Q (.ref x) H2) E):
  XV X (call (.ref C) us) (EP X gd σ Q) X.xe s:=by
 have P:=h (s.heap.objs.size+1) s.heap.objs.size (I.hok.fresh (ZP _)) (I.hok.fresh (oa _)) (Aw (YQ _));have q:=Inv.made (C:=C) I;have z:Vals (V.ref (s.heap.objs.size+1) ::(vs++dvs)) (B.ref (s.heap.objs.size+1) ::(us++ds)):=.cons U (r.append hd);have hl:=by
  have e:=z.length;rw[F.len _ _ _ _ P]at e;exact e.symm
 refine wpAny_call (Lm I.kIn M.makes M.init (beq_iff_eq.mp M.fn) (codeAny_mono (F.run _ X.stack _ _ (B.ref (s.heap.objs.size+1)::us,[]) (B.ref (s.heap.objs.size+1) ::(us++ds)) _ _ E (hr.make C us [])
  (q.L7.make C us []) (hb _ (B.ref (s.heap.objs.size+1)::us) q.kIn hl) z P) λr s' g=>?_))
 cases r with
 |error e=>exact hx gd σ _ _ e s' q g
 |ok fl =>
  cases fl with
  |ret u =>
   let(v,H',I3,rv,ev,q3):=q.after g;subst ev;exact(rv,(V.ref (s.heap.objs.size+1),H',I3,U,q3))
  |next=>exact False.elim g
  |brk=>exact False.elim g
  |cont=>exact False.elim g
theorem FR(M:Mk X.K C f)(F:aV X.prog X.w X.K X.mg X.base CX k f fd ps sp)(hr:bP (k+1) X.A)(hg:Gl X x)(hm:X.mg x=Z (.ref C))(V:Binds X.K fd ps ds)(hd:Vals dvs ds)(hx:Passes CX X E)
  (ha:PA X (e::es) t) (z:autoParam (AS x) zdc._auto_1) (he:‹AC X e es›) (g:‹AM X pos es›):
  PE X (.Call (.Name x p) (e::es) [] pos) (E9 C sp dvs E t):=by
 intro gd s σ H Q I h;exact MI (nT I hg hm (W.callWith_K (h₀:=X.base) I.ok.mod.kin M.kp (thn (ha pos gd s σ H _ I h) λus s1 (vs,H1,P,r,q)=>(P.kIn,(JV M F hr V hd hx P r q))) he g) z)
end
structure aE(N P:List Str)(sc:Scope):Prop where
 kind:sc.kind=.function
 co:sc.isCoroutine=ϊ
 gen:sc.isGenerator=ϊ
 nd:N.Nodup
 pre:N.take P.length=P
 par:∀x∈P,sc.names.lookup x=Z .local\/sc.names.lookup x=Z .cell
 S4:∀y∈sc.names,y.2 ≠ .free
theorem yC{kindOf:Str->Option NameKind}{x:Str}:∀{binds:List (Str×B)}{m:Str->Option B},(∀v,(x,v) ∉ binds)->bindL kindOf binds m x=m x
 |[],_,_=>rfl
 | (n,v)::r,m,h=>by
  unfold bindL;rw[yC λw hw=>h w (aJ _ hw)]
  split
  ·have:x≠n:=by rintro rfl;exact h v di
   simp[this]
  ·rfl
theorem yE{kindOf:Str->Option NameKind}{x:Str}:∀{binds:List (Str×B)}{m:Str->Option B},(∀v,(x,v) ∉ binds)->bindC kindOf binds m x=m x
 |[],_,_=>rfl
 | (n,v)::r,m,h=>by
  unfold bindC;rw[yE λw hw=>h w (aJ _ hw)]
  split
  ·rfl
  ·have:x≠n:=by rintro rfl;exact h v di
   simp[this]
theorem yD{kindOf:Str->Option NameKind}{x:Str}{v:B}:∀{P:List Str}{vs:List B}{i:Nat}{m:Str->Option B},P.Nodup->P[i]?=Z x->vs[i]?=Z v->kindOf x=Z .local ->
  bindL kindOf (P.zip vs) m x=Z v
 |[],_,_,_,_,h,_,_=>by simp at h
 |_::_,[],_,_,_,_,h,_=>by simp at h
 |p::P,w::vs,0,m,nd,h1,h2,g=>by
  simp at h1 h2;subst h1;subst h2;show bindL kindOf ((p,w)::P.zip vs) m p=_;unfold bindL;rw[yC λv hv=>(xj.mp nd).1 (Z5 hv).1,if_pos g]
  simp
 |p::P,w::vs,i+1,m,nd,h1,h2,g=>by
  unfold bindL;exact yD (xj.mp nd).2 (by simpa using h1) (by simpa using h2) g
theorem yF{kindOf:Str->Option NameKind}{x:Str}{v:B}:∀{P:List Str}{vs:List B}{i:Nat}{m:Str->Option B},P.Nodup->P[i]?=Z x->vs[i]?=Z v->kindOf x≠Z .local ->
  bindC kindOf (P.zip vs) m x=Z v
 |[],_,_,_,_,h,_,_=>by simp at h
 |_::_,[],_,_,_,_,h,_=>by simp at h
 |p::P,w::vs,0,m,nd,h1,h2,g=>by
  simp at h1 h2;subst h1;subst h2;show bindC kindOf ((p,w)::P.zip vs) m p=_;unfold bindC;rw[yE λv hv=>(xj.mp nd).1 (Z5 hv).1,if_neg g]
  simp
 |p::P,w::vs,i+1,m,nd,h1,h2,g=>by
  unfold bindC;exact yF (xj.mp nd).2 (by simpa using h1) (by simpa using h2) g
def start(N:List Str)(vs:List V):St:=vs.map Z++xV (N.length - vs.length) Y
def pP(CX:CXT)(P:Db)(w:Da)(K:BT)(mg:Str->Option B)(base:Ev)(N:List Str)(qual:Str)(scope:Scope)(f:J)(cd:B)(A:Do)(outer:List Env)(s:ϋ)(H:Hp)(E:XK):Cx where
 prog:=P
 w:=w
 K:=K
 mg:=mg
 base:=base
 A:=A.deeper (envOfC qual scope s.heap.objs.size f cd)
 N:=N
 s₀:=s
 H₀:=H
 env:=envOfC qual scope s.heap.objs.size f cd
 outer:=outer
 stack:=envOfC qual scope s.heap.objs.size f cd::outer
 ex:=[]
 calm:=O
 fn:=λ_=>O
 pn:=[]
 xe:=λe s'=>wpAny (model P w) (A.deeper (envOfC qual scope s.heap.objs.size f cd)) (leaving (envOfC qual scope s.heap.objs.size f cd) e) (λ_ g=>CX outer H s E e g) (λq g=>CX outer H s E q g) s'
variable{sc:Scope}
theorem Cq(h:sc.names.lookup x=Z .cell):∃c,(cellsFrom n sc.names []).lookup x=Z c:=by
 have q:=W.cellsFrom_some sc.names n [] (.inl h);exact Option.isSome_iff_exists.mp q
variable{qual:Str}{scope:Scope}
theorem Ij{w:Da}{K:BT}{f:J}{cd:B}{s1:ϋ}{E:XK}{vs:List V}
  (S:aE N ps scope) (hd:A.handled=Y) (g:CM P w K mg base A outer s H) (hl:vs.length=ps.length) (r:Vals vs us)
  (x:InCallC s s.heap.objs.size (bindL (envOfC qual scope s.heap.objs.size f cd).kindOf (ps.zip us) λ_=>Y) (cellsFrom (s.heap.objs.size+1) scope.names []) (bindC (envOfC qual scope s.heap.objs.size f cd).kindOf (ps.zip us) λ_=>Y) s1):
  Inv (pP CX P w K mg base N qual scope f cd A outer s H E) [] (start N vs) H s1:=by
 have ak:ps.length<=N.length:=by have:=congrArg YH S.pre;rw[xU]at this;lia
 let(h1,tk,U,hk):=x.done;have Q:∀b,b ∉ (pP CX P w K mg base N qual scope f cd A outer s H E).ex:=λb z=>absurd (show b∈([])from z) (by simp)
 refine((g.mod,S.kind,U,U,oa _,λy z c h1 h2=>?_,λy hy=>?_,λy c _ h=>?_,λ_=>hd,Around.frames_deeper g.frames,.inr (U,U),λb z=>absurd z (Q b),g.bs,g.bsz,λb _ _=>Q b,λb z=>absurd z (Q b),g.oj,g.frf),
  rfl,g.bare,Un.kept hk,(_,x.toInCall.ns,λi y v h1 h2 h3=>?_),λy c h=>(_,x.cell y c h),g.hok.fresh (oa _),λy c h=>?_,λp hp=>absurd (show p∈([])from hp) (by simp),g.hok.kept hk,?_)
 ·exact name_of_addr x.apart (PySem.mem_of_lookup h1) (PySem.mem_of_lookup h2)
 ·obtain hy|hy:=hy
  ·exact Cq hy
  ·exact absurd U (S.S4 _ (PySem.mem_of_lookup hy))
 ·exact wh (x.above y c (PySem.mem_of_lookup h))
 ·have hi:i<vs.length:=by
   unfold start at h2;by_cases hi:i<vs.length
   ·exact hi
   ·rw[CF (by simpa using hi)]at h2
    rw[Y5]at h2
    split at h2 <;> cases h2
  have ha:vs[i]?=Z v:=by
   unfold start at h2;rw[CJ (by simpa using hi),tW]at h2
   cases e:vs[i]? with
   |none=>rw[e]at h2;cases h2
   |some a=>rw[e]at h2;cases h2;rfl
  let(u,hu,rv):=r.get ha;have hp:ps[i]?=Z y:=by
   rw[<- S.pre,List.getElem?_take_of_lt (by lia)];exact h1
  have ah:ps.Nodup:=by rw[<- S.pre];exact S.nd.sublist (List.take_sublist _ _)
  refine(u,rv,?_);obtain k|k:=S.par y (Au hp)
  ·exact .inl (k,yD ah hp hu k)
  ·let(c,e):=Cq k;refine .inr (.inl k,c,e,?_);have q:=x.cell y c e;rw[yF ah hp hu (by show scope.names.lookup y≠_;rw[k];decide)]at q
   exact q
 ·exact g.hok.fresh (wh (x.above y c (PySem.mem_of_lookup h)))
 ·unfold start;show _=N.length;rw[qd,gV,Z9]
  lia
variable{name:Str}{pm:B}{ct:B}{oc:B}{an:Option J}{od:Option J}
theorem QP{w:Da}{K:BT}{k:Nat}{f:J}{params:Arguments}{dV kV doc cdv:B}
  {osl:Array (Option B)} {N ps:List Str} {sp:Sp} (lk:K.lookup f=Z (oc,od,.func (W.fnOf name qual params body scope dV kV doc pm an cdv ct),osl)) (ah:W.codeIn K cdv qual=O) (S:aE N ps scope)
  (len:∀vs H Q E,sp vs H Q E->vs.length=ps.length)
  (jv:∀(A:Do)(outer:List Env)(s:ϋ)(H:Hp)(vs:List V)(Q:VK)(E:XK),bP k (A.deeper (envOfC qual scope s.heap.objs.size f cdv))->sp vs H Q E ->
   ∃t,PSs (pP CX P w K mg base N qual scope f cdv A outer s H E) body t/\t {nx:=λ_ H'=>Q .non H',rt:=Q} (start N vs) H):
  aV P w K mg base CX (k+1) f (W.fnOf name qual params body scope dV kV doc pm an cdv ct) ps sp:=by
 refine(len,λA outer s H args us vs Q E hr e0 hb r z=>?_)
 have hl:=len _ _ _ _ z;have KX:=e0.mod.kin.keeps λb o e=>(e0.bs b o e).1
 have lim:=e0.mod.nolimit.keeps λb o e=>(e0.bs b o e).1
 have kH:∀y∈ps.zip us,scope.names.lookup y.1=Z .local\/(scope.names.lookup y.1=Z .cell/\((cellsFrom (s.heap.objs.size+1) scope.names []).lookup y.1).isSome=O):=λ(n,v) hy=>by
  obtain q|q:=S.par n (Z5 hy).1
  ·exact .inl q
  ·exact .inr (q,W.cellsFrom_some _ _ _ (.inl q))
 refine codeAny_call_function hr.depth (KX _ _ lk) U S.co S.gen U (W.codeRec_of KX ah) (hb _ _ _ _ (wpAny_newFunctionEnv_cells S.kind kH λenv he s1 x=>?_))
 subst he;refine(lim.keeps x.toInCall.keep,codeAny_func ?_);let(t,ht,hq):=jv A outer s H vs Q E (hr.deeper _) z;have I:Inv (pP CX P w K mg base N qual scope f cdv A outer s H E) [] (start N vs) H s1:=Ij S hr.hd e0 hl r x;refine E3 (ht [] s1 (start N vs) H _ I hq) (λfl s' hs=>?_) λe s' hs=>hs
 have fin:∀{g:St}{H':Hp}{v:V}{u:B},Inv (pP CX P w K mg base N qual scope f cdv A outer s H E) [] g H' s'->RelV v u->Q v H'->CE outer P w H s Q u s' :=
  λ{g H' v u} ύ rv q=>(v,H',ύ.os,ύ.bare,ύ.base,ύ.hok,rv,q)
 cases fl with
 |ret u =>
  let(v,g,H',ύ,rv,q):=hs;exact fin ύ rv q
 |next =>
  let(g,H',ύ,q):=hs;exact fin (v:=V.non) ύ U q
 |brk =>
  let(_,_,_,q):=hs;exact False.elim q
 |cont =>
  let(_,_,_,q):=hs;exact False.elim q
section
variable{p pos:Pos}{t:TA}{id T:String}{r:List V->Hp->VK->Prop}
def tCB(r:List V->Hp->VK->Prop)(t:TA):TE:=λσ H Q=>t σ H λvs H1=>r vs H1 Q
def kB(P:de X (.builtin id) r)(hg:Gl X x)(hm:X.mg x=Y)(hv:bootBuiltins x=Z (.builtin id))(ha:PA X (e::es) t)(hn:autoParam (x ≠ "__name__") zdc._auto_1)(q:autoParam (AS x) zdc._auto_1)
  (he:‹AC X e es›) (g:‹AM X pos es›):PE X (.Call (.Name x p) (e::es) [] pos) (tCB r t):=by
 intro gd s σ H Q I h;exact MI (nc I hg hm hv (PyProof.Rows.callWith_builtin1 (thn (ha pos gd s σ H _ I h) λus s1 (vs,H1,V,z,K)=>P gd s1 σ H1 vs us Q V z K) he g) hn q)
def HE(P:de X (.type T) r)(hg:Gl X x)(hm:X.mg x=Y)(hv:bootBuiltins x=Z (.type T))(ha:PA X (e::es) t)(hn:autoParam (x ≠ "__name__") zdc._auto_1)(q:autoParam (AS x) zdc._auto_1)
  (he:‹AC X e es›) (g:‹AM X pos es›):PE X (.Call (.Name x p) (e::es) [] pos) (tCB r t):=by
 intro gd s σ H Q I h;exact MI (nc I hg hm hv (PyProof.Rows.callWith_type1 (thn (ha pos gd s σ H _ I h) λus s1 (vs,H1,V,z,K)=>P gd s1 σ H1 vs us Q V z K) he g) hn q)
end
end L2
namespace HT
open PySem PyProof.Rows
section
variable{prog:Db}{w:Da}{A:Do}{E:B->ϋ->Prop}{s:ϋ}
def Pu{t b:J}{vs ws:List B}{Q:B->ϋ->Prop}(ht:IsTup s.heap t vs.toArray)(hb:IsTup s.heap b ws.toArray)(hv:vs ≠ [])
  (h1:ws=[]->Q (.ref t) s) (h2:ws ≠ []->Q (.ref s.heap.objs.size) {s with heap:=s.heap.push {cls:=.type "tuple",data:=.seq (vs++ws).toArray}})
  (hsz:vs.length+ws.length<=ot):wpAny (model prog w) A (binaryOp .Add (.ref t) (.ref b)) Q E s:=by
 let((cls,dd,data,sl),ho,V,n,hd):=id ht;let((Yu,K,data2,q),g,z,P,hd2):=id hb;simp only at V hd z hd2;subst V hd z hd2;have e:vs.toArray++ws.toArray=(vs++ws).toArray:=by simp
 by_cases hw:ws=[]
 ·exact concat_meets (_,ho,U) (_,g,U) noFill_tuple_add seq_tuple_add PySem.F.slot_tuple_add PySem.F.entry_tuple_add (PySem.F.args_tuple_add_2 _ _)
   (tuple_addW1 t b vs.toArray ws.toArray n P dd K sl q (by simpa using hv) (by simp[hw])) (ho,g,h1 hw)
 ·refine concat_meets (_,ho,U) (_,g,U) noFill_tuple_add seq_tuple_add PySem.F.slot_tuple_add PySem.F.entry_tuple_add (PySem.F.args_tuple_add_2 _ _)
   (tuple_addW2 t b vs.toArray ws.toArray n P dd K sl q (by simpa using hv) (by simpa using hw) (by exact hsz)) (ho,g,?_)
  rw[e];exact h2 hw
def sIx(n d:Nat):Option Int->Nat
 |none=>d
 |some v=>if v<0 then(v+(n:Int)).toNat else min v.toNat n
def A5(n d:Nat):sIx n d Y=d:=rfl
def vd(n d k:Nat):sIx n d (Z (k:Int))=min k n:=by
 show(if(k)<0 then((k)+(n:Int)).toNat else min (k:Int).toNat n)=min k n
 rw[if_neg (by lia),ZQ]
def W7(a:Int)(n:Nat)(h0:0<=a):min a (n:Int)=((min a.toNat n:Nat):Int):=by
 by_cases h:a<=n
 ·rw[Int.min_eq_left h,Zn (Int.toNat_le.mpr h),Zl h0]
 ·have h':=Int.le_of_lt (Int.not_le.mp h);rw[Int.min_eq_right h',ZS ((Int.le_toNat h0).mpr h')]
def JE(n:Nat)(i:Int)(h:i<0):max 0 (min (i+(n:Int)) n)=((i+n).toNat:Int):=by
 rw[Int.min_eq_left (Int.add_le_of_le_sub_right (by rw[Int.sub_self];exact Int.le_of_lt h)),Int.max_comm,Int.ofNat_toNat]
def JD(n:Nat)(i:Int)(h:¬ i<0):max 0 (min i (n:Int))=((min i.toNat n:Nat):Int):=by
 rw[W7 i n (Int.not_lt.mp h),Int.max_eq_right (Zp _)]
def GB(v:Int)(n d:Nat):(if v<0 then max (v+(n:Int)) 0 else min v (n:Int))=((sIx n d (Z v):Nat):Int):=by
 show(if v<0 then max (v+(n)) 0 else min v (n))=(((if v<0 then(v+(n)).toNat else min v.toNat n)))
 by_cases hv:v<0
 ·rw[if_pos hv,if_pos hv];exact(Int.ofNat_toNat _).symm
 ·rw[if_neg hv,if_neg hv];exact W7 v n (Int.not_lt.mp hv)
def EN(lo hi:Option Int)(n:Nat):Builtin.Slice.sliceAdjust lo hi 1 (n:Int)=(((sIx n 0 lo:Nat):Int),((sIx n n hi:Nat):Int)):=by
 have h1:=by omega
 unfold Builtin.Slice.sliceAdjust;refine Prod.ext ?_ ?_
 ·cases lo with
  |none=>rfl
  |some v=>exact GB v n 0
 ·cases hi with
  |none=>rfl
  |some v=>exact GB v n n
def DS(i j:Nat):Builtin.Slice.slicePlaces (i:Int) (j:Int) 1=j - i:=by
 unfold Builtin.Slice.slicePlaces;have h1:(1:Int) > 0:=by lia
 simp only[h1,if_true,Int.ediv_one]
 split <;> lia
def vC{v:B}{o:Option Int}{Q:Option Int->ϋ->Prop}(p:IsPart v o)(h:Q o s):wpAny (model prog w) A (Builtin.Slice.slicePartIndex v) Q E s:=by
 cases p with
 |none=>exact slicePart_none h
 |int i t=>exact slicePart_int h
def km{sl:J}{K z:B}{lo hi:Option Int}{n:Nat}{Q:Int×Int×Nat->ϋ->Prop}(hs:s.heap.IsSliceOf sl K z .none)(pl:IsPart K lo)(pu:IsPart z hi)
  (h:Q (((sIx n 0 lo:Nat):Int),1,sIx n n hi - sIx n 0 lo) s):wpAny (model prog w) A (Builtin.Slice.sliceApplied (.ref sl) (pure (n:Int))) Q E s:=by
 let(os,g,P,q):=id hs;refine fH (fH (wpAny_field g q (x:=K) U (fH (wpAny_field g q (x:=z) U (fH (wpAny_field g q U (u7 ?_)))))));refine fH (slicePart_none ?_);refine fH (vC pl (fH (vC pu (fH (u7 ?_)))));show wpAny _ _ (match Builtin.Slice.sliceAdjust lo hi 1 (n)with|(lo,hi)=>pure (Prod.mk lo (Prod.mk (1:Int) (Builtin.Slice.slicePlaces lo hi 1)))) _ _ s
 rw[EN lo hi n];show wpAny _ _ (pure (Prod.mk ((sIx n 0 lo):Int) (Prod.mk (1) (Builtin.Slice.slicePlaces ((sIx n 0 lo)) ((sIx n n hi)) 1)))) _ _ s;rw[DS];exact u7 h
def KW(xs:Array B)(i k:Nat):((Ww k).filterMap λ(m:Nat)=>xs[((i:Int)+(m:Int)*1).toNat]?).toArray=((xs.toList.drop i).take k).toArray:=by
 have e:(λ(m:Nat)=>xs[((i)+(m:Int)*1).toNat]?)=λm=>xs[i+m]?:=by
  funext m
  have:((i)+(m:Int)*1).toNat=i+m:=by lia
  rw[this]
 rw[e]
 have:=pick_run xs i k
 rw[List.filterMap_map]at this;have g:((λx=>xs[x]?) ∘ λx=>i+x)=λm=>xs[i+m]?:=rfl
 rw[g]at this;rw[this]
def q5{t sl:J}{items:Array B}{vl vu:B}{lo hi:Option Int}{Q:B->ϋ->Prop}(g:IsTup s.heap t items)(hs:s.heap.IsSliceOf sl vl vu .none)(pl:IsPart vl lo)(pu:IsPart vu hi)
  (hw:¬(sIx items.size 0 lo=0/\sIx items.size items.size hi=items.size))
  (h:Q (.ref s.heap.objs.size) {s with heap:=s.heap.push {cls:=.type "tuple",data:=.seq ((items.toList.drop (sIx items.size 0 lo)).take (sIx items.size items.size hi - sIx items.size 0 lo)).toArray}})
  (hsz:items.size<=ot):wpAny (model prog w) A (getItem (.ref t) (.ref sl)) Q E s:=by
 have WG:sizeOk (.seq ((items.toList.drop (sIx items.size 0 lo)).take (sIx items.size items.size hi - sIx items.size 0 lo)).toArray):=by
  show((items.toList.drop (sIx items.size 0 lo)).take (sIx items.size items.size hi - sIx items.size 0 lo)).toArray.size<=ot;rw[uZ,xU,xH,Y4];exact u4 (u4 (ZT _ _) (Z0 _ _)) hsz
 let(os,z,P,ah):=id hs;have V:s.TypeIs (.ref sl) "slice":=(os,z,P);unfold getItem
 try with_reducible refine Zc ?_
 refine fH (wpAny_sequenceKey g.typeIs (by decide) ?_)
 refine fH (wpAny_callSpecial?_slot g.typeIs PyProof.Rows.slot_tuple_getitem
  (Y8 PyProof.Rows.slot_tuple_getitem g.typeIs entry_tuple_getitem ?_ (args_tuple_getitem _ _)))
 show wpAny _ _ (Builtin.Tuple.tupleItemsOf (.ref t) >>= _) _ _ s;refine fH (tupleItemsOf_ g (fH (ZM V ?_)));refine fH (km hs pl pu ?_);have K:¬((((sIx items.size 0 lo):Int)==0&&(1:Int)==1&&(sIx items.size items.size hi - sIx items.size 0 lo)==items.size)=O):=by
  intro q;rw[ti,ti]at q;have q1:=eq_of_beq q.1.1;have q2:=eq_of_beq q.2;exact hw (by lia,by lia)
 show wpAny _ _ (if(((sIx items.size 0 lo):Int)==0&&(1)==1&&(sIx items.size items.size hi - sIx items.size 0 lo)==items.size)=O then _ else _) _ _ s
 rw[if_neg K,KW];exact fH (m:=Builtin.Tuple.tupleExact _) (Zf (u7 (_,U,u7 h)) WG)
end
end HT
namespace L2
open PySem PySem.Spec PyProof.Rows
abbrev TO:=St->Hp->(Option Int->Hp->Prop)->Prop
def PO(X:Cx)(e:Option EQ)(t:TO):Prop :=
 ∀(gd:List (J×Obj))(s:ϋ)(σ:St)(H:Hp)(Q:Option Int->Hp->Prop),Inv X gd σ H s->t σ H Q ->
  XV X (evalPart e X.env) (λu s'=>∃o H',Inv X gd σ H' s'/\IsPart u o/\Q o H') X.xe s
def E8:TO:=λ_ H Q=>Q Y H
def PR(t:TE):TO:=λσ H Q=>t σ H λx H1=>∃i,x=.int i/\Q (Z i) H1
variable{xs:List V}{us:List B}
section
variable{X:Cx}{e:EQ}{te:TE}{lo hi:Option EQ}{tl th:TO}{pos p2:Pos}
def Ow:PO X Y E8:=by
 intro gd s σ H Q I h;exact u7 (Y,H,I,.none,h)
def zu(h:PE X e te):PO X (Z e) (PR te):=by
 intro gd s σ H Q I hw;refine thn (h gd s σ H _ I hw) λu s1 g=>?_
 let(x,H1,P,z,K):=g;let(i,U,q):=K;let(t,U):=z;exact(Z i,H1,P,.int i t,q)
def SlR(X:Cx)(r:V->Option Int->Option Int->Hp->VK->Prop):Prop :=
 ∀(gd:List (J×Obj))(s:ϋ)(σ:St)(H:Hp)(x:V)(v q g:B)(lo hi:Option Int)(sl:J)(Q:VK),Inv X gd σ H s->RelV x v->s.heap.IsSliceOf sl q g .none->IsPart q lo->IsPart g hi->r x lo hi H Q ->
  ∃T id,typeLookup (.type T) "__getitem__"=pure (Z (.builtin id))/\s.TypeIs v T/\XV X (getItem v (.ref sl)) (EP X gd σ Q) X.xe s
def SlR.or{r r':V->Option Int->Option Int->Hp->VK->Prop}(h:SlR X r)(h':SlR X r'):SlR X (λx lo hi H Q=>r x lo hi H Q\/r' x lo hi H Q):=by
 intro gd s σ H x v z g lo hi sl Q I K hs pl pu q;obtain q|q:=q
 ·exact h gd s σ H x v z g lo hi sl Q I K hs pl pu q
 ·exact h' gd s σ H x v z g lo hi sl Q I K hs pl pu q
def tSl(r:V->Option Int->Option Int->Hp->VK->Prop)(te:TE)(tl th:TO):TE:=λσ H Q=>te σ H λx H1=>tl σ H1 λl q=>th σ q λu g=>r x l u g Q
def Bj{r:V->Option Int->Option Int->Hp->VK->Prop}(hr:SlR X r)(he:PE X e te)(hl:PO X lo tl)(hu:PO X hi th):PE X (.Subscript e (.Slice lo hi Y p2) pos) (tSl r te tl th):=by
 intro gd s σ H Q I h;refine Subscript_ (thn (he gd s σ H _ I h) λv s1 (x,H1,I1,r1,q1)=>(wpAny_Slice (thn (hl gd s1 σ H1 _ I1 q1) λz s2 (l,H2,I2,pl,q2)=>thn (hu gd s2 σ H2 _ I2 q2) λg s3 K=>?_)))
 let(u,P,I3,pu,q3):=K;refine u7 ?_;have I4:Inv X gd σ P {s3 with heap:=s3.heap.push {cls:=.type "slice",data:=.fields #[z,g,.none]}}:=I3.kept λb ob q=>iP _ q
 let(T,id,hT,ht,hg):=hr gd {s3 with heap:=s3.heap.push {cls:=.type "slice",data:=.fields #[z,g,.none]}} σ P x v z g l u s3.heap.objs.size Q I4 r1 (Heap.IsSliceOf.new ..) pl pu q3
 exact tail_any ht hT hg (by with_unfolding_all rfl)
def rG(xs:List V)(lo hi:Option Int):List V:=(xs.drop (HT.sIx xs.length 0 lo)).take (HT.sIx xs.length xs.length hi - HT.sIx xs.length 0 lo)
def uA(xs:List V)(lo hi:Option Int):(rG xs lo hi).length<=xs.length:=by
 unfold rG;rw[xU,xH];exact u4 (ZT _ _) (Z0 _ _)
inductive XM(K:BT)(x:V)(lo:Option Int)(hi:Option Int)(H:Hp)(Q:VK):Prop
 |mk(a xs:_)(h1:x=.ref a)(h2:SqT K H a xs)(h3:¬(HT.sIx xs.length 0 lo=0/\HT.sIx xs.length xs.length hi=xs.length))(h4:∀p,H p=Y->Q (.ref p) (upd H p (.tup (rG xs lo hi))))
def RC:SlR X (XM X.K):=by
 intro gd s σ H x v vl V lo hi sl Q I P hs pl pu h;let(a,xs,U,hx,hw,q):=h;cases P;let(its,r,z,g):=I.tuple hx;have hlen:its.toArray.size=xs.length:=by exact r.length.symm
 refine("tuple",_,PyProof.Rows.slot_tuple_getitem.lookup,z.typeIs,(HT.q5 z hs pl pu (by rw[hlen];exact hw) ?_ (by rw[hlen];exact g)))
 rw[hlen];refine(.ref s.heap.objs.size,_,I.laid (λb ob q=>iP _ q) (oa _) ?_,U,q _ (I.hok.fresh (oa _)))
 exact(u4 (uA xs lo hi) g,_,(r.drop (HT.sIx xs.length 0 lo)).take (HT.sIx xs.length xs.length hi - HT.sIx xs.length 0 lo),tU.new _ _)
inductive Vu(K:BT)(x:V)(y:V)(H:Hp)(Q:VK):Prop
 |mk(a b xs ys:_)(h1:x=.ref a)(h2:y=.ref b)(h3:SqT K H a xs)(h4:SqT K H b ys)(h5:xs ≠ [])(h6:xs.length+ys.length<=ot)(h7:(ys=[]->Q (.ref a) H))(h8:(ys ≠ []->∀p,H p=Y->Q (.ref p) (upd H p (.tup (xs++ys)))))
def Vals.lC(r:Vals xs us):us=[] ↔ xs=[]:=by
 cases r with
 |nil=>simp
 |cons _ _=>simp
def OI:OpR X (binaryOp .Add) (Vu X.K):=by
 intro gd s σ H x y v u Q I rx ry h;let(a,b,xs,ys,U,U,ha,hb,hx,V,q1,q2):=h;cases rx;cases ry;let(its,P,p1,_):=I.tuple ha;let(gb,g,p2,_):=I.tuple hb;exact HT.Pu p1 p2 (λz=>hx (P.lC.mp z)) (λz=>(.ref a,H,I,U,q1 (g.lC.mp z))) (λz=>(.ref s.heap.objs.size,_,I.laid (t':=s.toks) (o:=.tup (xs++ys)) (λb ob q=>iP _ q) (oa _) (by rw[qd];exact V,_,P.append g,tU.new _ _),U,q2 (λw=>z (g.lC.mpr w)) _ (I.hok.fresh (oa _)))) (by rw[<- P.length,<- g.length];exact V)
end
def ixN(n:Nat)(i:Int):Option Nat:=if 0<=i then(if i<n then Z i.toNat else Y)else if -(n:Int)<=i then Z (i+n).toNat else Y
def atI{α:Type}(xs:List α)(i:Int):Option α:=(ixN xs.length i).bind λj=>xs[j]?
variable{n:Nat}{j:Nat}
def Gm{i:Int}(h:ixN n i=Z j):seqIndex? i n=Z j/\j<n /\ -(n:Int)<=i/\i<n:=by
 unfold ixN at h;by_cases h0:0<=i
 ·rw[if_pos h0]at h;by_cases h1:i<n
  ·rw[if_pos h1]at h;have e:=Option.some.inj h;exact(by rw[seqIndex_of h0 h1,e],by lia,by lia,h1)
  ·rw[if_neg h1]at h;cases h
 ·rw[if_neg h0]at h;by_cases h1:-(n)<=i
  ·rw[if_pos h1]at h;have e:=Option.some.inj h;exact(by rw[seqIndex_neg (by lia) h1,e],by lia,h1,by lia)
  ·rw[if_neg h1]at h;cases h
def Ai{α:Type}{xs:List α}{i:Int}{v:α}(h:atI xs i=Z v):∃j,seqIndex? i xs.length=Z j/\xs[j]?=Z v/\j<xs.length /\ -(xs.length:Int)<=i/\i<xs.length:=by
 unfold atI at h;cases e:ixN xs.length i with
 |none=>rw[e]at h;cases h
 |some j =>
  rw[e]at h;let(h1,h2,h3,h4):=Gm e;exact(j,h1,h,h2,h3,h4)
def jN{α:Type}{xs:List α}{v:α}(h:xs[j]?=Z v):atI xs (j:Int)=Z v:=by
 have g:=(kf.mp h).1;have e:ixN xs.length (j)=Z j:=by
  unfold ixN;rw[if_pos (by lia),if_pos (by lia)];simp
 unfold atI;rw[e];exact h
def rW(b:EQ):Prop:=∀o i,subscripted b ϊ o i=operate [o,i] (getItem o i)
def IxR(X:Cx)(r:R2):Prop :=
 ∀(value slice:EQ)(gd:List (J×Obj))(s:ϋ)(σ:St)(H:Hp)(x y:V)(v u:B)(Q:VK),Inv X gd σ H s->RelV x v->RelV y u->r x y H Q ->
  subscripted slice ϊ v u=operate [v,u] (getItem v u)->XV X (subscriptTail value slice v u) (EP X gd σ Q) X.xe s
def MtR(X:Cx)(id:String)(r:V->List V->Hp->VK->Prop):Prop :=
 ∀(gd:List (J×Obj))(s:ϋ)(σ:St)(H:Hp)(x:V)(xs:List V)(v:B)(us:List B)(Q:VK),Inv X gd σ H s->RelV x v->Vals xs us->r x xs H Q ->
  XV X (call (.builtin id) (v::us)) (EP X gd σ Q) X.xe s
variable{r':R2}{gd:List (J×Obj)}{H:Hp}{s:ϋ}{ys:List V}{its:List B}{A:Do}{y:V}{u:B}
section
variable{X:Cx}{a b:EQ}{ta tb:TE}{pos:Pos}
def IxR.or{r:R2}(h:IxR X r)(h':IxR X r'):IxR X (λx y H Q=>r x y H Q\/r' x y H Q):=by
 intro value slice gd s σ H x y v u Q I z g q hs;obtain q|q:=q
 ·exact h value slice gd s σ H x y v u Q I z g q hs
 ·exact h' value slice gd s σ H x y v u Q I z g q hs
def FT{r:R2}(hr:IxR X r)(ha:PE X a ta)(K:PE X b tb)(hs:rW b):PE X (.Subscript a b pos) (tOp r ta tb):=by
 intro gd s σ H Q I h;exact Subscript_ (Us ha K I h λv u s2 x y V P z g q=>hr a b gd s2 σ V x y v u Q P z g q (hs _ _))
inductive Vr(K:BT)(x:V)(y:V)(H:Hp)(Q:VK):Prop
 |mk(p xs i v:_)(h1:x=.ref p)(h2:y=.int i)(h3:SqL K H p xs)(h4:atI xs i=Z v)(h5:Q v H)
inductive Vp(K:BT)(x:V)(y:V)(H:Hp)(Q:VK):Prop
 |mk(p xs i v:_)(h1:x=.ref p)(h2:y=.int i)(h3:SqT K H p xs)(h4:atI xs i=Z v)(h5:Q v H)
inductive Vq(x:V)(y:V)(H:Hp)(Q:VK):Prop
 |mk(z i c:_)(h1:x=.str z)(h2:y=.int i)(h3:z.length<=ot)(h4:atI z.cps.toList i=Z c)(h5:Q (.str ⟨#[c]⟩) H)
def O5:IxR X (Vr X.K):=by
 intro value slice gd s σ H x y v u Q I rx ry h hs;let(p,xs,i,z,U,U,hq,he,q):=h;cases rx;let(t,U):=ry;let(its,r,pl,hz):=I.list hq;let(j,h1,h2,h3,h4,h5):=Ai he;let(w,V,g):=r.get h2;have hl:=r.length;have hn:=pJ;have fin:EP X gd σ Q w s:=(z,H,I,g,q);by_cases h0:0<=i
 ·have P:=by
   rw[seqIndex_of h0 h5]at h1;exact Option.some.inj h1
  exact item_listR pl.isList h0 (by lia) (by rw[P];simpa using V) fin hs
 ·have P:(i+(its.toArray.size)).toNat=j:=by
   rw[seqIndex_neg (by omega) h4]at h1
   rw[uZ,<- hl];exact Option.some.inj h1
  exact subscriptTail_builtinR pl.isList.typeIs slot_list_getitem.lookup
   (wpAny_getItem_list_neg pl.isList (by omega) (by rw[uZ] <;> lia) (by lia) (by rw[P];simpa using V) (U,fin)) hs
def TU:IxR X (Vp X.K):=by
 intro value slice gd s σ H x y v u Q I V P h hs;let(p,xs,i,z,U,U,hq,he,q):=h;cases V;let(t,U):=P;let(its,r,pl,hz):=I.tuple hq;let(j,h1,h2,h3,h4,h5):=Ai he;let(w,ew,g):=r.get h2;have hl:=r.length;have hn:=pJ;have fin:EP X gd σ Q w s:=(z,H,I,g,q);exact subscriptTail_builtinR pl.typeIs slot_tuple_getitem.lookup
  (getItem_tuple pl (by lia) (by lia) (by rw[uZ,<- hl];exact h1) (by simpa using ew) (U,fin)) hs
def TV:IxR X Vq:=by
 intro value slice gd s σ H x y v u Q I K g h hs;let(z,i,c,U,U,hz,he,q):=h;let(t,U):=K;let(t',U):=g;let(j,h1,h2,h3,h4,h5):=Ai he;have hl:z.cps.toList.length=z.length:=by simp[Str.length]
 rw[hl]at h1 h4 h5;have hn:=pJ;exact tail_any (typeIs_str s z t) slot_str_getitem.lookup (getItem_str (by
  have V:decide (i < -(2 ^ 63))=false:=decide_eq_false (by lia)
  have P:decide (i ≥ 2 ^ 63)=false:=decide_eq_false (by lia)
  rw[V,P,Bool.or_false]) (by rw[h1];simpa using h2) (.str ⟨#[c]⟩,H,I.tok _,(_,U),q)) hs
def rIx(K:BT):R2:=λx y H Q=>Vr K x y H Q\/Vp K x y H Q\/Vq x y H Q
def zT:IxR X (rIx X.K):=O5.or (TU.or TV)
def Ed(its:List B)(n j:Nat)(u:B):Zq (·.setIfInBounds j u) {cls:=.type "list",data:=.seq its.toArray n}={cls:=.type "list",data:=.seq (its.set j u).toArray n}:=by
 simp[Zq]
theorem Inv.lst{gd:List (J×Obj)}{σ:St}{H:Hp}{s:ϋ}{p:J}{xs:List V}(I:Inv X gd σ H s)(h:H p=Z (.lst xs)):
  ∃(its:List B)(n:Nat),Vals xs its/\s.heap.get? p=Z {cls:=.type "list",data:=.seq its.toArray n}/\xs.length<=ot:=by
 let(z,its,n,r,e):=I.hok p _ h;exact(its,n,r,e,z)
def Inv.Td{σ:St}{p:J}{g:List B}{z:Nat}{f:Obj->Obj}(I:Inv X gd σ H s)(h:H p=Z (.lst xs))
  (ho:s.heap.get? p=Z {cls:=.type "list",data:=.seq its.toArray n}) (hf:f {cls:=.type "list",data:=.seq its.toArray n}={cls:=.type "list",data:=.seq g.toArray z}) (r:Vals ys g) (K:ys.length<=ot) (t:Nat):
  Inv X gd σ (upd H p (.lst ys)) {s with heap:=s.heap.update p f,toks:=t}:=by
 have e:(s.heap.update p f).get? p=Z {cls:=.type "list",data:=.seq g.toArray z}:=by
  rw[EV f ho (by rw[hf] <;> rfl),hf]
 exact I.write (x:=p) (e:=p) (by rw[h];trivial) (.inl U) (λb u P q=>(B5 _ _ (Ne.symm P)).trans q) (_,e) (K,g,z,r,e)
inductive x8(o:V)(i:V)(v:V)(H:Hp)(Q:(Hp->Prop)):Prop
 |mk(p xs k j:_)(h1:o=.ref p)(h2:i=.int k)(h3:H p=Z (.lst xs))(h4:ixN xs.length k=Z j)(h5:Q (upd H p (.lst (xs.set j v))))
theorem set_list:Xt X x8:=by
 intro gd s σ H o i v ov iv u Q I P V K h;let(p,xs,k,j,U,U,hp,hj,q):=h;cases P;let(t,U):=V;let(its,n,r,ho,hz):=I.lst hp;let(h1,h2,h3,h4):=Gm hj;have hl:=r.length;have hn:=pJ;have z :=
  I.Td hp ho (Ed its n j u) (r.set K j) (by rw[Az];exact hz) s.toks
 by_cases h0:0<=k
 ·have g:=by
   rw[seqIndex_of h0 h4]at h1;exact Option.some.inj h1
  exact W.ki_setAt ho h0 (by lia) (by rw[uZ,<- hl];exact h4) (by rw[g];exact(_,z,q))
 ·have g:(k+(its.toArray.size)).toNat=j:=by
   rw[seqIndex_neg (by omega) h3]at h1
   rw[uZ,<- hl];exact Option.some.inj h1
  exact W.ki_setBack ho (by omega) (by rw[uZ,<- hl];exact h3) (by lia) (by rw[g];exact(_,z,q))
def y9(lo hi:Option Int)(n:Nat):(sliceBounds lo hi Y n).1=((HT.sIx n 0 lo:Nat):Int)/\(sliceBounds lo hi Y n).2.1=((HT.sIx n n hi:Nat):Int)/\(sliceBounds lo hi Y n).2.2=1:=by
 refine(?_,?_,U)
 ·cases lo with
  |none=>simp[sliceBounds,HT.sIx]
  |some i =>
   simp only[sliceBounds,HT.sIx,Option.getD_none,show(1:Int) > 0 by decide,if_true]
   by_cases h:i<0
   ·simp only[h,if_true] <;> first|exact HT.JE _ _ h|omega
   ·simp only[h,if_false] <;> first|exact HT.JD _ _ h|omega
 ·cases hi with
  |none=>simp[sliceBounds,HT.sIx]
  |some i =>
   simp only[sliceBounds,HT.sIx,Option.getD_none,show(1:Int) > 0 by decide,if_true]
   by_cases h:i<0
   ·simp only[h,if_true] <;> first|exact HT.JE _ _ h|omega
   ·simp only[h,if_false] <;> first|exact HT.JD _ _ h|omega
def xp(its:List B)(lo hi:Option Int):slicePick its.toArray lo hi Y=((its.drop (HT.sIx its.length 0 lo)).take (HT.sIx its.length its.length hi - HT.sIx its.length 0 lo)).toArray:=by
 let(h1,h2,h3):=y9 lo hi its.toArray.size;unfold slicePick;rw[h1,h2,h3];simp only[sliceRange_one,pick_run] <;> rfl
inductive Vm(K:BT)(x:V)(lo:Option Int)(hi:Option Int)(H:Hp)(Q:VK):Prop
 |mk(a xs:_)(h1:x=.ref a)(h2:SqL K H a xs)(h3:∀p,H p=Y->Q (.ref p) (upd H p (.lst (rG xs lo hi))))
def Fj:SlR X (Vm X.K):=by
 intro gd s σ H x v vl V lo hi sl Q I z hs pl pu h;let(a,xs,U,hx,q):=h;cases z;let(its,r,g,P):=I.list hx;have hlen:=r.length;refine("list",_,slot_list_getitem.lookup,g.isList.typeIs,(wpAny_getItem_list_slice g.isList hs pl pu .none (by simp) ?_ (by rw[uZ] <;> omega)))
 rw[xp,<- hlen];refine(.ref s.heap.objs.size,_,I.laid (λb ob q=>iP _ q) (oa _) ?_,U,q _ (I.hok.fresh (oa _)))
 exact(u4 (uA xs lo hi) P,_,0,(r.drop (HT.sIx xs.length 0 lo)).take (HT.sIx xs.length xs.length hi - HT.sIx xs.length 0 lo),u3 _ U)
def jG:V->Bool
 |.non=>O
 |.bl _=>O
 |.int _=>O
 |.str _=>O
 |_=>ϊ
def eqV:V->V->Bool
 |.non,.non=>O
 |.bl a,.bl b=>a==b
 |.bl a,.int b=>(if a then 1 else 0)==b
 |.int a,.bl b=>a ==(if b then 1 else 0)
 |.int a,.int b=>a==b
 |.str a,.str b=>a==b
 |_,_=>ϊ
def wL{x:V}{v:B}(q:RelV y u)(g:RelV x v)(K:jG y=O)(z:jG x=O):SeqAt.EqAt A s u v (eqV y x):=by
 cases y with
 |non =>
  cases q;cases x with
  |non=>cases g;exact SeqAt.EqAt.same _
  |bl b=>cases g;exact SeqAt.EqAt.none_bool b
  |int b=>let(t,U):=g;exact SeqAt.EqAt.none_int b t
  |str b=>let(t,U):=g;exact SeqAt.EqAt.none_str b t
  |_=>exact absurd (z) rZ
 |bl a =>
  cases q;cases x with
  |non=>cases g;exact SeqAt.EqAt.bool_none a
  |bl b=>cases g;exact SeqAt.EqAt.bool_bool a b
  |int b=>let(t,U):=g;exact SeqAt.EqAt.bool_int a b t
  |str b=>let(t,U):=g;exact SeqAt.EqAt.bool_str a b t
  |_=>exact absurd (z) rZ
 |int a =>
  let(t',U):=q;cases x with
  |non=>cases g;exact SeqAt.EqAt.int_none a t'
  |bl b=>cases g;exact SeqAt.EqAt.int_bool a t' b
  |int b=>let(t,U):=g;exact SeqAt.EqAt.int_int a t' b t
  |str b=>let(t,U):=g;exact SeqAt.EqAt.int_str a t' b t
  |_=>exact absurd (z) rZ
 |str a =>
  let(t',U):=q;cases x with
  |non=>cases g;exact SeqAt.EqAt.str_none a t'
  |bl b=>cases g;exact SeqAt.EqAt.str_bool a t' b
  |int b=>let(t,U):=g;exact SeqAt.EqAt.str_int a t' b t
  |str b=>let(t,U):=g;exact SeqAt.EqAt.str_str a t' b t
  |_=>exact absurd (z) rZ
 |_=>exact absurd (K) rZ
def eqU(x:V)(u:B):Bool:=match u with
 |.none=>eqV .non x
 |.bool b=>eqV (.bl b) x
 |.int i _=>eqV (.int i) x
 |.str z _=>eqV (.str z) x
 |_=>ϊ
def L4{x:V}(r:RelV y u)(f:jG y=O):eqU x u=eqV y x:=by
 cases y with
 |non=>cases r;rfl
 |bl b=>cases r;rfl
 |int i=>let(t,U):=r;rfl
 |str z=>let(t,U):=r;rfl
 |_=>exact absurd (f) rZ
theorem rQ{x:V}:∀{xs:List V}{us:List B},Vals xs us->xs.all jG=O->us.any (eqU x)=xs.any λy=>eqV y x
 |_,_,.nil,_=>rfl
 |y::xs,u::us,.cons r t,f=>by
  rw[List.all_cons,ti]at f;rw[Zm,Zm,L4 r f.1,rQ t f.2]
theorem m6{A:Do}{s:ϋ}{x:V}{v:B}(q:RelV x v)(z:jG x=O):∀{xs:List V}{us:List B},Vals xs us->xs.all jG=O->∀u∈us,SeqAt.EqAt A s u v (eqU x u)
 |_,_,.nil,_=>λu g=>by cases g
 |y::xs,u::us,.cons r t,f=>λu' g=>by
  rw[List.all_cons,ti]at f;obtain rfl|g:=fx.mp g
  ·rw[L4 r f.1];exact wL r q f.1 z
  ·exact m6 q z t f.2 u' g
def inV(x:V)(xs:List V):Bool:=xs.any λy=>eqV y x
inductive rIn(K:BT)(neg:Bool)(x:V)(y:V)(H:Hp)(Q:VK):Prop
 |mk(p xs:_)(h1:y=.ref p)(h2:(SqL K H p xs\/SqT K H p xs))(h3:jG x=O)(h4:xs.all jG=O)(h5:Q (.bl (if neg then !inV x xs else inV x xs)) H)
def HG:OpR X (compareOp .In) (rIn X.K ϊ):=by
 intro gd s σ H x y v u Q I z V h;let(p,xs,U,g,P,fs,q):=h;cases V;obtain g|g:=g
 ·let(its,r,pl,hz):=I.list g;refine SeqAt.in_listAt (eqU x) pl.isList (λw hw=>m6 z P r fs w (by simpa using hw)) (.bl _,H,I,U,?_)
  rw[show its.toArray.any (eqU x)=its.any (eqU x)by simp,rQ r fs]
  exact q
 ·let(its,r,pl,hz):=I.tuple g;refine SeqAt.in_tupleAt (eqU x) pl (λw hw=>m6 z P r fs w (by simpa using hw)) (.bl _,H,I,U,?_)
  rw[show its.toArray.any (eqU x)=its.any (eqU x)by simp,rQ r fs]
  exact q
def zB:OpR X (compareOp .NotIn) (rIn X.K O):=by
 intro gd s σ H x y v u Q I z V h;let(p,xs,U,g,P,fs,q):=h;cases V;obtain g|g:=g
 ·let(its,r,pl,hz):=I.list g;refine SeqAt.notIn_listAt (eqU x) pl.isList (λw hw=>m6 z P r fs w (by simpa using hw)) (.bl _,H,I,U,?_)
  rw[show its.toArray.any (eqU x)=its.any (eqU x)by simp,rQ r fs]
  exact q
 ·let(its,r,pl,hz):=I.tuple g;refine SeqAt.notIn_tupleAt (eqU x) pl (λw hw=>m6 z P r fs w (by simpa using hw)) (.bl _,H,I,U,?_)
  rw[show its.toArray.any (eqU x)=its.any (eqU x)by simp,rQ r fs]
  exact q
def rL:de X (.builtin "len") (λxs H Q=>∃p ys,xs=[.ref p]/\(SqL X.K H p ys\/SqT X.K H p ys)/\Q (.int ys.length) H):=by
 intro gd s σ H xs us Q I r h;let(p,ys,U,g,q):=h;let(u,U,z):=vals1 r;cases z;have hn:=pJ;obtain g|g:=g
 ·let(its,r',pl,P):=I.list g;have hlen:=r'.length;exact Calls.call_len_list pl.isList (by rw[uZ,<- hlen];exact Cb (by assumption)) (.int ys.length,H,I.tok _,(s.toks+1,by rw[uZ,hlen]),q)
 ·let(its,r',pl,P):=I.tuple g;have hlen:=r'.length;exact len_tuple pl (by rw[uZ,<- hlen];exact Cb (by assumption)) (.int ys.length,H,I.tok _,(s.toks+1,by rw[uZ,hlen]),q)
def Af:de X (.builtin "len") (λxs H Q=>∃z,xs=[.str z]/\z.length<=ot/\Q (.int z.length) H):=by
 intro gd s σ H xs us Q I r h;let(z,U,g,q):=h;let(u,U,t,U):=vals1 r;have hn:=pJ;exact len_str (by lia) (.int z.length,H,I.tok _,(_,U),q)
def de.or{f:B}{r r':List V->Hp->VK->Prop}(h:de X f r)(h':de X f r'):de X f (λxs H Q=>r xs H Q\/r' xs H Q):=by
 intro gd s σ H xs us Q I rs q;obtain q|q:=q
 ·exact h gd s σ H xs us Q I rs q
 ·exact h' gd s σ H xs us Q I rs q
def Ae:de X (.type "list") (λxs H Q=>∃p ys,xs=[.ref p]/\(SqL X.K H p ys\/SqT X.K H p ys)/\∀l,H l=Y->Q (.ref l) (upd H l (.lst ys))):=by
 intro gd s σ H xs us Q I r h;let(p,ys,U,P,q):=h;let(u,U,rx):=vals1 r;cases rx;have fin:∀its,Vals ys its->ys.length<=ot->∀h' z,(∀b o',s.heap.get? b=Z o'->h'.get? b=Z o') ->
   h'.get? s.heap.objs.size=Z {cls:=.type "list",dict:=Y,data:=.seq its.toArray z,slots:=#[]}->EP X gd σ Q (.ref s.heap.objs.size) {s with heap:=h'}:=λits r' g h' z kp e =>
  (.ref s.heap.objs.size,_,I.laid kp (oa _) (show dm X.prog X.w _ h' _ (.lst ys)from(g,its,z,r',e)),U,q _ (I.hok.fresh (oa _)))
 obtain P|P:=P
 ·let(its,r',pl,g):=I.list P;have hlen:=r'.length;let(o,ho,V,n,hd):=pl.isList;exact call_list_seq p (.inl U) ho V hd (λh' z kp e=>fin its r' g h' z kp e) (by rw[uZ,<- hlen];exact g)
 ·let(its,r',pl,g):=I.tuple P;have hlen:=r'.length;let(o,ho,V,n,hd):=pl;exact call_list_seq p (.inr U) ho V hd (λh' z kp e=>fin its r' g h' z kp e) (by rw[uZ,<- hlen];exact g)
def xK:de X (.type "tuple") (λxs H Q=>∃p ys,xs=[.ref p]/\((SqL X.K H p ys/\∀l,H l=Y->Q (.ref l) (upd H l (.tup ys)))\/(SqT X.K H p ys/\Q (.ref p) H))):=by
 intro gd s σ H xs us Q I r h;let(p,ys,U,h):=h;let(u,U,V):=vals1 r;cases V;obtain⟨z,q⟩|⟨z,q⟩:=h
 ·let(its,r',pl,g):=I.list z;have hlen:=r'.length;refine call_tuple_list pl.isList (λh' kp=>?_) (by rw[uZ,<- hlen];exact g)
  have P:=I.kept (t':=s.toks) kp;have I2 :=
   P.laid (t':=s.toks) (λb o e=>iP _ e) (oa _) (show dm X.prog X.w _ _ _ (.tup ys)from(g,its,r',tU.new _ _))
  exact(.ref h'.objs.size,_,I2,U,q _ (P.hok.fresh (oa _)))
 ·let(its,r',pl,g):=I.tuple z;exact call_tuple_same pl (.ref p,H,I,U,q)
def tyV(K:BT)(T:String)(x:V)(H:Hp):Prop:=match x with
 |.str _=>T="str"
 |.int _=>T="int"
 |.ref p=>(T="list" /\ ∃xs,SqL K H p xs)\/(T="tuple" /\ ∃o,K.lookup p=Z o/\o.cls=.type "tuple" /\ o.dict=Y) \/
   (T="dict" /\ ((∃kvs,H p=Z (.dK kvs))\/∃kvs,H p=Z (.dT kvs)))\/(T="set" /\ ∃S n,H p=Z (.set S n))
 |_=>False
def Jo{σ:St}{T:String}{x:V}{v:B}(I:Inv X gd σ H s)(r:RelV x v)(ty:tyV X.K T x H):
  s.TypeIs v T/\∀a,v=.ref a->∃ob,s.heap.get? a=Z ob/\ob.dict=none:=by
 cases x with
 |str z =>
  let(t,U):=r
  cases(ty)
  exact(typeIs_str s z t,λ_ e=>nomatch e)
 |int i =>
  let(t,U):=r
  cases(ty)
  exact(typeIs_int s i t,λ_ e=>nomatch e)
 |ref p =>
  cases r;obtain⟨rfl,xs,P⟩|⟨rfl,o,g,Q,hd⟩|⟨rfl,g⟩|⟨rfl,S,n,g⟩:=ty
  ·let(its,_,pl,_):=I.list P;refine(pl.isList.typeIs,λa e=>?_)
   cases e;let(o,n,e,c,hd,_):=pl;exact(o,e,hd)
  ·refine((o,I.kIn p o g,Q),λa e=>?_)
   cases e;exact(o,I.kIn _ o g,hd)
  ·have z:∃o,s.heap.get? p=Z o/\o.ExactDict:=by
    obtain⟨kvs,g⟩|⟨kvs,g⟩:=g
    ·let(_,_,_,_,o,_,_,e,ex,_):=I.hok p _ g;exact(o,e,ex)
    ·let(_,_,_,_,o,_,_,e,ex,_):=I.hok p _ g;exact(o,e,ex)
   let(o,e,ex):=z;refine((o,e,ex.1),λa q=>?_)
   cases q;exact(o,e,ex.2.1)
  ·let(o,_,_,_,e,ex,_):=I.hok p _ g;refine((o,e,ex.1),λa q=>?_)
   cases q;exact(o,e,ex.2.1)
 |_=>exact False.elim ty
def Vb(K:BT)(T:String)(r:V->List V->Hp->VK->Prop)(to:TE):TE:=λσ H Q=>to σ H λx H1=>tyV K T x H1/\r x [] H1 Q
def tBM(K:BT)(T:String)(r:V->List V->Hp->VK->Prop)(to:TE)(t:TA):TE:=λσ H Q=>to σ H λx H1=>tyV K T x H1/\t σ H1 λxs g=>r x xs g Q
variable{o e:EQ}{es:List EQ}{to:TE}{t:TA}{name:Str}{apos a5:Pos}{T id:String}{r:V->List V->Hp->VK->Prop}
def Lb(pa:PlainAttrs T)(slot:Slot T name id)(g:typeOf (.builtin id)=pure (.type "method_descriptor"))(hm:MtR X id r)(ho:PE X o to)
  (eI:‹attributeBase o name X.env (eval o X.env)=eval o X.env›) (eD:‹(apos.endLine==a5.line)=true›):PE X (.Call (.Attribute o name apos) [] [] a5) (Vb X.K T r to):=by
 intro gd s σ H Q I h;refine wpAny_Call_method0_late eI eD (thn (ho gd s σ H _ I h) λv s1 q=>?_)
 let(x,H1,P,z,ty,V):=q;let(h1,h2):=Jo P z ty;exact(T,id,pa,slot,g,h1,h2,Calls.callWith_builtin U (PySem.evalArgs_none (hm gd s1 σ H1 x [] v [] Q P z .nil V)))
def ye(pa:PlainAttrs T)(slot:Slot T name id)(g:typeOf (.builtin id)=pure (.type "method_descriptor"))(hm:MtR X id r)(ho:PE X o to)(ha:PA X (e::es) t)
  (eI:‹attributeBase o name X.env (eval o X.env)=eval o X.env›)
  (kb:‹((backTo a5 (dO (e::es) X.env)).all (λx=>!x.1)&&(backToKw a5 (keywordEach [] X.env)).all (λx=>x.1.isSome)
   && decide ((e::es).length+([]:List Keyword).length+(if([]:List Keyword).isEmpty then 0 else 1)<30))=true›)
  (eD:‹(apos.endLine==a5.line)=true›) (hs:‹AC X e es›) (dg:‹AM X a5 es›):
  PE X (.Call (.Attribute o name apos) (e::es) [] a5) (tBM X.K T r to t):=by
 intro gd s σ H Q I h;refine wpAny_Call_method_late eI kb eD U (thn (ho gd s σ H _ I h) λv s1 q=>?_)
 let(x,H1,V,z,ty,q1):=q;let(h1,h2):=Jo V z ty;refine(T,id,pa,slot,g,h1,h2,?_);have P:=ha a5 gd s1 σ H1 _ V q1;rw[hs]at P ⊢;exact Calls.callWith_builtin (by show(ϊ ||(backTo a5 (dO es X.env)).any (·.1))=ϊ;rw[dg] <;> rfl) (Calls.evalArgs_plain (thn P λus s2 (vs,H2,I2,r2,q2)=>hm gd s2 σ H2 x vs v us Q I2 z r2 q2))
end
def MtM(X:Cx)(id:String)(r:V->List V->Hp->VK->Prop):Prop :=
 ∀(gd:List (J×Obj))(s:ϋ)(σ:St)(H:Hp)(x:V)(xs:List V)(v:B)(us:List B)(Q:VK),Inv X gd σ H s->RelV x v->Vals xs us->r x xs H Q ->
  XV X (call (.builtin id) (v::us)) (EP X gd σ Q) X.xe s
def Vals.one:∀{x:V}{us:List B},Vals [x] us->∃u,us=[u]/\RelV x u:=by
 intro x us h;cases h with
 |cons r t=>cases t;exact(_,U,r)
theorem Vals.zero:∀{us:List B},Vals [] us->us=[]
 |_,.nil=>rfl
theorem Vals.dropLast{xs:List V}{us:List B}(h:Vals xs us):Vals xs.dropLast us.dropLast:=by
 induction h with
 |nil=>exact .nil
 |cons r t g =>
  cases t with
  |nil=>exact .nil
  |cons q t'=>exact .cons r g
theorem Vals.reverse{xs:List V}{us:List B}(h:Vals xs us):Vals xs.reverse us.reverse:=by
 induction h with
 |nil=>exact .nil
 |cons r t g=>rw[List.reverse_cons,List.reverse_cons];exact Vals.append g (.cons r .nil)
def ED{α:Type}(l:List α):l.eraseIdx (l.length - 1)=l.dropLast:=by
 induction l with
 |nil=>rfl
 |cons a r g =>
  cases r with
  |nil=>rfl
  |cons b r =>
   have e:(a::b::r).length - 1=((b::r).length - 1)+1:=by
    rfl
   rw[e,List.eraseIdx_cons_succ,g]
   all_goals rfl
variable{t':Nat}
section
variable{X:Cx}{σ:St}{l:J}
def Inv.Te{g:List B}{f:Array B->Array B}{t':Nat}(I:Inv X gd σ H s)(Q:H l=Z (.lst xs))
  (e:s.heap.get? l=Z {cls:=.type "list",data:=.seq its.toArray n}) (hf:f its.toArray=g.toArray) (hv:Vals ys g) (z:ys.length<=ot):
  Inv X gd σ (upd H l (.lst ys)) {s with heap:=s.heap.update l (Zq f),toks:=t'}:=by
 have q:=PySem.IsL.update e f;rw[hf]at q;exact I.write (x:=l) (e:=l) (by rw[Q];exact trivial) (.inl U) (λb' u P K=>(B5 s.heap (Zq f) (Ne.symm P)).trans K) (_,q) (z,g,_,hv,q)
def Inv.Wl(I:Inv X gd σ H s)(hv:Vals ys its)(g:ys.length<=ot):
  Inv X gd σ (upd H s.heap.objs.size (.lst ys)) {s with heap:=s.heap.push {cls:=.type "list",data:=.seq its.toArray},toks:=t'} :=
 I.laid (λ_ _ q=>iP _ q) (oa _) (g,its,0,hv,u3 _ U)
theorem Inv.fresh(I:Inv X gd σ H s):H s.heap.objs.size=none:=I.hok.fresh (oa _)
def Inv.HV(I:Inv X gd σ H s)(g:H l=Z (.lst xs)):xs.length<=ot/\∃(its:List B)(n:Nat),Vals xs its/\xs.length=its.length/\s.heap.get? l=Z {cls:=.type "list",data:=.seq its.toArray n}:=by
 let(z,its,n,r,e):=I.hok l _ g;exact(z,its,n,r,r.length,e)
def Lg(h:n<=ot):Builtin.List.listTooLong n=false:=decide_eq_false (by lia)
end
section
variable{X:Cx}
inductive k8(x:V)(vs:List V)(H:Hp)(Q:VK):Prop
 |mk(l xs y:_)(h1:x=.ref l)(h2:vs=[y])(h3:H l=Z (.lst xs))(h4:xs.length<ot)(h5:Q .non (upd H l (.lst (xs ++ [y]))))
theorem yf:MtM X "list.append" k8:=by
 intro gd s σ H x vs v us Q I K P h;let(l,xs,y,U,U,g,V,q):=h;cases K;let(u,U,ru):=P.one;let(z,its,n,r,hl,e):=I.HV g;refine call_meets F.slot_list_append (_,e,U) F.entry_list_append (F.args_list_append_2 _ _) (PySem.list_append l its.toArray n u (by rw[uZ];lia)) (e,?_)
 refine(.non,_,I.Te g e (by simp) (r.append (.cons ru .nil)) ?_,U,q)
 rw[qd,List.length_singleton]
 lia
inductive ve(x:V)(vs:List V)(H:Hp)(Q:VK):Prop
 |mk(l b xs zs:_)(h1:x=.ref l)(h2:vs=[.ref b])(h3:H l=Z (.lst xs))(h4:H b=Z (.lst zs))(h5:xs.length+zs.length<=ot)(h6:Q .non (upd H l (.lst (xs++zs))))
theorem HQ:MtM X "list.extend" ve:=by
 intro gd s σ H x vs v us Q I P V h;let(l,b,xs,zs,U,U,K,hB,hz,q):=h;cases P;let(u,U,ru):=V.one;cases ru;let(z,its,n,r,hl,e):=I.HV K;let(z2,g,n2,r2,ah,e2):=I.HV hB;have hsz:its.toArray.size+g.toArray.size<=ot:=by rw[uZ,uZ];lia
 have WM:¬(!its.toArray.isEmpty&&Builtin.List.listTooLong (its.toArray.size+g.toArray.size))=true:=by
  rw[Lg hsz,Zs];exact rZ
 refine call_meets F.slot_list_extend (_,e,U) F.entry_list_extend (F.args_list_extend_2 _ _)
  (AutoSeq1.list_extend_list_list_0 l its.toArray n b g.toArray n2 WM (by rw[uZ];lia) (by lia)) (e,e2,?_)
 refine(.non,_,I.Te K e (by simp) (r.append r2) ?_,U,q)
 rw[qd];omega
inductive Vo(x:V)(vs:List V)(H:Hp)(Q:VK):Prop
 |mk(l xs y:_)(h1:x=.ref l)(h2:vs=[])(h3:H l=Z (.lst xs))(h4:xs[xs.length - 1]?=Z y)(h5:Q y (upd H l (.lst xs.dropLast)))
theorem Lk:MtM X "list.pop" Vo:=by
 intro gd s σ H x vs v us Q I V rv h;let(l,xs,y,U,U,P,hy,q):=h;cases V;have K:=rv.zero;subst K;let(z,its,n,r,hl,e):=I.HV P;let(u,hu,ru):=r.get hy;have g:=by
  show its.toArray[its.length - 1]?=Z u;rw[<- Zw,<- hl];exact hu
 refine call_meets F.slot_list_pop (_,e,U) F.entry_list_pop (F.args_list_pop_1 _) (MeetsSeq.list_pop_last l its.toArray n u g (by rw[uZ];lia)) (e,?_)
 refine(y,_,I.Te P e ?_ r.dropLast ?_,ru,q)
 ·rw[uZ,List.eraseIdxIfInBounds_toArray,ED]
 ·rw[List.length_dropLast]
  lia
inductive Vv(x:V)(y:V)(H:Hp)(Q:VK):Prop
 |mk(l b xs zs:_)(h1:x=.ref l)(h2:y=.ref b)(h3:H l=Z (.lst xs))(h4:H b=Z (.lst zs))(h5:xs.length+zs.length<=ot)(h6:∀p,H p=Y->Q (.ref p) (upd H p (.lst (xs++zs))))
def S1:OpR X (binaryOp .Add) Vv:=by
 intro gd s σ H x y v u Q I V K h;let(l,b,xs,zs,U,U,hH,hB,hz,q):=h;cases V;cases K;let(z,its,n,r,hl,e):=I.HV hH;let(z2,g,n2,r2,ah,e2):=I.HV hB;refine PySem.P.add_list e e2 ?_ (by rw[uZ,uZ];omega)
 have ea:its.toArray++g.toArray=(its++g).toArray:=by simp
 rw[ea];exact(.ref _,_,I.Wl (r.append r2) (by rw[qd];omega),U,q _ I.fresh)
end
end L2
namespace Att
open PySem PySem.W PySem.Calls PyProof.Rows
def uQ{P:Params}{h:Ev}:∀(ns:List Int)(vs:List B),WellAll P h vs (ns.map WData.int)->IntsAre vs ns:=by
 intro ns
 induction ns with
 |nil =>
  intro vs w;cases w;exact .nil
 |cons n ns g =>
  intro vs w;cases w with
  |cons a b =>
   cases a;exact .cons _ _ (g _ b)
def Ho{l:OpenLaw}{n:Nat}(hn:l.most=Z n){P:Params}{h:Ev}{args:List WData}{vals:List B}
  (hpre:l.row.toRowW.claim.pre args=O) (g:WellAll P h vals args):
  ∃a vs ns,vals=[B.ref a]/\args=[WData.list (ns.map WData.int)]/\h.get? a=Z {cls:=.type "list",data:=.seq vs.toArray}/\IntsAre vs ns/\ns.length<=n:=by
 have q:WShape.hasAll [] args [.list .int]=true:=(pre_splitW hpre).1;have Q:l.pre.holds [] {args:=args}=true:=(pre_splitW hpre).2;let(d,r,U,h1,h2):=hasAllW_cons q;obtain rfl:=hasAllW_nil h2;let(xs,U,h3):=hasW_list h1;let(ns,U):=items_int h3;have hlen:=by
  have h4:=by
   have h4:=(holds_andW Q).1;rw[hn]at h4;exact h4
  have h5:=condW_of h4 (w_not (w_lt w_lit (w_len_list (w_arg U))))
  first
   | (exact absurd h5 (by decide))
   | (simp at h5;omega)
 cases g with
 |cons K z =>
  cases z;cases K with
  |list ho V=>exact(_,_,ns,U,U,ho,uQ ns _ V,hlen)
def HC(l:OpenLaw)(args:List WData):l.row.toRowW.claim.post args (.bool O) args=true :=
 postW_of
  (by rfl)
  (w_eq_bool (w_res U) w_lit) U
def Cu{l:OpenLaw}{n:Nat}{q:Db}{loose:List Str}{XP:(Str->Option B)->Ev->Prop}{V:Da->Ev->Prop}{d:DefRec}
  (hn:l.most=Z n) (K:d.params.defaults=[])
  (call:∀(w:Da)(s₀ g:ϋ)(mg mb:Str->Option B)(fa:J)(o:Obj)(pm cd doc:B)(a:J)(vs:List B)(ns:List Int),
   Ground q loose [] XP w s₀ mg mb g.heap->V w g.heap ->
   g.heap.get? fa=Z o->o.data=.func (docDef d.name d.params d.body d.scope pm cd doc)->g.heap.CodeRec cd d.name->mg d.name=Z (.ref fa) ->
   g.heap.get? a=Z {cls:=.type "list",data:=.seq vs.toArray}->IntsAre vs ns->ns.length<=n->g.gens=#[] ->
   codeAny (model l.prog w) callerA (.call (.ref fa) ([.ref a],[])) (λr s'=>r=.ok (.ret (.bool O))/\OldK g.heap s'.heap/\s'.os=g.os/\AllBare s'.gens) g):
  WalkO q loose XP V l.row.toRowW d [] (λf vs=>PySem.call f vs):=by
 intro w s₀ g mg mb G ϋ fa o pm cd doc dV kV ho hd P Q hmg hg args vals as hpre YM ah z ak;obtain rfl:=Dflts.none Q K;obtain rfl:=Dflts.noKw Q;let(a,vs,ns,U,U,Im,hints,hlen):=Ho hn hpre z;refine enter_call (codeAny_mono (call w s₀ g mg mb fa o pm cd doc a vs ns G ϋ ho (fd_plain hd) P hmg Im hints hlen hg) λr s' hq=>?_)
 let(U,h2,h3,h4):=hq;exact(.inl (.bool O,.bool O,[],U,λ_=>rfl,.bool O,HC l _,λ_=>(List.Pairwise.nil,λ_ hm=>(nomatch hm))),h2,h3,h4)
section
def ledger(h:Ev)(L d:J):List (J×Obj):=(Ww h.objs.size).filterMap λa=>if a=L\/a=d then Y else(h.get? a).map λo=>(a,o)
end
end Att
namespace L2
open PySem PySem.Spec PyProof.Rows
def Ha{vs:List B}{ns:List Int}(h:IntsAre vs ns):Vals (ns.map V.int) vs:=by
 induction h with
 |nil=>exact .nil
 |cons n t _ g=>exact .cons (t,U) g
def PL(H:Hp):Prop:=∀b,H b=Y\/∃o xs,H b=Z (.frz o (.lst xs))
variable{mg:Str->Option B}{a:J}{x:Str}
theorem Ls{P:Db}{w:Da}{K:BT}{mb:Str->Option B}{CX:CXT}{k:Nat}{fa:J}{fd:Ch}{sp:Sp}{g:ϋ}{vs:List B}{ns:List Int}
  (KX:K.In g.heap) (ak:g.heap.Ns mainGlobals mg) (Q:g.heap.Ns builtinsNs mb) (aH:∀x:Str,x ≠ "__name__"->mb x=bootBuiltins x) (Yi:g.heap.NoLimit) (hg:g.gens=#[])
  (ha:g.heap.get? a=Z {cls:=.type "list",data:=.seq vs.toArray}) (hi:IntsAre vs ns) (hl:ns.length<=ot) (hr:bP k callerA)
  (F:∀base:Ev,K.In base->base.Ns mainGlobals mg->aV P w K mg base CX k fa fd [x] sp) (WY:∀(s:ϋ)(u:B),BindsTo s fd ([u],[]) [(x,u)])
  (aD:∀H:Hp,PL H->SqL K H a (ns.map V.int)->sp [.ref a] H (λv _=>v=.bl O) λ_ _ _=>False)
  (aL:∀H e s',CX [] H g (λ_ _ _=>False) e s'->False):
  codeAny (model P w) callerA (.call (.ref fa) ([.ref a],[])) (λr s'=>r=.ok (.ret (.bool O))/\OldK g.heap s'.heap/\s'.os=g.os/\AllBare s'.gens) g:=by
 have rv:=Ha hi;have X4:=hi.length;have core:∀H,PL H->SqL K H a (ns.map V.int)->HOk P w H g.heap->(∀b,H b≠Y->b=a)->(H a≠Y->K.lookup a=Y) ->
   codeAny (model P w) callerA (.call (.ref fa) ([.ref a],[])) (λr s'=>r=.ok (.ret (.bool O))/\OldK g.heap s'.heap/\s'.os=g.os/\AllBare s'.gens) g:=by
  intro H hO hS hok hA hK;have GD:∀{b:J}{o:Obj},g.heap.get? b=Z o->H b=Y->(B6 g.heap H).get? b=Z o:=λe n=>LL e n
  have aw:∀{b:J}{o:Obj}{es:Array DictEntry}{ep:Nat},g.heap.get? b=Z o->o.data=.dict es ep->H b=none:=λ{b o es ep} e d=>by
   cases q:H b with
   |none=>rfl
   |some u =>
    have e':=hA b (by rw[q];simp)
    subst e';rw[ha]at e;cases e;have d':=d;cases d'
  have ah:∀{b:J}{m:Str->Option B},g.heap.Ns b m->(B6 g.heap H).Ns b m:=λ{b m} (o,es,ep,e,d,r)=>(o,es,ep,GD e (aw e d),d,r)
  have au:=λb o e=>GD (KX b o e) (by
   cases q:H b with
   |none=>rfl
   |some u =>
    have e':=hA b (by rw[q];simp)
    subst e';rw[hK (by rw[q];simp)]at e;cases e)
  have hM:Mod K mg (B6 g.heap H):=(au,ah ak,(mb,ah Q,aH),let(mc,h1,h2):=Yi;(mc,ah h1,h2))
  have e0:CM P w K mg (B6 g.heap H) callerA [] g H:=(U,hM,λb o e=>OS e,ZZ (Iq _ _),trivial,λb Q=>absurd (show b∈([])from Q) (by simp),hok,.of_eq hg)
  refine codeAny_mono ((F _ au (ah ak)).run callerA [] g H ([.ref a],[]) [.ref a] [.ref a] _ _ hr e0 (WY g (.ref a)) (.cons U .nil) (aD H hO hS)) λr s' h=>?_
  cases r with
  |error e=>exact(aL H e s' h).elim
  |ok fl =>
   cases fl with
   |next=>exact False.elim h
   |brk=>exact False.elim h
   |cont=>exact False.elim h
   |ret u =>
    let(v,H',os,bare,un,Yg,r',q):=h;have q':=q;subst q';obtain rfl:=r';refine(U,OldK.of_keep λb o e=>?_,os,bare)
    cases q:H b with
    |none=>exact un.keep b o e q (by intro z;exact absurd (show b∈([])from z) (by simp)) (by simp)
    |some u =>
     obtain z |⟨ob,xs,z⟩:=hO b
     ·rw[q]at z;cases z
     ·have z2:=un.pN b ob _ z;let(e1,_):=hok b _ z;let(e2,_):=Yg b _ z2;rw[e]at e1;cases e1;exact e2
 cases hk:K.lookup a with
 |some o =>
  have e:=KX a o hk;rw[ha]at e;cases e;refine core (λ_=>Y) (λ_=>.inl U) (.inr (_,vs.toArray,_,hk,U,U,U,by rw[uZ,X4];exact hl,by simpa using rv)) (λb u z=>by have z':=z;cases z') (λb z=>absurd U z) λz=>absurd U z
 |none =>
  refine core (λb=>if b=a then Z (.frz {cls:=.type "list",data:=.seq vs.toArray} (.lst (ns.map V.int)))else Y) (λb=>?_) (.inl (.inr ({cls:=.type "list",data:=.seq vs.toArray},if_pos U))) (λb u z=>?_) (λb z=>?_) λ_=>hk
  ·by_cases Q:b=a
   ·exact .inr (_,_,if_pos Q)
   ·exact .inl (if_neg Q)
  ·by_cases Q:b=a
   ·have z':=(if_pos Q).symm.trans z;cases z';subst Q;exact(ha,by rw[gV];exact hl,vs,_,rv,ha)
   ·have z':=(if_neg Q).symm.trans z;cases z'
  ·by_cases Q:b=a
   ·exact Q
   ·exact absurd (if_neg Q) z
variable{n:Nat}
theorem Ng{l:W.OpenLaw}{k:Nat}{q:Db}{loose:List Str}{XP:(Str->Option B)->Ev->Prop}{YP:Da->Ev->Prop}{d:DefRec}{K:Params->BT}{CX:Da->CXT}{sp:Da->Sp}
  (hn:l.most=Z n) (Q:n<=ot) (ah:d.params.defaults=[]) (hr:bP k callerA)
  (hY:∀(w:Da)(h:Ev),YP w h->(K w.params).In h)
  (F:∀(w:Da)(mg:Str->Option B)(fa:J)(h:Ev),(K w.params).In h->h.Ns mainGlobals mg->mg d.name=Z (.ref fa) ->
   ∃fd:Ch,(∀(s:ϋ)(u:B),BindsTo s fd ([u],[]) [(x,u)]) /\
    ∀base:Ev,(K w.params).In base->base.Ns mainGlobals mg->aV l.prog w (K w.params) mg base (CX w) k fa fd [x] (sp w))
  (P:∀(w:Da)(H:Hp)(a:J)(ns:List Int),ns.length<=n->PL H->SqL (K w.params) H a (ns.map V.int)->sp w [.ref a] H (λv _=>v=.bl O) λ_ _ _=>False)
  (ak:∀(w:Da)(H:Hp)(s:ϋ)(e:B)(s':ϋ),CX w [] H s (λ_ _ _=>False) e s'->False):
  W.WalkO q loose XP YP l.row.toRowW d [] (λf vs=>PySem.call f vs):=by
 refine Att.Cu hn ah λw s₀ z mg mb fa o pm cd doc a vs ns G ϋ ho hd au hmg Im hints hlen hg=>?_
 have KX:=hY w _ ϋ;let(fd,hb,hF):=F w mg fa _ KX G.T.g hmg;exact Ls KX G.T.g G.T.b G.T.builtins G.T.nolimit hg Im hints (u4 hlen Q) hr hF hb (λH hO hS=>P w H a ns hlen hO hS) λH e s'=>ak w H z e s'
def iK(s:Fk):Arguments:=match s with
 |.FunctionDef _ a _ _ _ _ _ _ _ _=>a
 |_=>{posonlyargs:=[],args:=[],vararg:=Y,kwonlyargs:=[],kw_defaults:=[],kwarg:=Y,defaults:=[]}
def cz(s:Fk):List Fk:=match s with
 |.FunctionDef _ _ b _ _ _ _ _ _ _=>b
 |_=>[]
def av(s:Fk):Scope:=match s with
 |.FunctionDef _ _ _ _ _ _ sc _ _ _=>sc
 |_=>{kind:=.function,names:=[],isGenerator:=ϊ,isCoroutine:=ϊ}
abbrev CX0:CXT:=λ_ _ _ _ _ _=>False
abbrev E0:XK:=λ_ _ _=>False
variable{X:Cx}
def ub:Passes CX0 X E0:=λ_ _ _ _ _ _ _ h=>h.elim
structure Fun(K:BT)(x qual:Str)(st:Fk)(f:J)(fd:Ch):Prop where
 ex:∃(oc:B)(od:Option J)(kV doc pm:B)(an:Option J)(cdv ct:B)(osl:Array (Option B)),
  fd=W.fnOf x qual (iK st) (cz st) (av st) .none kV doc pm an cdv ct/\K.lookup f=Z (oc,od,.func fd,osl)/\W.codeIn K cdv qual=O
 kp:W.keepIn K (.ref f)=O
variable{qual:Str}{st:Fk}{fd:Ch}{ps:List Str}{oc:B}{od:Option J}{an:Option J}{pm:B}{ct:B}
section
variable{P:Db}{w:Da}{K:BT}{base:Ev}
theorem Fun.ok{x qual:Str}{st:Fk}{f:J}{fd:Ch}{N ps:List Str}{k:Nat}{sp:Sp}(F:Fun K x qual st f fd)(S:aE N ps (av st))(len:∀vs H Q E,sp vs H Q E->vs.length=ps.length)
  (jv:∀(cdv:B)(A:Do)(outer:List Env)(s:ϋ)(H:Hp)(vs:List V)(Q:VK)(E:XK),bP k (A.deeper (envOfC qual (av st) s.heap.objs.size f cdv))->sp vs H Q E ->
   ∃t,PSs (pP CX0 P w K mg base N qual (av st) f cdv A outer s H E).nox (cz st) t/\t {nx:=λ_ H'=>Q .non H',rt:=Q} (start N vs) H):aV P w K mg base CX0 (k+1) f fd ps sp:=by
 let(oc,od,kV,doc,pm,an,cdv,ct,osl,U,lk,z):=F.ex;refine QP lk z S len λA outer s H vs Q E hr g=>?_
 let(t,h,q):=jv cdv A outer s H vs Q E hr g;exact(t,h.nox,q)
theorem Fun.binds{f:J}(F:Fun K x qual st f fd)
  (h:∀(kV doc pm:B)(an:Option J)(cdv ct:B)(us:List B),us.length=ps.length->bindArgs (W.fnOf x qual (iK st) (cz st) (av st) .none kV doc pm an cdv ct) (us,[])=pure (ps.zip us)):Binds K fd ps []:=by
 let(oc,od,kV,doc,pm,an,cdv,ct,osl,U,lk,g):=F.ex;exact .all (h kV doc pm an cdv ct)
theorem pM{f:J}{osl:Array (Option B)}{kV doc cdv:B}(l:K.lookup f=Z (oc,od,.func (W.fnOf x qual (iK st) (cz st) (av st) .none kV doc pm an cdv ct),osl))
  (c:W.codeIn K cdv qual=O) (k:W.keepIn K (.ref f)=O):Fun K x qual st f (W.fnOf x qual (iK st) (cz st) (av st) .none kV doc pm an cdv ct):=((oc,od,kV,doc,pm,an,cdv,ct,osl,U,l,c),k)
end
variable{A:Do}
def cj{k:Nat}(hr:bP k A):A.units+1<cLine:=Y9 (Nat.add_le_add_left (by decide) _) hr.units
def bo(h:n<=1000):n<ot:=Y9 h (by decide)
section
def pv(i:Nat){pos:Pos}(q:‹X.N[i]?=Z x›)(hv:Vis X.env.scope x:=by first|exact Or.inl rfl|exact Or.inr (Or.inl U)|exact Or.inr (Or.inr U))(hd:autoParam (AS x) zdc._auto_1)
  (g:autoParam ((x ==("__classdict__":Str))=false) zdc._auto_1):PE X (.Name x pos) (cc i):=zx q hv hd g
end
def Wy{A ό:Prop}(h:A):if O=O then A else ό:=by
 rw[if_pos rfl];exact h
def a7{c A ό:Prop}[Decidable c](h1:c->A)(h2:¬ c->ό):if c then A else ό:=by
 by_cases h:c
 ·rw[if_pos h];exact h1 h
 ·rw[if_neg h];exact h2 h
def pS(H H':Hp):Prop:=∀b o,H b=Z o->H' b=Z o
def pS.refl(H:Hp):pS H H:=λ_ _ h=>h
variable{H:Hp}{H':Hp}{l:J}
def pS.free(e:pS H H')(h:H' l=Option.none):H l=Option.none:=by
 cases q:H l with
 |none=>rfl
 |some o =>
  rw[e l o q]at h;cases h
variable{y:V}{u:B}
section
variable{κ:Type}[DecidableEq κ]
def pY(kvs:List (κ×V))(k:κ):Option V:=(kvs.find? λg=>decide (g.1=k)).map (·.2)
def putK(kvs:List (κ×V))(k:κ)(v:V):List (κ×V) :=
 if(kvs.any λg=>decide (g.1=k))=O then kvs.map (λg=>if g.1=k then(g.1,v)else g)else kvs ++ [(k,v)]
def vx{p:κ×V}{r:List (κ×V)}{k:κ}(e:p.1=k):pY (p::r) k=Z p.2:=by simp[pY,e]
def vz{p:κ×V}{r:List (κ×V)}{k:κ}(e:¬ p.1=k):pY (p::r) k=pY r k:=by simp[pY,e]
theorem AJ(k:κ):∀kvs:List (κ×V),(kvs.any λg=>decide (g.1=k))=(pY kvs k).isSome
 |[]=>rfl
 |p::r=>by
  rw[Zm];by_cases e:p.1=k
  ·simp only[vx e,decide_eq_true e,ab4,Option.isSome_some]
  ·rw[vz e,decide_eq_false e];exact AJ k r
def m9(kvs:List (κ×V))(k:κ)(v:V):(putK kvs k v).length<=kvs.length+1:=by
 unfold putK
 split
 ·rw[gV];lia
 ·rw[qd,my,ZF];lia
def lN.Ii{o:Option V}{u:Option B}(r:lN o u):o.isSome=u.isSome:=by
 cases o with
 |none=>cases u with
  |none=>rfl
  |some _=>exact(r).elim
 |some _=>cases u with
  |none=>exact(r).elim
  |some _=>rfl
def KV.val{kvs:List (κ×V)}{vs:List (κ×B)}(r:KV kvs vs)(k:κ):lN (pY kvs k) (valueAt vs k):=by
 induction r with
 |nil=>exact True.intro
 |@cons p q ps qs h t K =>
  let(h1,h2):=h;by_cases e:p.1=k
  ·have g:=h1.symm.trans e;have b:valueAt (q::qs) k=Z q.2:=by simp[valueAt,g]
   rw[vx e,b];exact h2
  ·have g:¬ q.1=k:=λz=>e (h1.trans z)
   have b:valueAt (q::qs) k=valueAt qs k:=by simp[valueAt,g]
   rw[vz e,b];exact K
theorem KV.any{kvs:List (κ×V)}{vs:List (κ×B)}(r:KV kvs vs)(k:κ):(kvs.any λg=>decide (g.1=k))=vs.any λg=>decide (g.1=k):=by
 induction r with
 |nil=>rfl
 |cons h t q=>rw[Zm,Zm,q,h.1]
def KV.RL{kvs:List (κ×V)}{vs:List (κ×B)}(r:KV kvs vs)(k:κ)(K:RelV y u):
  KV (kvs.map λg=>if g.1=k then(g.1,y)else g) (vs.map λg=>if g.1=k then(g.1,u)else g):=by
 induction r with
 |nil=>exact .nil
 |@cons p q ps qs h t P =>
  rw[CH,CH];refine .cons ?_ P;let(h1,h2):=h;by_cases e:p.1=k
  ·rw[if_pos e,if_pos (h1.symm.trans e)];exact(h1,K)
  ·rw[if_neg e,if_neg (λz=>e (h1.trans z))];exact(h1,h2)
def KV.put{kvs:List (κ×V)}{vs:List (κ×B)}(r:KV kvs vs)(k:κ)(g:RelV y u):KV (putK kvs k y) (stored vs k u):=by
 unfold putK stored;rw[r.any k];by_cases e:(vs.any λq=>decide (q.1=k))=O
 ·rw[if_pos e,if_pos e];exact r.RL k g
 ·rw[if_neg e,if_neg e];exact Paired.snoc r (U,g)
theorem KV.length{kvs:List (κ×V)}{vs:List (κ×B)}(r:KV kvs vs):kvs.length=vs.length:=Paired.length r
end
variable{P:Db}
def Gi{w:Da}{k:Key}(r:RelV (kV k) u):(d8 P w).is k u=true:=by
 cases k with
 |inl i=>let(t,e):=(r);subst e;exact BK P w i t
 |inr x=>let(t,e):=(r);subst e;exact BJ P w x t
theorem yj{P:Db}{w:Da}:∀{ks:List Key}{us:List B},Vals (ks.map kV) us->ItemsAre (d8 P w) ks us
 |[],_,r=>by cases r;exact .nil
 |k::ks,_,r=>by
  cases r with
  |cons h t=>exact .cons (Gi h) (yj t)
abbrev KT(H:Hp):List (List Key×V)->List (List Key×J×B)->Prop:=Paired λp q=>p.1=q.1/\H q.2.1=Z (.tup (p.1.map kV))/\RelV p.2 q.2.2
variable{kvs:List (List Key×V)}
def KT.val{xs:List (List Key×J×B)}(r:KT H kvs xs)(k:List Key):lN (pY kvs k) ((atKey xs k).map (·.2)):=by
 induction r with
 |nil=>exact True.intro
 |@cons p q ps qs h t K =>
  let(h1,_,h2):=h;by_cases e:p.1=k
  ·have g:=h1.symm.trans e;have b:atKey (q::qs) k=Z q.2:=by simp[atKey,g]
   rw[vx e,b];exact h2
  ·have g:¬ q.1=k:=λz=>e (h1.trans z)
   have b:atKey (q::qs) k=atKey qs k:=by simp[atKey,g]
   rw[vz e,b];exact K
def KT.RL{xs:List (List Key×J×B)}(r:KT H kvs xs)(k:List Key)(K:RelV y u):
  KT H (kvs.map λg=>if g.1=k then(g.1,y)else g) (xs.map (putAt k u)):=by
 induction r with
 |nil=>exact .nil
 |@cons p q ps qs h t P =>
  rw[CH];refine .cons ?_ P;let(h1,h2,h3):=h;unfold putAt;by_cases e:p.1=k
  ·rw[if_pos e,if_pos (h1.symm.trans e)];exact(h1,h2,K)
  ·rw[if_neg e,if_neg (λz=>e (h1.trans z))];exact(h1,h2,h3)
def KT.put{xs:List (List Key×J×B)}(r:KT H kvs xs)(k:List Key){b:J}(K:H b=Z (.tup (k.map kV)))(g:RelV y u):
  KT H (putK kvs k y) (storedH xs k b u):=by
 have e:(kvs.any λz=>decide (z.1=k))=(atKey xs k).isSome:=by
  rw[AJ,(r.val k).Ii,ZR]
 unfold putK storedH;rw[e];by_cases q:(atKey xs k).isSome=O
 ·rw[if_pos q,if_pos q];exact r.RL k g
 ·rw[if_neg q,if_neg q];exact Paired.snoc r (U,K,g)
def KT.keeps{xs:List (List Key×J×B)}(r:KT H kvs xs)(g:∀b ys,H b=Z (.tup ys)->H' b=Z (.tup ys)):KT H' kvs xs :=
 Paired.Wj r λ_ _ z=>(z.1,g _ _ z.2.1,z.2.2)
section
variable{w:Da}{h:Ev}
def PZ{u:HO}(ok:HOk P w H h)(e:Rd H a u):dm P w H h a u:=e.ok ok
def Gu{kvs:List (Key×V)}(ok:HOk P w H h)(e:Rd H a (.dK kvs)):kvs.length<=ot/\(a==sysModules)=ϊ/\∃vs,KV kvs vs/\h.DictOf (d8 P w) a vs :=
 PZ ok e
def QR{kvs:List (Key×V)}(ok:HOk P w H h)(e:H a=Z (.dK kvs)):kvs.length<=ot/\(a==sysModules)=ϊ/\∃vs,KV kvs vs/\h.DictOf (d8 P w) a vs:=Gu ok (.inl e)
def En{ks:List Key}(ok:HOk P w H h)(e:H a=Z (.tup (ks.map kV))):(tupleKind (d8 P w)).is h ks a:=by
 let(_,its,r,(o,h1,h2,n,h3),_):=(ok a _ e);exact(o,its.toArray,n,h1,h2,h3,by simpa using yj r)
def Ma(ok:HOk P w H h)(e:Rd H a (.dT kvs)):kvs.length<=ot/\(a==sysModules)=ϊ /\
  ∃xs,KT H kvs xs/\h.DictOfH (tupleKind (d8 P w)) a xs:=by
 let(z,y,xs,r,o,es,Q,h1,h2,h3,h4,h5):=(PZ ok e);refine(z,y,xs,r,o,es,Q,h1,h2,h3,h4,λx hx=>?_,h5)
 have all:∀{l:List (List Key×V)}{m:List (List Key×J×B)},KT H l m->∀x∈m,(tupleKind (d8 P w)).is h x.1 x.2.1:=by
  intro l m q
  induction q with
  |nil=>intro x hx;exact nomatch hx
  |@cons p q ps qs g t K =>
   intro x hx;obtain e|hx:=fx.mp hx
   ·subst e;exact En ok (by rw[<- g.1];exact g.2.1)
   ·exact K x hx
 exact all r x hx
def W4(ok:HOk P w H h)(e:H a=Z (.dT kvs)):kvs.length<=ot/\(a==sysModules)=ϊ /\
  ∃xs,KT H kvs xs/\h.DictOfH (tupleKind (d8 P w)) a xs:=Ma ok (.inl e)
end
def xi(H:Hp)(a:J)(y:V)(r:Option V):Prop :=
 (∃kvs k,Rd H a (.dK kvs)/\y=kV k/\r=pY kvs k)\/∃kvs k b,Rd H a (.dT kvs)/\y=.ref b/\H b=Z (.tup (k.map kV))/\r=pY kvs k
def CP(H:Hp)(a:J)(y v:V)(H':Hp):Prop :=
 (∃kvs k,H a=Z (.dK kvs)/\y=kV k/\kvs.length<ot/\H'=upd H a (.dK (putK kvs k v))) \/
 ∃kvs k b,H a=Z (.dT kvs)/\y=.ref b/\H b=Z (.tup (k.map kV))/\kvs.length<ot/\H'=upd H a (.dT (putK kvs k v))
theorem xi.k{H:Hp}{a:J}{kvs:List (Key×V)}{k:Key}(e:H a=Z (.dK kvs)):xi H a (kV k) (pY kvs k):=.inl (kvs,k,.inl e,U,U)
theorem CP.k{H:Hp}{a:J}{kvs:List (Key×V)}{k:Key}{v:V}(e:H a=Z (.dK kvs))(hl:kvs.length<ot):CP H a (kV k) v (upd H a (.dK (putK kvs k v))):=.inl (kvs,k,e,U,hl,U)
variable{Q:B->ϋ->Prop}{h':Ev}{t':Nat}
section
variable{gd:List (J×Obj)}{σ:St}{s:ϋ}{v:V}{r:B}{E:B->ϋ->Prop}
def Inv.big(I:Inv X gd σ H s):sysModules<s.heap.objs.size:=by
 have h:=(I.mod.glob.keeps I.bk).lt;exact Zj (by decide) h
def ID(hu:A.units+1<cLine)(I:Inv X gd σ H s)(g:xi H a y (Z v))(ry:RelV y u)(h:∀K s',Inv X gd σ H s'->RelV v K->Q K s'):
  wpAny (model X.prog X.w) A (getItem (.ref a) u) Q E s:=by
 obtain⟨kvs,k,e,V,l⟩|⟨kvs,k,b,e,V,eb,l⟩:=g
 ·subst V;let(z,hd,vs,rel,dd):=Gu I.hok e;let(K,hw,q):=lN.some_of (by rw[l];exact rel.val k)
  exact wpAny_getItem_of (Gi ry) dd.mapOf hw (h K _ (I.tok _) q)
 ·subst V
  cases(ry)
  let(z,hd,xs,rel,dd):=Ma I.hok e;let(K,hw,q):=lN.some_of (by rw[l];exact rel.val k)
  let(p,hp,P):=kg.mp hw;refine wpAny_getItem_heap (tupleKind_room_in1 hu) (En I.hok eb) dd hp ?_;rw[P];exact h K _ (I.tok _) q
def Ad{ob:HO}(I:Inv X gd σ H s)(g:Mut (H a))(hs:Zr a s.heap h')(he:∃q,h'.get? a=Z q)(new:dm X.prog X.w (upd H a ob) h' a ob):
  Inv X gd σ (upd H a ob) {s with heap:=h',toks:=t'} :=
 I.write g (.inl U) (λb q K z=>(hs.2 b K).trans z) he new
def Mc{w:Da}{kvs:List (Key×V)}{vs:List (Key×B)}(z:kvs.length<=ot)(hd:(a==sysModules)=ϊ)(rel:KV kvs vs)(dd:h'.DictOf (d8 P w) a vs):
  dm P w H' h' a (.dK kvs):=(z,hd,vs,rel,dd)
def IC{Q:Unit->ϋ->Prop}(hu:A.units+1<cLine)(I:Inv X gd σ H s)(g:CP H a y v H')(ry:RelV y u)(rv:RelV v r)(h:∀s',Inv X gd σ H' s'->Q () s'):
  wpAny (model X.prog X.w) A (setItem (.ref a) u r) Q E s:=by
 obtain⟨kvs,k,e,P,l,V⟩|⟨kvs,k,b,e,P,eb,l,V⟩:=g
 ·subst P V;let(z,hd,vs,rel,dd):=QR I.hok e;have hz:vs.length<=ot:=by rw[<- rel.length];exact z
  have hl:(putK kvs k v).length<=ot:=by have:=m9 kvs k v;omega
  refine wpAny_setItem_pairs (Gi ry) dd λh' dd' hs=>h _ ?_
  have he:∃q,h'.get? a=Z q:=let(q,_,_,K,_):=dd';(q,K)
  exact Ad I (by rw[e];exact True.intro) hs he (Mc hl hd (rel.put k rv) dd')
 ·subst P V
  cases(ry)
  let(z,hd,xs,rel,dd):=W4 I.hok e;have hz:xs.length<=ot:=by rw[<- Paired.length rel];exact z
  have hl:(putK kvs k v).length<=ot:=by have:=m9 kvs k v;lia
  refine wpAny_setItem_heap (hsz:=hz) (tupleKind_room_in1 hu) (En I.hok eb) dd λh' dd' hs=>h _ ?_
  let(q,es,ep,K,h2,h3,h4,_,h5):=dd';refine Ad I (by rw[e];exact True.intro) hs (q,K) (hl,hd,_,(rel.put k eb rv).keeps λc ys ec=>?_,q,es,ep,K,h2,h3,h4,h5)
  rw[ax (dQ ec e (λz=>nomatch z))]
  exact ec
end
section
variable{gd:List (J×Obj)}{σ:St}{s:ϋ}{kvs:List (Key×V)}{E:B->ϋ->Prop}
def W5(I:Inv X gd σ H s)(e:Rd H a (.dK kvs))(h:∀t s',Inv X gd σ H s'->Q (.int kvs.length t) s'):wpAny (model X.prog X.w) A (call (.builtin "len") [.ref a]) Q E s:=by
 let(z,hd,vs,rel,dd):=Gu I.hok e;refine call_len_dict hd dd (by rw[<- rel.length];rw[Y1]at z;lia) ?_
 rw[<- rel.length];exact h _ _ (I.tok _)
end
def Xu(i:EQ):Prop:=∀g iv,subscripted i ϊ g iv=operate [g,iv] (getItem g iv)
variable{E:B->ϋ->Prop}{s:ϋ}{env:Env}{value:EQ}
def Nl{prog:Db}{w:Da}{slice:EQ}{T id:String}
  (hl:typeLookup (.type T) "__getitem__"=pure (Z (.builtin id))) (hs:Xu slice)
  (h:wpAny (model prog w) A (eval value env) (λo z=>wpAny (model prog w) A (eval slice env) (λi s₂=>s₂.TypeIs o T/\wpAny (model prog w) A (getItem o i) Q E s₂) E z) E s):
  wpAny (model prog w) A (eval (.Subscript value slice pos) env) Q E s:=by
 refine Subscript_ (E3 h (λo z P=>E3 P (λi s₂ g=>?_) λ_ _ x=>x) λ_ _ x=>x)
 let(hT,g):=g;refine fH ?_;refine fH (Z7 hT hl ?_);have fin:wpAny (model prog w) A (subscripted slice ϊ o i) (λr q=>wpAny (model prog w) A (letTemporaryGo value o r >>= λ_=>pure r) Q E q) E s₂:=by
  rw[hs o i];exact wpAny_operating (E3 g (λr q K=>fH (wpAny_letTemporaryGo (u7 K))) λ_ _ x=>x)
 exact u7 (fH fin)
variable{gd:List (J×Obj)}
def Ci{σ:St}{o:Option V}(I:Inv X gd σ H s)(g:xi H a y o):s.TypeIs (.ref a) "dict":=by
 obtain⟨kvs,k,e,_,_⟩|⟨kvs,k,b,e,_,_,_⟩:=g
 ·let(_,_,vs,_,dd):=Gu I.hok e;exact dd.typeIs
 ·let(_,_,xs,_,dd):=Ma I.hok e;exact dd.typeIs
def Va(td ty:TE):TE:=λσ H Q=>td σ H λx H1=>ty σ H1 λy g=>∃a v,x=.ref a/\xi g a y (Z v)/\Q v g
def Vh(td ty tv:TE):TS:=λD σ H=>tv σ H λv H1=>td σ H1 λx z=>ty σ z λy q=>∃a g,x=.ref a/\CP q a y v g/\D.nx σ g
section
variable{o i:EQ}{pos pos':Pos}{td ty tv:TE}
def ly(hu:X.A.units+1<cLine)(ho:PE X o td)(hi:PE X i ty)(hs:Xu i):PE X (.Subscript o i pos) (Va td ty):=by
 intro gd s σ H Q I h;refine Nl PySem.F.slot_dict_getitem.lookup hs (thn (ho gd s σ H _ I h) λu s1 (x,H1,I1,V,q1)=>thn (hi gd s1 σ H1 _ I1 q1) λiv s2 z=>?_)
 let(y,H2,K,P,a,v,ex,g,q2):=z;subst ex;obtain rfl:=V;exact(Ci K g,ID hu K g P λw' s3 I3 q=>(v,H2,I3,q,q2))
def zt(hu:X.A.units+1<cLine)(ho:PE X o td)(hi:PE X i ty)(hv:PE X value tv)(hs:swapsWith value (Z (.Subscript o i pos')) pos.line X.env=pure ϊ):
  PS X (.Assign [.Subscript o i pos'] value pos) (Vh td ty tv):=by
 intro gd s σ H D I h;refine wpAny_Assign_Subscript (thn (hv gd s σ H _ I h) λr s1 (v,H1,I1,P,q1)=>thn (ho gd s1 σ H1 _ I1 q1) λu s2 (x,H2,I2,K,V)=>thn (hi gd s2 σ H2 _ I2 V) λiv s3 q=>?_) hs
 let(y,H3,I3,z,a,H4,ex,g,Q):=q;subst ex;obtain rfl:=K;exact IC hu I3 g z P λs4 I4=>(σ,H4,I4,Q)
end
def Md{w:Da}(h:Ev)(g:sysModules<h.objs.size):dm P w H (h.push {cls:=.type "dict",data:=.dict #[]}) h.objs.size (.dK []) :=
 (Je _,beq_eq_false_iff_ne.mpr (Ne.symm (Aw g)),[],.nil,Heap.DictOf.new h)
def Dh:List (TE×TE)->St->Hp->(List (V×V)->Hp->Prop)->Prop
 |[],_,H,Q=>Q [] H
 | (tk,tv)::r,σ,H,Q=>tk σ H λx H1=>tv σ H1 λy q=>Dh r σ q λps g=>Q ((x,y)::ps) g
abbrev VV:List (V×V)->List (B×B)->Prop:=Paired λp q=>RelV p.1 q.1/\RelV p.2 q.2
def PPs(X:Cx)(pos:Pos)(keys:List (Option EQ))(values:List EQ)(g:List (TE×TE)):Prop :=
 ∀(gd:List (J×Obj))(s:ϋ)(σ:St)(H:Hp)(Q:List (V×V)->Hp->Prop),Inv X gd σ H s->Dh g σ H Q ->
  XV X (evalPairs (pairTrees keys values X.env pos)) (λvs s'=>∃ps H',Inv X gd σ H' s'/\VV ps vs/\Q ps H') X.xe s
def Ov:PPs X pos [] [] []:=λgd s σ H Q I h=>pairTrees_nil_walk ([],H,I,.nil,h)
variable{tv:TE}
def vQ{k v:EQ}{ks:List (Option EQ)}{vs:List EQ}{tk:TE}{g:List (TE×TE)}(hk:PE X k tk)(hv:PE X v tv)(hr:PPs X pos ks vs g):
  PPs X pos (Z k::ks) (v::vs) ((tk,tv)::g):=λgd s σ H Q I h =>
 pairTrees_cons_walk (thn (hk gd s σ H _ I h) λu s1 (x,H1,I1,z,V)=>thn (hv gd s1 σ H1 _ I1 V) λw2 s2 (y,H2,I2,q,P) =>
  thn (hr gd s2 σ H2 _ I2 P) λws s3 (ps,H3,I3,rel,K)=>((x,y)::ps,H3,I3,.cons (z,q) rel,K))
def sZ(kvs more:List (Key×V)):List (Key×V):=more.foldl (λacc g=>putK acc g.1 g.2) kvs
def KV.merge:∀{more:List (Key×V)}{rs:List (Key×B)}{kvs:List (Key×V)}{vs:List (Key×B)},KV more rs->KV kvs vs->KV (sZ kvs more) (merged vs rs):=by
 intro more rs kvs vs r
 induction r generalizing kvs vs with
 |nil=>intro q;exact q
 |@cons p q ps qs h t z =>
  intro g;have e:KV (putK kvs p.1 p.2) (stored vs q.1 q.2):=by
   have:=g.put p.1 h.2
   rw[<- h.1];exact this
  exact z e
theorem oG:∀(more kvs:List (Key×V)),(sZ kvs more).length<=kvs.length+more.length
 |[],kvs=>by show kvs.length<=kvs.length+0;lia
 |p::r,kvs=>by
  have h1:=oG r (putK kvs p.1 p.2);have h2:=m9 kvs p.1 p.2;show(sZ (putK kvs p.1 p.2) r).length<=_;rw[my];lia
theorem wX{P:Db}{w:Da}:∀{kvs:List (Key×V)}{ws:List (B×B)},VV (kvs.map λg=>(kV g.1,g.2)) ws->∃rs,Carries (d8 P w) ws rs/\KV kvs rs
 |[],_,r=>by cases r;exact([],True.intro,.nil)
 |p::kvs,_,r=>by
  cases r with
  |@cons a b as bs h t =>
   let(rs,c,q):=wX t;let(b1,b2):=b;exact((p.1,b2)::rs,(Gi h.1,U,c),.cons (U,h.2) q)
def U9(g:List (TE×TE)):TE:=λσ H Q=>∀p,H p=Y->Dh g σ (upd H p (.dK [])) λps z=>z p=Z (.dK [])/\∃kvs:List (Key×V),ps=kvs.map (λq=>(kV q.1,q.2))/\kvs.length<=15/\Q (.ref p) (upd z p (.dK (sZ [] kvs)))
def OB{keys:List (Option EQ)}{values:List EQ}{g:List (TE×TE)}(h:PPs X pos keys values g)(Uj:keys.all (·.isSome)=O)(hl:keys.length=values.length)(h0:keys ≠ [])
  (P:keys.length<=15):PE X (.Dict keys values pos) (U9 g):=by
 intro gd s σ H Q I q;have hn:=I.hok.fresh (oa s.heap.objs.size);have I1:=I.laid (t':=s.toks) (λ_ _ q=>iP _ q) (oa _) (Md s.heap I.big)
 refine wpAny_Dict_walk (knd:=d8 X.prog X.w) Uj hl h0 P (thn (h gd _ σ _ _ I1 (q _ hn)) λws s2 K=>?_)
 let(ps,H2,V,rel,e,kvs,ep,lk,q2):=K;subst ep;let(rs,c,rk):=wX rel;let(z,hd,ah,r0,dd):=QR V.hok e;cases r0;refine(rs,c,dd,λh' dd' hs=>(.ref s.heap.objs.size,_,?_,U,q2))
 have hz:(sZ [] kvs).length<=ot:=by
  have h1:=oG kvs [];rw[ZF]at h1;rw[Y1];lia
 have he:∃q,h'.get? s.heap.objs.size=Z q:=let(q,_,_,hq,_):=dd';(q,hq)
 exact Ad V (by rw[e];exact True.intro) hs he (Mc hz hd (rk.merge .nil) dd')
section
def IM:de X (.builtin "len") (λxs H Q=>∃a kvs,xs=[V.ref a]/\H a=Z (.dK kvs)/\Q (.int kvs.length) H):=by
 intro gd s σ H xs us Q I r h;let(a,kvs,U,ha,q):=h;let(u,U,ru):=vals1 r;cases ru;exact W5 I (.inl ha) λt s' g=>(.int kvs.length,H,g,(t,U),q)
end
end L2
set_option maxHeartbeats 4000000
namespace L2
open PySem PySem.Spec PyProof.Rows
def Qh{h:Ev}{a:Nat}{o:Obj}(e:h.get? a=Z o):@LT.lt Nat _ a h.objs.size:=uY e
def GC{h:Ev}{a:Nat}{v:Option B}(e:h.IsCell a v):@LT.lt Nat _ a h.objs.size:=e.lt
def qR{a b:Nat}(h:a<b):@Ne J a b:=Aw h
def Wg{a b:Nat}(h:b<a):@Ne J a b:=ZK h
variable{env:Env}
def Cn{body:Str×NameKind->List (Str×J)->Sem (ForInStep (List (Str×J)))}
  (hb:∀n k c,body (n,k) c=if(k==NameKind.free)=O then(cellOf env n >>= λa=>pure (.yield ((n,a)::c)))else pure (.yield c))
  (l:List (Str×NameKind)):∀(cs:List (Str×J)),(∀p∈l,p.2=NameKind.free->∃c,env.cells.lookup p.1=Z c) ->
   ∃cl,forIn l cs body=pure cl/\(∀x c,cl.lookup x=Z c->env.cells.lookup x=Z c\/cs.lookup x=Z c)/\(∀x,(x,NameKind.free)∈l->∃c,cl.lookup x=Z c)/\∀x c,cs.lookup x=Z c->∃q,cl.lookup x=Z q:=by
 induction l with
 |nil=>exact λcs _=>(cs,U,λ_ _ h=>.inr h,λ_ h=>(nomatch h),λ_ c h=>(c,h))
 |cons p r Q =>
  let(n,k):=p;intro cs h;have hr:=λp hp=>h p (aJ _ hp)
  rw[List.forIn_cons,hb];by_cases K:(k==NameKind.free)=O
  ·rw[if_pos K];have P:=by simpa using K
   let(c,V):=h (n,k) di P;have e1:cellOf env n=pure c:=by unfold cellOf;rw[V]
   rw[e1];let(cl,e,h1,h2,h3):=Q ((n,c)::cs) hr;refine(cl,e,λx q hx=>?_,λx hx=>?_,λx q hx=>?_)
   ·obtain z|z:=h1 x q hx
    ·exact .inl z
    ·by_cases g:(x==n)=O
     ·have e3:=by simpa using g
      subst e3;rw[xa,g]at z;cases z;exact .inl V
     ·rw[xa,EX.mpr g]at z;exact .inr z
   ·obtain z|z:=fx.mp hx
    ·have g:x=n:=congrArg Prod.fst z;exact h3 x c (by rw[xa,g,beq_self_eq_true])
    ·exact h2 x z
   ·by_cases g:(x==n)=O
    ·exact h3 x c (by rw[xa,g])
    ·exact h3 x q (by rw[xa,EX.mpr g];exact hx)
  ·rw[if_neg K];let(cl,e,h1,h2,h3):=Q cs hr;refine(cl,e,h1,λx hx=>?_,h3)
   obtain z|z:=fx.mp hx
   ·cases z;exact absurd U K
   ·exact h2 x z
variable{scope:Scope}
def EG(h:∀p∈scope.names,p.2=NameKind.free->∃c,env.cells.lookup p.1=Z c):
  ∃cl:List (Str×J),closureFor scope env=pure cl/\(∀x c,cl.lookup x=Z c->env.cells.lookup x=Z c)/\∀x,(x,NameKind.free)∈scope.names->∃c,cl.lookup x=Z c:=by
 let(cl,e,h1,h2,_):=Cn (body:=λx c=>if(x.2==NameKind.free)=O then(cellOf env x.1 >>= λa=>pure (.yield ((x.1,a)::c)))else pure (.yield c)) (λ_ _ _=>rfl) scope.names [] h
 refine(cl,?_,λx c hx=>(h1 x c hx).elim id λz=>by simp at z,h2)
 have g:closureFor scope env=(forIn scope.names ([]) (λx c=>if(x.2==NameKind.free)=O then(cellOf env x.1 >>= λa=>pure (.yield ((x.1,a)::c)))else pure (.yield c)) >>= λr=>pure r):=by
  simp only[closureFor]
 rw[g,e];rfl
theorem j4{env:Env}:∀{names:List (Str×NameKind)}{x:Str}{k:NameKind},
  (names.map λ(n,k)=>if(k==NameKind.free&&env.scope.kind == .function&&env.kindOf n==Z .cell)then(n,NameKind.cell)else(n,k)).lookup x=Z k ->
   names.lookup x=Z k\/(names.lookup x=Z .free/\k=.cell)
 |[],_,_,h=>by simp at h
 | (n,k0)::r,x,k,h=>by
  have q:=@j4 env r x k
  replace h:YX x ((if(k0==NameKind.free&&env.scope.kind == .function&&env.kindOf n==Z .cell)=O then(n,NameKind.cell)else(n,k0)) ::(r.map λ(n,k)=>if(k==NameKind.free&&env.scope.kind == .function&&env.kindOf n==Z .cell)then(n,NameKind.cell)else(n,k)))=Z k:=h
  cases hx:x==n with
  |true =>
   by_cases g:(k0==NameKind.free&&env.scope.kind == .function&&env.kindOf n==Z .cell)=O
   ·rw[if_pos g]at h;simp only[xa,hx]at h;cases h
    have:=by
     simp only[ti]at g;simpa using g.1.1
    subst this;exact .inr (by simp only[xa,hx],U)
   ·rw[if_neg g]at h;simp only[xa,hx]at h;exact .inl (by simp only[xa,hx];exact h)
  |false =>
   have h':(r.map λ(n,k)=>if(k==NameKind.free&&env.scope.kind == .function&&env.kindOf n==Z .cell)then(n,NameKind.cell)else(n,k)).lookup x=Z k:=by
    by_cases g:(k0==NameKind.free&&env.scope.kind == .function&&env.kindOf n==Z .cell)=O
    ·rw[if_pos g]at h;simpa only[xa,hx]using h
    ·rw[if_neg g]at h;simpa only[xa,hx]using h
   obtain z|z:=q h'
   ·exact .inl (by simp only[xa,hx];exact z)
   ·exact .inr (by simp only[xa,hx];exact z)
theorem qy{env:Env}:∀{names:List (Str×NameKind)}{x:Str},names.lookup x=Z .free ->
  (names.map λ(n,k)=>if(k==NameKind.free&&env.scope.kind == .function&&env.kindOf n==Z .cell)then(n,NameKind.cell)else(n,k)).lookup x=Z .free \/
  (names.map λ(n,k)=>if(k==NameKind.free&&env.scope.kind == .function&&env.kindOf n==Z .cell)then(n,NameKind.cell)else(n,k)).lookup x=Z .cell
 |[],_,h=>by simp at h
 | (n,k0)::r,x,h=>by
  have q:=@qy env r x;show YX x ((if(k0==NameKind.free&&env.scope.kind == .function&&env.kindOf n==Z .cell)=O then(n,NameKind.cell)else(n,k0))::_)=_\/YX x ((if(k0==NameKind.free&&env.scope.kind == .function&&env.kindOf n==Z .cell)=O then(n,NameKind.cell)else(n,k0))::_)=_
  cases hx:x==n with
  |true =>
   simp only[xa,hx]at h;cases h;by_cases g:(NameKind.free==NameKind.free&&env.scope.kind == .function&&env.kindOf n==Z .cell)=O
   ·rw[if_pos g];simp only[xa,hx];exact .inr trivial
   ·rw[if_neg g];simp only[xa,hx];exact .inl trivial
  |false =>
   simp only[xa,hx]at h;by_cases g:(k0==NameKind.free&&env.scope.kind == .function&&env.kindOf n==Z .cell)=O
   ·rw[if_pos g];simp only[xa,hx];exact q h
   ·rw[if_neg g];simp only[xa,hx];exact q h
inductive sj(X:Cx)(sc:Scope):List Str->List (Option Nat)->Prop
 |nil:sj X sc [] []
 |own{x:Str}{N:List Str}{c:List (Option Nat)}:sc.names.lookup x=Z .local->sj X sc N c->sj X sc (x::N) (Y::c)
 |got{x:Str}{i:Nat}{N:List Str}{c:List (Option Nat)}:X.N[i]?=Z x->sc.names.lookup x=Z .free->(X.env.kindOf x=Z .cell\/X.env.kindOf x=Z .free)->sj X sc N c->sj X sc (x::N) (Z i::c)
def rK(c:List (Option Nat))(σ:St):St:=c.map λo=>o.bind λ(i:Nat)=>(σ[i]?).join
variable{X:Cx}{sc:Scope}{N:List Str}
def sj.len{c:List (Option Nat)}{σ:St}(h:sj X sc N c):(rK c σ).length=N.length:=by
 unfold rK;rw[gV]
 induction h with
 |nil=>rfl
 |own _ _ g=>simp[g]
 |got _ _ _ _ g=>simp[g]
theorem sj.at{X:Cx}{sc:Scope}{N:List Str}{c:List (Option Nat)}{σ:St}(h:sj X sc N c):∀{j:Nat}{x:Str}{v:V},N[j]?=Z x->(rK c σ)[j]?=Z (Z v) ->
  ∃i:Nat,X.N[i]?=Z x/\σ[i]?=Z (Z v)/\sc.names.lookup x=Z .free/\(X.env.kindOf x=Z .cell\/X.env.kindOf x=Z .free):=by
 induction h with
 |nil=>intro j x v h1;simp at h1
 |own _ _ z =>
  intro j x v h1 h2;cases j with
  |zero=>simp[rK]at h2
  |succ j=>exact z (by simpa using h1) (by simpa [rK]using h2)
 |@got y i N c g1 g2 g3 _ z =>
  intro j x v h1 h2;cases j with
  |zero =>
   have e:=by simpa using h1
   subst e;refine(i,g1,?_,g2,g3);have g:=by simpa [rK]using h2
   cases q:σ[i]? with
   |none=>rw[q]at g;cases g
   |some o =>
    rw[q]at g
    have:o=Z v:=g
    rw[this]
  |succ j=>exact z (by simpa using h1) (by simpa [rK]using h2)
def blk(X:Cx)(N':List Str)(sc:Scope)(cl:List (Str×J))(C:J)(s₂:ϋ)(H₂:Hp)(fp:List J):Cx :=
 {X with N:=N',s₀:=s₂,H₀:=H₂,env:=compEnvC sc cl C X.env,outer:=X.stack,ex:=fp,fn:=λ_=>ϊ,pn:=[],xe:=λ_ _=>False}
def PTs(X:Cx)(ifs:List EQ)(t:TT):Prop :=
 ∀(gd:List (J×Obj))(s:ϋ)(σ:St)(H:Hp)(Q:Bool->Hp->Prop),Inv X gd σ H s->t σ H Q ->
  XV X (forIn ifs O λc r=>if r=O then do let ok <- isTrue c X.env (eval c X.env);pure (ForInStep.yield ok)else pure (ForInStep.yield r)) (TP X gd σ Q) X.xe s
def E7:TT:=λ_ H Q=>Q O H
def FI:PTs X [] E7:=λ_ _ _ H _ I h=>wpAny_tests_nil (H,I,h)
def N7{c:EQ}{t:TT}(h:PT X c t):PTs X [c] t:=λgd s σ H Q I q=>wpAny_tests_one (h gd s σ H Q I q)
def Q7(g:TG)(tst:TT)(te:TE)(ah:St)(Q:VK)(ύ:It)(H1:Hp):Prop :=
 ∃W:Nat->Nat->List V->St->Hp->Prop,(∃m,W 0 m [] ah H1)/\∀i m ys z H',W i m ys z H' ->
  (ύ.stop i H'/\ys.length<=ot/\∀D,H' D=Y->Q (.ref D) (upd H' D (.lst ys))) \/
  (ύ.go i H'/\ys.length<ot/\∃N:List V->St->Hp->Prop,(∀K q P,N K q P->∃m',m'<m/\W (i+1) m' K q P)/\∀x P,ύ.yld i H' x P->g x z P λq H3=>tst q H3 λb H4 =>
   if b=O then te q H4 λy H5=>N (ys ++ [y]) q H5 else N ys q H4)
def x3(cap:List (Option Nat))(wi:TI)(g:TG)(tst:TT)(te:TE):TE:=λσ H Q=>wi σ H (Q7 g tst te (rK cap σ) Q)
variable{A:Do}{R:Result->ϋ->Prop}{s:ϋ}{elt:EQ}{iter:EQ}{ifs:List EQ}
def IF{prog:Db}{w:Da}{target:EQ}{it acc:B}(I:Nat->ϋ->Prop)
  (turn:∀n s,I n s->wpAny (model prog w) A (pyNext it) (λr z=>match r with
   |none=>R (.ok .next) z
   |some v=>wpAny (model prog w) A (letOwnedTupleGo target it v) (λ_ q=>wpAny (model prog w) A (assign target env v) (λ_ s₂ =>
     wpAny (model prog w) A (forIn ifs O λc r=>if r=O then do let ok <- isTrue c env (eval c env);pure (ForInStep.yield ok)else pure (ForInStep.yield r)) (λok g =>
      if ok=O then wpAny (model prog w) A (eval elt env) (λx P =>
       wpAny (model prog w) A (call (.builtin "list.append") [acc,x]) (λ_ K=>∃m,m<n/\I m K) (λ_ _=>False) P) (λ_ _=>False) g
      else ∃m,m<n/\I m g) (λ_ _=>False) s₂) (λ_ _=>False) q) (λ_ _=>False) z) (λ_ _=>False) s)
  (n:Nat) (h:I n s):
  codeAny (model prog w) A (.compLoop (.ListComp elt [(target,iter,ifs,0)] scope pos) 0 it acc env) R s:=by
 refine codeAny_loop U I (λn s hI=>?_) n h
 show wpAny _ A ((compTurn (.ListComp elt [(target,iter,ifs,0)] scope pos) 0 it acc env).onRaise (λx=>do noteFrame x env;theTreesLotGoes x)) _ _ s
 refine wpAny_noted ?_;rw[compTurn_list];refine fH (wpAny_standAt (fH (E3 (turn n s hI) (λr z V=>?_) λ_ _ h'=>h'.elim)))
 cases r with
 |none=>exact u7 V
 |some v =>
  refine fH (E3 V (λ_ q ah=>(fH (E3 ah (λ_ s₂ aw=>fH (E3 aw (λok g Q=>?_) λ_ _ h'=>h'.elim)) λ_ _ h'=>h'.elim))) λ_ _ h'=>h'.elim)
  cases ok with
  |false=>exact u7 (U,Q)
  |true =>
   exact fH (fH (E3 Q (λx P au=>fH (E3 au (λ_ K ak=>u7 (u7 (U,ak))) λ_ _ h'=>h'.elim)) λ_ _ h'=>h'.elim))
variable{gd:List (J×Obj)}{H:Hp}{tg:EQ}{N':List Str}{cap:List (Option Nat)}{wi:TI}{tst:TT}{te:TE}
def Cm{σ:St}{Q:VK}{g:TG}{use:Option (B->Sem Unit)}{Q':B->ϋ->Prop}
  (hc:X.calm=O) (hi:PI X tg iter wi) (kH:sc.kind=.function) (kI:∀y∈sc.names,y.2 ≠ .cell) (lF:∀y∈sc.names,y.2=.local->sc.names.lookup y.1=Z .local)
  (lU:∀y∈sc.names,y.2=.free->X.env.kindOf y.1=Z .cell\/X.env.kindOf y.1=Z .free) (xJ:sj X sc N' cap)
  (P:∀cl C s₂ H₂ fp,PG (blk X N' sc cl C s₂ H₂ fp) tg g/\PTs (blk X N' sc cl C s₂ H₂ fp) ifs tst/\PE (blk X N' sc cl C s₂ H₂ fp) elt te)
  (I:Inv X gd σ H s) (h:x3 cap wi g tst te σ H Q)
  (fin:∀D C m H' s',Inv X gd σ H' s'->xW X gd H' C->s'.heap.Ns C m->Q (.ref D) H'->compPost (model X.prog X.w) X.A X.xe use Q' (.ref D) C (.ok .next) s')
  (hs:∀x,foldedSetIterable iter X.env x=pure x):
  XV X (comprehension (.ListComp elt [(tg,iter,ifs,0)] sc pos) sc X.env p (newList []) ϊ (eval iter X.env) use) Q' X.xe s:=by
 let(cl,WW,B9,WX):=EG (scope:=sc) (env:=X.env) λq hq e=>I.ok.has q.1 (lU q hq e)
 refine wpAny_comprehension_free U hs WW kH lF (thn (hi gd s σ H _ I h) λv s1 h1=>thn h1 λcT s2 h2=>?_)
 let(it,fp,tn,ύ,H2,e,I2,T,aL,f2,W,(m0,w0),turn):=h2;subst e;refine Zf (wpAny_newFunctionEnv kI (by intro y hy;simp at hy) (λaw O9 LI=>?_) kH)
 dsimp only at O9 LI ⊢
 generalize a6:s2.heap.push {cls:=.type "list",dict:=Y,data:=.seq ([]:List B).toArray}=HP at O9 LI ⊢
 have hC:HP.objs.size=s2.heap.objs.size+1:=by rw[<- a6,Yj]
 obtain⟨D,ah⟩:∃D:Nat,s2.heap.objs.size=D:=(_,U)
 obtain⟨C,cF⟩:∃C:Nat,HP.objs.size=C:=(_,U)
 rw[ah]at hC;rw[cF]at hC O9 LI ⊢;rw[ah];have DC:D<C:=hC▸YQ D;have aX:∀{b:Nat}{o:Obj},s2.heap.get? b=Z o->b<D:=λe=>ah▸Qh e
 have a5:∀{b:Nat}{o:Obj},s2.heap.get? b=Z o->b<C:=λe=>Zj (aX e) DC
 have a0:@Ne J D C:=qR DC;have old:∀b o,s2.heap.get? b=Z o->aw.get? b=Z o:=λb o e =>
  LI.extBut b o (qR (a5 e)) (iP _ (a6▸iP _ e))
 have Ex:aw.get? D=Z {cls:=.type "list",data:=.seq ([]:List B).toArray 0} :=
  LI.extBut _ _ a0 (iP _ (by rw[<- a6,<- ah];exact u3 _ U))
 have bC:(blk X N' sc cl C s2 H2 fp).Ok:=by
  refine(I.ok.mod,kH,I.ok.glob,I.ok.blt,(by show s2.heap.objs.size<=C;rw[ah];exact wh DC),λx y c h1 h2=>I.ok.inj x y c (B9 x c h1) (B9 y c h2),λx hx=>?_,λx c hx=>(nomatch hx),I.ok.hd,I.ok.frames,.inl U,λb P=>?_,
   λb o e=>I2.bs b o e,u4 I2.ok.bsz I2.sz,λb o e P=>?_,λb P=>?_,I2.stack,I2.nJ)
  ·have cg:sc.names.lookup x=Z .free:=by
    obtain hx|hx:=hx
    ·obtain z|z:=j4 hx
     ·exact absurd U (kI _ (PySem.mem_of_lookup z))
     ·exact z.1
    ·obtain z|z:=j4 hx
     ·exact z
     ·exact z.1
   exact WX x (PySem.mem_of_lookup cg)
  ·let(o,ho,_):=T.obj _ _ aL b P;refine(?_,λx c e=>(f2 b P).2.2.2.2.1 x c (B9 x c e))
   show @Ne J b C;exact qR (a5 ho)
  ·let(_,_,_,z,_):=f2 b P;obtain z|z:=z
   ·exact I2.ok.D8 b o e z
   ·exact absurd (wa (Qh (show X.base.get? b=Z o from e)) (u4 I2.ok.bsz z)) (EW _)
  ·intro cx;obtain z|z:=fx.mp (I2.sy b cx)
   ·exact(f2 b P).2.1 z
   ·exact(f2 b P).2.2.1 z
 have nD:H2 D=none:=I2.hok.fresh (by rw[ah];exact oa _)
 have bW:=P cl C s2 H2 fp
 generalize V:blk X N' sc cl C s2 H2 fp=XB at bC bW
 have eP:XB.prog=X.prog:=by rw[<- V];rfl
 have eW:XB.w=X.w:=by rw[<- V];rfl
 have eK:XB.K=X.K:=by rw[<- V];rfl
 have eA:XB.A=X.A:=by rw[<- V];rfl
 have eE:XB.env=compEnvC sc cl C X.env:=by rw[<- V];rfl
 have eX:XB.xe=λ_ _=>False:=by rw[<- V];rfl
 have a3:XB.fs=frs X.stack:=by rw[<- V];rfl
 have bj:XB.ex=fp:=by rw[<- V];rfl
 have eS:XB.s₀=s2:=by rw[<- V];rfl
 have eH:XB.H₀=H2:=by rw[<- V];rfl
 have bf:XB.pn=[]:=by rw[<- V];rfl
 have b8:XB.calm=true:=by rw[<- V];exact hc
 have eN:XB.N=N':=by rw[<- V];rfl
 have eL:XB.env.locals=C:=by rw[eE];rfl
 have aD:XB.env.cells=cl:=by rw[eE];rfl
 have Yv:∀(x:Str)(c:Nat),cl.lookup x=Z c->c<D:=λx c e=>by
  let(v,z):=I2.cell x c (B9 x c e);exact ah▸GC z
 have b9:∀(b:Nat),D<=b->b ∉ XB.fs:=λb P z=>by
  rw[a3]at z;let(_,o,ho,_):=I2.stack.mem z;exact EW _ (wa (aX ho) P)
 have bb:∀(b:Nat),b∈fp->b<D:=λb P=>by
  let(o,ho,_):=T.obj _ _ aL b P;exact aX ho
 have loop:∀s3:ϋ,s3={s2 with heap:=aw,toks:=s2.toks+([]:List (Str×B)).length} ->
   codeAny (model X.prog X.w) X.A (.compLoop (.ListComp elt [(tg,iter,ifs,0)] sc pos) 0 (.ref it) (.ref D) (compEnvC sc cl C X.env)) (compPost (model X.prog X.w) X.A X.xe use Q' (.ref D) C) s3:=by
  rintro s3 rfl
  refine IF (λn s'=>∃i ys bx H' its k,Inv XB [] bx H' s'/\tn i s'.heap/\(∀b∈fp,H' b=Y)/\H' D=Y/\s'.heap.get? D=Z {cls:=.type "list",data:=.seq (its:List B).toArray k}/\Vals ys its/\W i n ys bx H') ?_ m0
   (0,[],rK cap σ,H2,[],0,?_,T.keep _ _ _ aL λb P o e=>old b o e,λb P=>(f2 b P).1,nD,Ex,.nil,w0)
  ·rintro n s4 ⟨i,ys,au,H4,its,k,I4,bA,b4,d4,o4,v4,w4⟩
   have a9:∀{H':Hp}{pl:List (J×Obj)},(∀b∈fp,H' b=Y)->(∀q∈pl,q.1 ∉ fp)->∀b∈fp,xW XB pl H' b:=λ{H' pl} hn cm b P=>by
    refine(hn b P,?_,?_,.inl (by rw[bj];exact P),λx c e=>?_,λq hq=>?_)
    ·rw[eL];exact qR (Zj (bb b P) DC)
    ·rw[a3];intro z;obtain z|z:=fx.mp (I2.sy b z)
     ·exact(f2 b P).2.1 z
     ·exact(f2 b P).2.2.1 z
    ·rw[aD]at e;exact(f2 b P).2.2.2.2.1 x c (B9 x c e)
    ·rw[bf]at hq;intro z;exact cm q (by simpa using hq) (z▸P)
   have pD:∀q ∈ [(Prod.mk D ({cls:=.type "list",data:=.seq its.toArray k}:Obj))],q.1 ∉ fp:=λq hq=>by
    have e:q=_:=aB.mp hq;subst e;intro z;exact EW _ (bb _ z)
   have bp:Inv XB [(D,{cls:=.type "list",data:=.seq its.toArray k})] au H4 s4:=I4.qK λq hq=>by
    have e:q=_:=aB.mp hq;subst e;refine(o4,d4,?_,b9 _ (oa _),λv=>by simp)
    rw[eL];exact a0
   have YN:=bp;rw[<- eA,<- eP,<- eW];obtain⟨stop,hz,qn⟩|⟨go,hz,N,hN,step⟩:=turn i n ys au H4 w4
   ·rw[<- eP,<- eW,<- eK]at T;refine E3 (T.done XB U U U b8 i _ s4 au H4 (λ_ _=>False) bp (a9 b4 pD) bA stop) (λr s5 (hr,I5)=>?_) λ_ _ z=>z
    subst hr;rw[eP,eW,eA];let(o5,n5,_):=I5.pin (D,{cls:=.type "list",data:=.seq its.toArray k}) (lO _ (aB.mpr U));have u5:Un (frs X.stack) fp H2 H4 s2.heap s5.heap:=by
     have z:=I5.base;rw[a3,bj,eH,eS]at z;exact z
    have cb:∀b o,s2.heap.get? b=Z o->@Ne J b D:=λb o e=>qR (aX e)
    have ne5:∀b u,H4 b=Z u->b≠D:=λb u e z=>by rw[z,d4]at e;cases e
    have cq:HOk X.prog X.w H4 s5.heap:=by
     have z:=I5.hok;rw[eP,eW]at z;exact z
    have Ys:=fin D C;let(mC,b0,_):=id I5.loc;rw[eL]at b0;have IX:Inv X gd σ (upd H4 D (.lst ys)) s5:=by
     refine I2.Cs (s':=s5) (ch:=fp) ?_ (u5.keep,u5.slot,λb o e n hx=>?_,u5.there,λb xs e=>?_,λb o u e=>?_,λb ps e=>?_) ?_ I5.bare λb P=>((f2 b P).2.2.2.1,(f2 b P).2.1,(f2 b P).2.2.2.2.1,(f2 b P).2.2.2.2.2)
     ·have z:=I5.os;rw[eS]at z;exact z
     ·rw[ax (cb b o e)];exact u5.free b o e n hx
     ·have z:=u5.sk b xs e;rw[ax (ne5 b _ z)];exact z
     ·have z:=u5.pN b o u e;rw[ax (ne5 b _ z)];exact z
     ·let(more,z):=u5.sr b ps e;exact(more,by rw[ax (ne5 b _ z)];exact z)
     ·intro a o e;by_cases ha:a=D
      ·subst ha;rw[aC]at e;cases e;exact(hz,its,k,v4,o5)
      ·rw[ax ha]at e;exact(cq a o e).eC (λ_ _ _ q=>q) (λb q=>by rw[ax (ne5 b _ q)];exact q) λb xs q=>by rw[ax (ne5 b _ q)];exact q
    refine Ys mC _ s5 IX ?_ b0 (qn D d4);have cK:H4 C=none:=by
     have z:=I5.free;rw[eL]at z;exact z
    refine(by rw[ax (Ne.symm a0)];exact cK,?_,?_,.inr ?_,λx c e=>?_,λq hq=>?_)
    ·have:@LT.lt Nat _ X.env.locals s2.heap.objs.size:=I2.lt
     exact Wg (Zj (ah▸this) DC)
    ·exact I2.Wf (by rw[ah];exact wh DC)
    ·exact u4 I2.sz (by rw[ah];exact wh DC)
    ·let(v,z):=I2.cell x c e;exact qR (Zj (ah▸GC z) DC)
    ·exact qR (a5 (I2.pin q hq).1)
   ·have T':=T;rw[<- eP,<- eW,<- eK]at T';refine E3 (T'.item XB U U U b8 i _ s4 au H4 (λ_ _=>False) bp (a9 b4 pD) bA go) (λr s5 (u,hr,h5)=>?_) λ_ _ z=>z
    subst hr;refine thn h5 λ_ s6 ak=>?_
    let(x,H6,I6,r6,y6,a4,cL):=ak;have cN:=I6.pinned (a9 cL pD) (T.obj _ _ a4);let(ct,ck,cu):=bW;rw[<- eE];have bG:=ct _ s6 au H6 x u _ cN r6 (step x H6 y6);rw[eX]at bG;refine thn bG λ_ s7 ak=>?_
    let(aH,H7,I7,q7):=ak;have bD:=ck _ s7 aH H7 _ I7 q7;rw[eX]at bD;refine thn bD λb s8 ak=>?_
    let(H8,I8,q8):=ak;have back:∀{bt:St}{H9:Hp}{s9:ϋ},Inv XB ([(D,{cls:=.type "list",data:=.seq its.toArray k})]++vS fp s6.heap) bt H9 s9->tn (i+1) s9.heap/\(∀b∈fp,H9 b=Y)/\H9 D=Y/\s9.heap.get? D=Z {cls:=.type "list",data:=.seq its.toArray k}:=λ{bt H9 s9} I9=>by
     have z:=I9.pin (D,{cls:=.type "list",data:=.seq its.toArray k}) (lO _ (px _ (aB.mpr U)));refine(T.keep _ _ _ a4 λb P o e=>(I9.pin (b,o) (lO _ (lO _ (jt P e)))).1,λb P=>?_,z.2.1,z.1)
     let(o,e,_):=T.obj _ _ a4 b P;exact(I9.pin (b,o) (lO _ (lO _ (jt P e)))).2.1
    cases b with
    |false =>
     rw[if_neg rZ]at q8 ⊢;let(m',hm,w8):=hN _ _ _ q8;let(t1,t2,t3,t4):=back I8;exact(m',hm,i+1,ys,aH,H8,its,k,I8.qK (λq hq=>nomatch hq),t1,t2,t3,t4,v4,w8)
    |true =>
     rw[if_pos rfl]at q8 ⊢;have bV:=cu _ s8 aH H8 _ I8 q8;rw[eX]at bV;refine thn bV λyv s9 ak=>?_
     let(y,H9,I9,r9,n9):=ak;let(m',hm,w9):=hN _ _ _ n9;let(t1,t2,t3,t4):=back I9;have hsz:its.toArray.size<=ot:=by
      have e:=v4.length;have e2:its.toArray.size=its.length:=by simp
      omega
     refine append_at (hsz:=hsz) t4 λh' bE cE=>?_
     ·refine(m',hm,i+1,ys ++ [y],aH,H9,its ++ [yv],k+1,?_,T.keep _ _ _ t1 λb P o e=>bE.extBut b o (qR (bb b P)) e,t2,t3,?_,v4.append (.cons r9 .nil),w9)
      ·refine(I9.qK (pins':=[]) (λq hq=>nomatch hq)).turned (t':=s9.toks) (it:=D) (λb o P e=>bE.extBut b o P e) t3 ?_ (.inr ?_) (λx c e=>?_) λq hq=>?_
       ·rw[eL];exact a0
       ·rw[eS,ah];exact oa _
       ·rw[aD]at e;exact qR (Yv x c e)
       ·rw[bf]at hq;exact nomatch hq
      ·rw[cE];simp
  ·
   refine(bC,by rw[eS],I2.bare,by rw[a3,bj,eH,eS];exact Un.kept old,(_,by rw[eL];exact O9,λj x v h1 h2 h3=>?_),λx c e=>?_,?_,λx c e=>?_,λq hq=>?_,by rw[eP,eW];exact I2.hok.kept old,by rw[eN];exact xJ.len)
   ·rw[eN]at h1;let(i,g1,g2,g3,g4):=xJ.at h1 h2;let(m,hn,hl):=I2.loc;have hv:Vis X.env.scope x:=by
     obtain z|z:=g4
     ·exact .inr (.inl z)
     ·exact .inr (.inr z)
    let(u,r,l):=hl i x v g1 g2 hv;refine(u,r,.inr (?_,?_))
    ·rw[eE];exact(qy g3).symm
    ·obtain⟨hk,_⟩|⟨_,c,e,z⟩:=l
     ·obtain y|y:=g4
      ·rw[y]at hk;cases hk
      ·rw[y]at hk;cases hk
     ·let(c',e'):=WX x (PySem.mem_of_lookup g3)
      have:=B9 x c' e'
      rw[e]at this;cases this;let(o,ho,hd):=z;exact(c,by rw[aD];exact e',o,old c o ho,hd)
   ·rw[aD]at e;let(v,o,ho,hd):=I2.cell x c (B9 x c e);exact(v,o,old c o ho,hd)
   ·rw[eL];exact I2.hok.fresh (by rw[ah];exact wh DC)
   ·rw[aD]at e;exact I2.iN x c (B9 x c e)
   ·rw[bf]at hq;exact nomatch hq
 exact codeAny_compStart_list (loop _ U) (T.self X.A 0 _ _ _ (T.keep _ _ _ aL λb P o e=>old b o e) (loop _ U))
def Gp(h:(sc.names.all λy=>y.2 != .free ||(X.env.kindOf y.1==Z .cell||X.env.kindOf y.1==Z .free))=O):
  ∀y∈sc.names,y.2=.free->X.env.kindOf y.1=Z .cell\/X.env.kindOf y.1=Z .free:=λy g e=>by
 have z:=Av.mp h y g;rw[e]at z;simpa using z
def FU{pos:Pos}{g:TG}
  (hc:X.calm=O) (hi:PI X tg iter wi) (V:sj X sc N' cap)
  (P:∀cl C s₂ H₂ fp,PG (blk X N' sc cl C s₂ H₂ fp) tg g/\PTs (blk X N' sc cl C s₂ H₂ fp) ifs tst/\PE (blk X N' sc cl C s₂ H₂ fp) elt te)
  (kH:‹sc.kind=.function›) (kI:autoParam (∀y∈sc.names,y.2 ≠ .cell) zdc._auto_1) (lF:autoParam (∀y∈sc.names,y.2=.local->sc.names.lookup y.1=Z .local) zdc._auto_1)
  (lU:‹(sc.names.all λy=>y.2 != .free ||(X.env.kindOf y.1==Z .cell||X.env.kindOf y.1==Z .free))=true›)
  (hs:∀x,foldedSetIterable iter X.env x=pure x:=by intro _;rfl):PE X (.ListComp elt [(tg,iter,ifs,0)] sc pos) (x3 cap wi g tst te):=by
 intro gd s σ H Q I h;exact Cm (use:=Y) hc hi kH kI lF (Gp lU) V P I h (λD C m H' s' I' z hn q=>((m,hn,λh' K=>(.ref D,H',(I'.turned (t':=s'.toks) (it:=C) (λb o P e=>K.extBut b o P e) z.1 z.2.1.symm.symm z.2.2.2.1 z.2.2.2.2.1 z.2.2.2.2.2),U,q)))) hs
variable{i:Nat}
def FL{y:Str}{g:TG}
  (hN:X.N.Nodup) (ah:X.N[i]?=Z y) (hy:Loc X.env.scope y)
  (hc:X.calm=O) (hi:PI X tg iter wi) (xJ:sj X sc N' cap)
  (K:∀cl C s₂ H₂ fp,PG (blk X N' sc cl C s₂ H₂ fp) tg g/\PTs (blk X N' sc cl C s₂ H₂ fp) ifs tst/\PE (blk X N' sc cl C s₂ H₂ fp) elt te)
  (Q:‹swapsWith (.ListComp elt [(tg,iter,ifs,0)] sc pos) (Z (.Name y py)) gh.line X.env=pure true›)
  (hf:AT X y:=by first|exact .inl rfl|exact .inr rfl|assumption)
  (kH:‹sc.kind=.function›) (kI:autoParam (∀y∈sc.names,y.2 ≠ .cell) zdc._auto_1) (lF:autoParam (∀y∈sc.names,y.2=.local->sc.names.lookup y.1=Z .local) zdc._auto_1)
  (lU:‹(sc.names.all λy=>y.2 != .free ||(X.env.kindOf y.1==Z .cell||X.env.kindOf y.1==Z .free))=true›)
  (hs:∀x,foldedSetIterable iter X.env x=pure x:=by intro _;rfl):PS X (.Assign [.Name y py] (.ListComp elt [(tg,iter,ifs,0)] sc pos) gh) (uM (x3 cap wi g tst te) (jF i)):=by
 intro gd s σ H Dn I h;rw[exec_Assign_Name_used _ _ _ _ Q];refine fH (wpAny_standAt (fH ?_));refine fH (E3 (Cm hc hi kH kI lF (Gp lU) xJ K I h (λD C m H' s' I' P hn q=>?_) hs)
  (λ_ s' hq=>u7 (u7 hq)) λ_ _ e=>e)
 let(o,es,ep,ho,hd,hr):=id hn;have I2:=I'.pinned (λb K=>by rw[aB.mp K];exact P) λb K=>by
  rw[aB.mp K];exact(o,ho,λv=>by rw[hd];simp)
 refine wpAny_assign_Name (ki I2 hN ah hy (v:=.ref D) U (λs2 I3=>?_) hf)
 have z:=(I3.pin (C,o) (lO _ (lO _ (jt (aB.mpr U) ho)))).1;refine(m,(o,es,ep,z,hd,hr),λh' V=>(_,H',?_,q))
 exact I3.p6.turned (λb o K e=>V.extBut b o K e) P.1 P.2.1 P.2.2.2.1 P.2.2.2.2.1 P.2.2.2.2.2
variable{a:J}{xs:List V}{P:Db}{it:J}{n:Nat}{Q:B->ϋ->Prop}{E:B->ϋ->Prop}
section
theorem yt{K:BT}{g:TG}{σ:St}{Q:VK}(Pv:Nat->List V->St->Hp->Prop)(h0:Pv 0 [] σ H)
  (hl:∀i ys σ H,i<=xs.length->Pv i ys σ H->SqL K H a xs/\ys.length<ot)
  (hs:∀i x ys σ H,xs[i]?=Z x->Pv i ys σ H->g x σ H λz H3=>tst z H3 λb H4=>if b=O then te z H4 λy H5=>Pv (i+1) (ys ++ [y]) z H5 else Pv (i+1) ys z H4)
  (hd:∀ys σ H,Pv xs.length ys σ H->∀D,H D=Y->Q (.ref D) (upd H D (.lst ys))):
  Q7 g tst te σ Q (Itl K a) H:=by
 refine(λi m ys σ H=>m=xs.length - i/\i<=xs.length/\Pv i ys σ H,(xs.length,by simp,Je _,h0),?_)
 rintro i m ys σ H ⟨rfl,hi,p⟩
 let(q,hz):=hl i ys σ H hi p;by_cases P:i<xs.length
 ·refine .inr ((xs,xs[i],q,by simp[P]),hz,Pv (i+1),λak ah H' p'=>(xs.length - (i+1),by lia,U,P,p'),λx H' y=>?_)
  let(e,y):=y;subst e;exact hs i x ys σ _ (y xs q) p
 ·have e:i=xs.length:=by omega
  subst e;exact .inl ((xs,q,oa _),wh hz,hd ys σ H p)
theorem xo{w:Da}{K:BT}{ύ:It}{Pv:Nat->B->Prop}{St:Nat->Ev->Prop}
  (W:∀A:Do,A.handled=Y->Walks P w A it [it] [it] n Pv St)
  (Im:∀i h,St i h->∃(o:Obj)(N:String)(vs:Array B),h.get? it=Z o/\o.cls=.type N/\o.data=.fields vs /\
   ["enumerate","zip","dict_itemiterator","dict_reverseitemiterator","odict_iterator","itertools.zip_longest","itertools.pairwise"].contains N=ϊ)
  (WJ:∀(A:Do)(i:Nat)(s:ϋ)(Q:B->ϋ->Prop)(E:B->ϋ->Prop),St i s.heap->Q (.ref it) s->wpAny (model P w) A (pyIter (.ref it)) Q E s)
  (z:∀i H,ύ.go i H->i<n) (WI:∀i H,ύ.stop i H->i=n) (hy:∀i H v,i<n->Pv i v->∃x,RelV x v/\ύ.yld i H x H):Turn P w K tg ύ [it] it St where
 mem:=by simp
 obj:=λi h st b g=>by
  rw[aB.mp g];let(o,N,vs,h1,_,h3,_):=Im i h st;exact(o,h1,λv=>by rw[h3];simp)
 keep:=λi h h' st k=>(W { (callerA:Do)with handled:=Y} rfl).frame i h h' st λb g o e=>k b g o e
 item:=by
  intro X e1 e2 e3 hc i gd s σ H E I hf st go;subst e1 e2 e3;refine(W X.A (I.ok.hd hc)).item i s _ _ (z i H go) st λv h' tk hP q V=>(v,U,?_)
  let(x,rx,yx):=hy i H v (z i H go) hP;let(o,N,vs,h1,h2,h3,h4):=Im _ _ q;let(f1,f2,f3,f4,f5,f6):=hf it (by simp)
  refine Ca (s:={s with heap:=h',toks:=tk}) h1 h2 h3 h4 (x,H,I.turned (t':=tk) (it:=it) (λb o g e=>V b o (by simpa using g) e) f1 f2 f4 f5 f6,rx,yx,q,λb g=>?_)
  rw[aB.mp g];exact f1
 done:=by
  intro X e1 e2 e3 hc i gd s σ H E I hf st stop;subst e1 e2 e3;have e:=WI i H stop;subst e;refine(W X.A (I.ok.hd hc)).done s _ _ st λh' tk V=>(U,?_)
  let(f1,f2,f3,f4,f5,f6):=hf it (by simp)
  exact I.turned (t':=tk) (it:=it) (λb o g e=>V b o (by simpa using g) e) f1 f2 f4 f5 f6
 self:=WJ
def Its(z:Str):It:=(λi _=>i<z.cps.size,λi H x H'=>H'=H/\∃c,z.cps[i]?=Z c/\x=.str ⟨#[c]⟩,λi _=>i=z.cps.size)
def WC(tl:TE):TI:=λσ H R=>tl σ H λx H1=>∃z,x=.str z/\R (Its z) H1
def Hf{w:Da}(g:A.handled=Y)(it:J)(z:Str)(t:Tok):Walks P w A it [it] [it] z.cps.size (SignAt z) (λi h=>h.IsStrIter it (strIterType z) z t i):=by
 unfold strIterType
 split
 ·exact Walks.strAscii g it z t
 ·exact Walks.strWide g it z t
def Jz{w:Da}{z:Str}{t:Tok}(st:s.heap.IsStrIter it (strIterType z) z t i)(q:Q (.ref it) s):wpAny (model P w) A (pyIter (.ref it)) Q E s:=by
 unfold strIterType at st
 split at st
 ·exact wpAny_pyIter_striter_ascii st q
 ·exact wpAny_pyIter_striter_wide st q
theorem Jq{w:Da}{K:BT}(it:J)(z:Str)(t:Tok):Turn P w K tg (Its z) [it] it (λi h=>h.IsStrIter it (strIterType z) z t i) :=
 xo (λA g=>Hf g it z t)
  (λi h st=>by
   let(o,h1,h2,h3):=st;refine(o,_,_,h1,h2,h3,?_);unfold strIterType
   split <;> decide)
  (λA i s Q E st q=>Jz st q) (λi H h=>h) (λi H h=>h) λi H v hi hp=>by
   let(c,u,h1,U):=hp;exact(.str ⟨#[c]⟩,(_,U),U,c,h1,U)
def SQ{l:EQ}{tl:TE}(hl:PE X l tl):PI X tg l (WC tl):=by
 intro gd s σ H R I h;refine thn (hl gd s σ H _ I h) λv s1 g=>?_
 let(x,H1,K,P,Q):=g;let(z,e,q):=Q;subst e;let(t,U):=P;refine wpAny_pyIter_strU ?_;refine(s1.heap.objs.size,[s1.heap.objs.size],_,_,H1,U,K.kept (t':=s1.toks) λb o e=>iP _ e,Jq _ z t,(_,u3 _ U,U,U),λb V=>?_,q)
 have e:b=s1.heap.objs.size:=by simpa using V
 subst e;exact K.Iw (oa _) (K.hok.fresh (oa _))
inductive Vl(x:V)(lo:Option Int)(hi:Option Int)(H:Hp)(Q:VK):Prop
 |mk(z:_)(h1:x=.str z)(h2:z.length<=ot)(h3:Q (.str (Txt.slice z lo hi)) H)
def RD:SlR X Vl:=by
 intro gd s σ H x v vl vu lo hi sl Q I V hs pl pu h;let(z,U,g,q):=h;let(t,U):=V;refine("str",_,PySem.F.slot_str_getitem.lookup,typeIs_str s z t,?_);let(o,h1,h2,h3):=hs;have fin:∀y t' k,y=Txt.slice z lo hi->EP X gd σ Q (.str y t') {s with toks:=k}:=λy t' k e=>by subst e;exact(.str _,H,I.tok k,(_,U),q)
 cases pl with
 |none =>
  cases pu with
  |none=>exact wpAny_getItem_str_slice (l:=Y) (u:=Y) (st:=Y) (o,h1,h2,h3) U (post_val_or_str (u4 (Txt.slice_le z _ _) g,λt' k=>fin _ t' k U))
  |int j K=>exact wpAny_getItem_str_slice (l:=Y) (u:=Z (j,K)) (st:=Y) (o,h1,h2,h3) U (post_val_or_str (u4 (Txt.slice_le z _ _) g,λt' k=>fin _ t' k U))
 |int i P =>
  cases pu with
  |none=>exact wpAny_getItem_str_slice (l:=Z (i,P)) (u:=Y) (st:=Y) (o,h1,h2,h3) U (post_val_or_str (u4 (Txt.slice_le z _ _) g,λt' k=>fin _ t' k U))
  |int j K=>exact wpAny_getItem_str_slice (l:=Z (i,P)) (u:=Z (j,K)) (st:=Y) (o,h1,h2,h3) U (post_val_or_str (u4 (Txt.slice_le z _ _) g,λt' k=>fin _ t' k U))
def Dj{ys:List Str}:∀{us:List B},Vals (ys.map V.str) us->StrsAre us ys:=by
 induction ys with
 |nil=>intro us r;cases r;exact .nil
 |cons n ns z =>
  intro us r;cases r with
  |cons q g =>
   let(t,e):=q;subst e;exact .cons n t (z g)
inductive rJoin(K:BT)(x:V)(xs:List V)(H:Hp)(Q:VK):Prop
 |mk(sep l ys:_)(h1:x=.str sep)(h2:xs=[.ref l])(h3:SqL K H l (ys.map V.str))(h4:(ys.map (·.length)).sum+ys.length*sep.length<=16777216)(h5:Q (.str (Txt.join sep ys)) H)
def F9:MtR X "str.join" (rJoin X.K):=by
 intro gd s σ H x xs v us Q I g rs h;let(sep,l,ys,U,U,hl,hw,q):=h;let(t,U):=g;let(u,U,ru):=Vals.one rs;cases ru;let(its,r,pl,z):=I.list hl;exact join_list pl.isList (by simpa using Dj r) hw λt' k=>(.str _,H,I.tok k,(_,U),q)
def E5{bs:List Bool}:∀{us:List B}{i:Nat}{v:B},Vals (bs.map V.bl) us->us[i]?=Z v->∃b,bs[i]?=Z b/\v=.bool b:=by
 induction bs with
 |nil=>intro us i v r h;cases r;simp at h
 |cons b bs z =>
  intro us i v r h;cases r with
  |cons q g =>
   cases i with
   |zero =>
    simp only[List.getElem?_cons_zero,Option.some.injEq]at h;subst h;exact(b,by simp,q)
   |succ i =>
    let(c,h1,h2):=z g (by simpa using h)
    exact(c,by simpa using h1,h2)
def all_range(bs:List Bool):(Ww bs.length).all (λi=>bs.getD i ϊ)=bs.all id:=by
 have e:(Ww bs.length).map (λi=>bs.getD i ϊ)=bs:=by
  apply Zx
  ·simp
  ·intro i h1 h2;simp at h1;simp[h1]
 conv=>rhs;rw[<- e]
 rw[ZL];rfl
def Mz(hc:X.calm=O):de X (.builtin "all") (λxs H Q=>∃(l:J)(bs:List Bool),xs=[.ref l]/\SqL X.K H l (bs.map V.bl)/\Q (.bl (bs.all id)) H):=by
 intro gd s σ H xs us Q I r h;let(l,bs,U,hl,q):=h;let(u,U,ru):=vals1 r;cases ru;let(its,z,pl,hz):=I.list hl;have g:l<s.heap.objs.size:=by let(_,e,_):=pl.isList;exact uY e
 have hlen:its.toArray.size=bs.length:=by
  have e:=z.length;rw[gV]at e;simp[e]
 refine call_all_walk (wpAny_pyIter_list pl.isList ((s.heap.objs.size,[s.heap.objs.size,l],[s.heap.objs.size],its.toArray.size,_,_,λi=>bs.getD i ϊ,U,Walks.list (show X.A.in1.handled=Y from I.ok.hd hc) s.heap.objs.size l (Aw g) its.toArray,((_,u3 _ U,U,U),pl.isList.push _),?_,λh' tk hk=>?_)))
 ·intro i v s' Q' E' hP P;let(b,h1,U):=E5 z (by simpa using hP)
  have e:bs.getD i ϊ=b:=by simp[h1]
  exact wpAny_truthy_bool (e▸P)
 ·refine(.bl _,H,I.kept λb o e=>hk b o (by simpa using Aw (uY e)) (iP _ e),U,?_)
  rw[hlen,all_range];exact q
theorem Mx:de X (.builtin "isinstance") (λxs H Q=>∃x T t b,xs=[x,.ty T]/\oq X.K H x t/\W.kitOne X.K t (.type T)=Z b/\Q (.bl b) H):=by
 intro gd s σ H xs us Q I r h;let(x,T,t,b,U,ty,e,q):=h;let(u,z,U,ru,g):=vals2 r;cases g;exact Ih I ru ty e λtk=>(.bl b,H,I.tok tk,U,q)
end
variable{I:J}{fp:List J}{ty:String}
section
variable{prog:Db}{w:Da}
def HL:typeLookup (.type "list_reverseiterator") "__len__"=pure none:=by kernel_rfl
def LJ:typeLookup (.type "list_reverseiterator") "__length_hint__"=pure (Z (.builtin "list_reverseiterator.__length_hint__")):=by kernel_rfl
def Lp{Q:Bool->ϋ->Prop}(hT:s.TypeIs (.ref I) "list_reverseiterator")(z:∀b tk,s.toks<=tk->Q b {s with toks:=tk}):wpAny (model prog w) A (Builtin.List.listLengthHint (.ref I)) Q E s:=by
 refine fH (Z7 hT HL ?_);refine fH (Z7 hT LJ ?_)
 generalize g:("list_reverseiterator.__length_hint__")=q
 wp_delta
 rw[show splitId q=Z ("list_reverseiterator","__length_hint__")from by subst g;decide +kernel]
 subst g;refine fH (wpAny_isInstance (b:=O) hT (by kernel_rfl) ?_)
 exact u7 (z _ _ (oa _))
theorem Cg{R:Result->ϋ->Prop}{wr:List J}{P:Nat->B->Prop}{St:Nat->Ev->Prop}(W:Walks prog w A.in1 I fp wr n P St)(hT:∀i (s:ϋ),St i s.heap->s.TypeIs (.ref I) ty)
  (aw:(B.type ty == .type "list" || Value.type ty == .type "tuple")=ϊ) (au:∀x ∈ ["set","frozenset","dict","dict_keys","dict_values","dict_items"],(B.type ty == .type x)=ϊ)
  (hint:∀(s:ϋ)(Q:Bool->ϋ->Prop)(E:B->ϋ->Prop),St 0 s.heap->(∀b tk,s.toks<=tk->Q b {s with toks:=tk})->wpAny (model prog w) A.in1 (Builtin.List.listLengthHint (.ref I)) Q E s)
  (S:J) (res:B) (c₀:Nat) (q:St 0 s.heap) (ah:S ∉ fp) (hI:I∈fp) (hS:s.heap.get? S=Z {cls:=.type "list",data:=.seq #[] c₀})
  (hR:∀s' uU K,Moved (S::wr) (λg g'=>g'=g) s s'->s'.heap.get? S=Z {cls:=.type "list",dict:=Y,data:=.seq uU K,slots:=#[]}->ItemsOf P uU n->R (.ok (.ret res)) s') (hn:n<=ot):
  wpAny (model prog w) A.in1 (Builtin.List.listExtendWith (.ref S) (.ref I) res)
   (λfin s'=>match fin with|.done f=>R (.ok f) s' |.again K=>K.quiet=O/\codeAny (model prog w) A K R s') (λe s'=>R (.error e) s') s:=by
 have aD:S≠I:=λe=>ah (e▸hI)
 have h1:Builtin.List.listSameRef (.ref S) (.ref I)=false:=by simp[Builtin.List.listSameRef,aD]
 refine fH (ZM (hT 0 _ q) ?_);rw[if_neg (by rw[Bool.or_assoc,h1,aw];decide)]
 refine fH (W.self 0 _ _ _ q (fH (Zc (hint _ _ _ q λb tk htk=>?_))))
 have tail:∀h' tk' c,s.toks<=tk'->(∀b o,b≠S->s.heap.get? b=Z o->h'.get? b=Z o)->h'.get? S=Z {cls:=.type "list",dict:=Y,data:=.seq #[] c,slots:=#[]} ->
   wpAny (model prog w) A.in1 (again (.builtin "list.extend.loop" ([.ref S,.ref I,res],[]))) (λfin s'=>match fin with|.done f=>R (.ok f) s' |.again K=>K.quiet=O/\codeAny (model prog w) A K R s') (λe s'=>R (.error e) s') {s with heap:=h',toks:=tk'}:=by
  intro h' tk' c ht hk aL;exact u7 (plainId_quiet F.plain_extend_loop _,codeAny_extend_loopS W.toS hn _ ah _ n 0 _ _ _ U (Je _) (W.frame 0 s.heap _ q λb V o e=>hk b o (λz=>ah (z▸V)) e) aL (ItemsOf.nil P) λs' uU K hm Yr Ex=>hR s' uU K (λb o V e=>hm.heap b o V (hk b o (λz=>V (by rw[z];exact di)) e),hm.gens,hm.drawn,hm.os,u4 ht hm.toks) Yr Ex)
 cases b with
 |false =>
  rw[if_neg ?_]
  ·exact tail _ _ _ htk (λ_ _ _ e=>e) hS
  ·intro z;rw[Bool.false_or,ZU]at z;let(x,hx,hz):=z;rw[au x hx]at hz;cases hz
 |true =>
  refine fH (Z4 (fH ?_));refine fH (Z8 hS U ?_);have ak:=EV (Zq (·.push B.none)) hS U;refine Z8 ak U ?_;have aH:=EV (Zq (·.pop)) ak U;exact tail _ _ _ htk (λb o V e=>(B5 _ _ (Ne.symm V)).trans ((B5 _ _ (Ne.symm V)).trans e)) aH
theorem wY{wr:List J}{P:Nat->B->Prop}{St:Nat->Ev->Prop}(W:Walks prog w A.in1.in1 I fp wr n P St)(hT:∀i (s:ϋ),St i s.heap->s.TypeIs (.ref I) ty)
  (au:(B.type ty == .type "list" || Value.type ty == .type "tuple")=ϊ) (ak:∀x ∈ ["set","frozenset","dict","dict_keys","dict_values","dict_items"],(B.type ty == .type x)=ϊ)
  (hint:∀(s:ϋ)(Q:Bool->ϋ->Prop)(E:B->ϋ->Prop),St 0 s.heap->(∀b tk,s.toks<=tk->Q b {s with toks:=tk})->wpAny (model prog w) A.in1.in1 (Builtin.List.listLengthHint (.ref I)) Q E s)
  (aw:St 0 s.heap) (aD:∀b∈fp,b<s.heap.objs.size) (hI:I∈fp)
  (hQ:∀s' uU c',Moved (s.heap.objs.size::wr) (λg g'=>g'=g) {s with heap:=s.heap.push {cls:=.type "list",data:=.seq #[]}} s' ->
   s'.heap.get? s.heap.objs.size=Z {cls:=.type "list",dict:=Y,data:=.seq uU c',slots:=#[]}->ItemsOf P uU n->Q (.ref s.heap.objs.size) s') (hn:n<=ot):
  wpAny (model prog w) A (call (.type "list") [.ref I]) Q E s:=by
 have ah:=λhm=>EW _ (aD _ hm)
 refine callType_codes (Q₁:=λobj q=>obj=.ref s.heap.objs.size/\q={s with heap:=s.heap.push {cls:=.type "list",data:=.seq #[]}}) F.called_list (F.typeCall_list_1 _) F.entry_list_init (code_list_new _ (U,U)) λobj q V=>?_
 let(U,U):=V;have hS:(s.heap.push {cls:=.type "list",data:=.seq #[]}).get? s.heap.objs.size=Z {cls:=.type "list",data:=.seq #[]}:=u3 _ U;refine((_,hS,U),F.args_list_init_2 _ _,?_);refine fH ?_;refine fH (wpAny_seqItems hS U (u7 ?_));refine fH (Z8 hS U ?_);have aH:=EV (Zq (λ_=>(#[]))) hS U
 have oth:∀b o,b≠s.heap.objs.size->(s.heap.push {cls:=.type "list",data:=.seq #[]}).get? b=Z o->((s.heap.push {cls:=.type "list",data:=.seq #[]}).update s.heap.objs.size (Zq (λ_=>(#[])))).get? b=Z o :=
  λb o K e=>(B5 _ _ (Ne.symm K)).trans e
 exact Cg (hn:=hn) W hT au ak hint s.heap.objs.size .none _ (W.frame 0 s.heap _ aw λb K o e=>oth b o (λz=>ah (z▸K)) (iP _ e)) ah hI aH λs' uU c' hm aL Ex=>((U,hQ s' uU c' (λb o K e=>hm.heap b o K (oth b o (λz=>K (by rw[z];exact di)) e),hm.gens,hm.drawn,hm.os,hm.toks) aL Ex))
end
def Jv(K:BT)(te:TE):TE:=λσ H Q=>te σ H λx H1=>∃l ys,x=.ref l/\SqL K H1 l ys/\∀q,H1 q=Y->Q (.ref q) (upd H1 q (.lst ys.reverse))
variable{ys:List V}
def Jk{its:Array B}{acc:Array B}(r:Vals ys its.toList)(h:ItemsOf (λi v=>its[its.size - 1 - i]?=Z v) acc its.size):Vals ys.reverse acc.toList:=by
 have e:acc.toList=its.toList.reverse:=by
  apply List.ext_getElem?
  intro i;by_cases hi:i<its.size
  ·have h1:i<acc.size:=by rw[h.1];exact hi
   have h2:=h.2 i acc[i] (by simp[h1])
   rw[aa0 (by simpa using hi)]
   simp only[Y4,Zw];rw[h2];simp[h1]
  ·have h1:¬ i<acc.size:=by rw[h.1];exact hi
   rw[Zd (by simpa using h1),Zd (by simpa using hi)]
 rw[e];exact Vals.reverse r
variable{l:J}
def HX{σ:St}{Q:VK}{ob:Obj}{tk:Nat}{P:Nat->B->Prop}{St:Nat->Ev->Prop}{ys:List V}(I:Inv X gd σ H s)(au:l<s.heap.objs.size)(W:Walks X.prog X.w X.A.in1.in1 s.heap.objs.size [s.heap.objs.size,l] [s.heap.objs.size] n P St)(hT:∀i (s':ϋ),St i s'.heap->s'.TypeIs (.ref s.heap.objs.size) ty)
  (ah:(B.type ty == .type "list" || Value.type ty == .type "tuple")=ϊ) (K:∀x ∈ ["set","frozenset","dict","dict_keys","dict_values","dict_items"],(B.type ty == .type x)=ϊ)
  (hint:∀(s':ϋ)(Q:Bool->ϋ->Prop)(E:B->ϋ->Prop),St 0 s'.heap->(∀b tk,s'.toks<=tk->Q b {s' with toks:=tk})->wpAny (model X.prog X.w) X.A.in1.in1 (Builtin.List.listLengthHint (.ref s.heap.objs.size)) Q E s')
  (ak:St 0 (s.heap.push ob)) (hv:∀acc,ItemsOf P acc n->Vals ys acc.toList) (hz:ys.length<=ot) (hn:n<=ot) (q:∀p,H p=Y->Q (.ref p) (upd H p (.lst ys))):
  XV X (call (.type "list") [.ref s.heap.objs.size]) (EP X gd σ Q) X.xe {s with heap:=s.heap.push ob,toks:=tk}:=by
 refine wY W hT ah K hint ak (λb g=>?_) (by simp) (λs' uU c' hm aw Ex=>?_) hn
 ·rw[Yj];obtain z|z:=fx.mp g
  ·rw[z];exact YQ _
  ·rw[aB.mp z];exact Nat.lt_succ_of_lt au
 ·rw[Moved.eq_with hm];have kp:=λb o e=>hm.heap b o (λz=>by
   have g:@LT.lt Nat _ b s.heap.objs.size:=uY e;obtain z|z:=fx.mp z
   ·rw[z]at g;simp only[Yj]at g
    lia
   ·rw[aB.mp z]at g
    lia) (iP _ (iP _ e))
  have hf:H ((s.heap.push ob).objs.size)=none:=I.hok.fresh (by rw[Yj];omega)
  exact(.ref _,_,I.laid (o:=.lst ys) kp (by rw[Yj];omega) (hz,uU.toList,c',hv uU Ex,by simpa using aw),U,q _ hf)
variable{e:EQ}
def DV{p1 p2 P pos:Pos}(hc:X.calm=O)(aw:Gl X "list")(ak:X.mg "list"=Y)(au:Gl X "reversed")(ah:X.mg "reversed"=Y)(he:PE X e te)
  (g:‹AD X e›) (V:‹dO [.Call (.Name "reversed" p2) [e] [] P] X.env=[(ϊ,eval (.Call (.Name "reversed" p2) [e] [] P) X.env)]›):
  PE X (.Call (.Name "list" p1) [.Call (.Name "reversed" p2) [e] [] P] [] pos) (Jv X.K te):=by
 intro gd s σ H Q I h;refine MI (nc I aw ak boot_list (PyProof.Rows.callWith_type1 ?_ V U));show wpAny _ _ (spliced ((ϊ,eval (.Call (.Name "reversed" p2) [e] [] P) X.env)::backTo pos (dO [] X.env))) _ _ s;refine Calls.spliced_cons (MI (nc I au ah boot_reversed (PyProof.Rows.callWith_type1 ?_ g U)));rw[g];refine Calls.spliced_cons (thn (he gd s σ H _ I h) λu s1 aD=>?_)
 let(x,H1,I1,r1,l,ys,ex,hl,q):=aD;subst ex;cases r1;refine Calls.spliced_nil ?_;let(its,rv,pl,hz):=I1.list hl;have z:l<s1.heap.objs.size:=by let(_,e,_):=pl.isList;exact uY e
 refine call_reversed_list pl.isList (Calls.spliced_nil ?_);have W:=Walks.listRev (prog:=X.prog) (w:=X.w) (A:=X.A.in1.in1) (I.ok.hd hc) s1.heap.objs.size l (Aw z) its.toArray;exact HX I1 z W (λi s' st=>st.2.1.typeIs) (by decide) (by decide) (λs' Q' E' st hq=>Lp st.2.1.typeIs hq) (Je _,(_,u3 _ U,U,by simp[revObj]),pl.isList.push _) (λacc h=>Jk (by simpa using rv) h) (by rw[YJ];exact hz) (by rw[uZ,<- rv.length];exact hz) q
variable{x:Str}
section
def K7{y:Str}(hg:Gl X x)(hm:∃t,X.mg x=Z (.str y t))(hd:autoParam (AS x) zdc._auto_1):PE X (.Name x pos) (tC (.str y)):=by
 let(t,e):=hm;exact zy hg e (t,U) hd
def vV{y:J}(hg:Gl X x)(hm:X.mg x=Z (.ref y))(hd:autoParam (AS x) zdc._auto_1):PE X (.Name x pos) (tC (.ref y)):=zy hg hm U hd
def K8{y:Int}(hg:Gl X x)(hm:∃t,X.mg x=Z (.int y t))(hd:autoParam (AS x) zdc._auto_1):PE X (.Name x pos) (tC (.int y)):=by
 let(t,e):=hm;exact zy hg e (t,U) hd
def Xw(_ j:Int):Prop:=0<j/\j<18446744073709551616
def Ld:OpR X (binaryOp .FloorDiv) (rI Xw λi j=>.int (i / j)):=opI λi j _ _ _ _ _ g q=>by
 let(h1,h2):=g;have e:i.fdiv j=i / j:=Int.fdiv_eq_ediv_of_nonneg _ (by lia)
 refine floordiv_int (by lia) (by rw[e];exact q) (.inl (PyProof.noPylong_of_log2 ?_))
 have h3:j.natAbs<2 ^ 64:=by omega
 have h4:j.natAbs≠0:=by lia
 exact Zj ((Nat.log2_lt h4).mpr h3) (by decide)
def Hj{ys:List Str}{its:Array B}(v:Vals (ys.map V.str) its.toList)(h:autoParam (ys.length<=1000) zdc._auto_1):its.size<=ot:=by
 have e:=v.length;rw[gV]at e;have g:its.toList.length=its.size:=by simp
 have:(1000:Nat)<=ot:=by decide
 omega
end
def dk(s n:Int)(l:J):List (Key×V):=[(.inr "seed",.int s),(.inr "number",.int n),(.inr "left",.ref l)]
def IB{s n:Int}:pY (dk s n l) (.inr "number":Key)=Z (.int n):=by kernel_rfl
def Pp{s n:Int}:pY (dk s n l) (.inr "left":Key)=Z (.ref l):=by kernel_rfl
def DP{s n m:Int}:putK (dk s n l) (.inr "number":Key) (.int m)=dk s m l:=by kernel_rfl
def KC{s n m:Int}:putK (dk s n l) (.inr "seed":Key) (.int m)=dk m n l:=by kernel_rfl
structure fq(H:Hp)(d l:J)(s n:Int)(ls:List Int):Prop where
 hd:H d=Z (.dK (dk s n l))
 hl:H l=Z (.lst (ls.map V.int))
 s0:0<=s
 s1:s<2147483647
 n0:0<=n
 l0:∀x∈ls,0<=x
def sg(H:Hp)(d l:J):Prop:=∃s n ls,fq H d l s n ls
def Kp(d l:J)(H H':Hp):Prop:=∀b o,H b=Z o->b≠d->b≠l->H' b=Z o
variable{d:J}
def Kp.refl:Kp d l H H:=λ_ _ h _ _=>h
def fq.ne{s n:Int}{ls:List Int}(D:fq H d l s n ls):d≠l:=dQ D.hd D.hl (by intro z;cases z)
def fq.num{s n m:Int}{ls:List Int}(D:fq H d l s n ls)(h:0<=m):fq (upd H d (.dK (putK (dk s n l) (.inr "number":Key) (.int m)))) d l s m ls :=
 (by rw[aC,DP],by rw[ax D.ne.symm];exact D.hl,D.s0,D.s1,h,D.l0)
def fq.XJ{s n m:Int}{ls:List Int}(D:fq H d l s n ls)(h:0<=m)(h2:m<2147483647):fq (upd H d (.dK (putK (dk s n l) (.inr "seed":Key) (.int m)))) d l m n ls :=
 (by rw[aC,KC],by rw[ax D.ne.symm];exact D.hl,h,h2,D.n0,D.l0)
def fq.list{s n:Int}{ls ls':List Int}(D:fq H d l s n ls)(h:∀x∈ls',0<=x):fq (upd H l (.lst (ls'.map V.int))) d l s n ls' :=
 (by rw[ax D.ne];exact D.hd,aC,D.s0,D.s1,D.n0,h)
variable{H1:Hp}
def Kp.Rg{o:HO}(a:Kp d l H H1):Kp d l H (upd H1 d o):=λc u h h1 h2=>by rw[ax h1];exact a c u h h1 h2
def Kp.Xx{o:HO}(a:Kp d l H H1):Kp d l H (upd H1 l o):=λc u h h1 h2=>by rw[ax h2];exact a c u h h1 h2
def pS.new{p:J}{o:HO}(a:pS H H1)(hp:H1 p=Y):pS H (upd H1 p o):=λc u h=>by
 have z:=a c u h;rw[ax (aZ z hp)];exact z
def sg.new{p:J}{o:HO}(D:sg H d l)(hp:H p=Y):sg (upd H p o) d l:=by
 let(s,n,ls,D):=D;exact(s,n,ls,by rw[ax (aZ D.hd hp)];exact D.hd,by rw[ax (aZ D.hl hp)];exact D.hl,D.s0,D.s1,D.n0,D.l0)
inductive JB(vs:List V)(H:Hp)(Q:VK)(_:XK):Prop
 |mk(d l:J)(m:Int)(h1:vs=[.ref d,.int m])(h2:sg H d l)(h3:0<m)(h4:m<18446744073709551616)(h5:∀(r:Int)(H':Hp),0<=r->r<m->sg H' d l->Kp d l H H'->Q (.int r) H')
inductive RB(K:BT)(vs:List V)(H:Hp)(Q:VK)(_:XK):Prop
 |mk(a:J)(ns:List Int)(b:Int)(h1:vs=[.ref a,.int b])(h2:SqL K H a (ns.map V.int))(h3:ns.length<=63)(h4:0<=b)(h5:b<=63)(h6:∀(d l:J)(H':Hp),H d=Y->H l=Y->sg H' d l->pS H H'->Q (.ref d) H')
variable{D:Ends}
def G8{c:TT}{tb:TS}{σ:St}(I:Nat->St->Hp->Prop){m:Nat}(h0:I m σ H)(q:∀m σ H,I m σ H->D.nx σ H)
  (hs:∀m σ H,I m σ H->D.nx σ H->c σ H λb H1=>if b=O then ∃N:St->Hp->Prop,(∀g H',N g H'->∃m',m'<m/\I m' g H')/\tb {D with nx:=N,ct:=N,bk:=D.nx} σ H1 else D.nx σ H1):y4 c tb D σ H :=
 (I,(m,h0),λm σ H h=>hs m σ H h (q m σ H h))
def fq.LP{s n:Int}{ls:List Int}(D:fq H d l s n ls):xi H d (.str "seed") (Z (.int s)):=by
 have z:=xi.k (k:=(Sum.inr "seed")) D.hd;exact z
def fq.W2{s n:Int}{ls:List Int}(D:fq H d l s n ls):xi H d (.str "number") (Z (.int n)):=by
 have z:=xi.k (k:=(Sum.inr "number")) D.hd;rw[IB]at z;exact z
def fq.QN{s n:Int}{ls:List Int}(D:fq H d l s n ls):xi H d (.str "left") (Z (.ref l)):=by
 have z:=xi.k (k:=(Sum.inr "left")) D.hd;rw[Pp]at z;exact z
def fq.V1{s n m:Int}{ls:List Int}(D:fq H d l s n ls):CP H d (.str "number") (.int m) (upd H d (.dK (putK (dk s n l) (.inr "number":Key) (.int m)))) :=
 CP.k (k:=(Sum.inr "number")) D.hd (bo (by show 3<=1000;decide))
def fq.VY{s n m:Int}{ls:List Int}(D:fq H d l s n ls):CP H d (.str "seed") (.int m) (upd H d (.dK (putK (dk s n l) (.inr "seed":Key) (.int m)))) :=
 CP.k (k:=(Sum.inr "seed")) D.hd (bo (by show 3<=1000;decide))
def mod_lt{x m:Int}(h:0<m):0<=x % m/\x % m<m:=(Int.emod_nonneg _ (by lia),Int.emod_lt_of_pos _ h)
end L2
namespace L2
def Ms(ns:List Int)(lo hi:Option Int):∃cs:List Int,rG (ns.map V.int) lo hi=cs.map V.int/\cs.length<=ns.length:=by
 refine((ns.drop (HT.sIx ns.length 0 lo)).take (HT.sIx ns.length ns.length hi - HT.sIx ns.length 0 lo),?_,?_)
 ·unfold rG;rw[gV,<- ab0,<- ab1]
 ·rw[xU,xH];exact u4 (ZT _ _) (Z0 _ _)
variable{i:Nat}
def int_at{ns:List Int}{x:V}(h:(ns.map V.int)[i]?=Z x):∃z,x=.int z:=by
 rw[tW]at h;cases e:ns[i]? with
 |none=>rw[e]at h;cases h
 |some z=>rw[e]at h;exact(z,(Option.some.inj h).symm)
def O7{ns:List Int}{x:V}(h:(ns.map V.int)[i]?=Z x):∃z,x=.int z/\z∈ns:=by
 rw[tW]at h;cases e:ns[i]? with
 |none=>rw[e]at h;cases h
 |some z=>rw[e]at h;exact(z,(Option.some.inj h).symm,Au e)
end L2
namespace L2
open PySem
def Uw{α:Type}{xs:List α}{i:Int}(h0:0<=i)(h1:i<xs.length):∃v,atI xs i=Z v/\v∈xs:=by
 obtain⟨n,rfl⟩:∃n:Nat,i=n:=(i.toNat,by lia)
 have h2:n<xs.length:=by lia
 refine(xs[n],?_,Zy h2);unfold atI ixN;simp[h2]
variable{n:Nat}
def kj(h:n<=10000):n<=ot:=by
 have:(10000)<=ot:=by decide
 lia
end L2
namespace L2
end L2
namespace L2
open PySem PySem.Spec PyProof.Rows
def strOf:EQ->Option Str
 |.Constant (.str x) _ _=>Z x
 |_=>Y
def strsOf:List EQ->Option (List Str)
 |[]=>Z []
 |e::r=>(strOf e).bind λx=>(strsOf r).map (x :: ·)
variable{e:EQ}{x:Str}
def Hg(h:strOf e=Z x):∃j p,e=.Constant (.str x) j p:=by
 cases e with
 |Constant c j p=>cases c with
  |str y=>cases h;exact(j,p,U)
  |_=>cases h
 |_=>cases h
variable{X:Cx}{es:List EQ}
def OE:∀{ws:List Str},strsOf es=Z ws->PA X es (λ_ H Q=>Q (ws.map V.str) H):=by
 induction es with
 |nil=>intro ws h;cases h;exact dC
 |cons e es q =>
  intro ws h;let(x,h1,h2):=ZV.mp h;let(g,h3,U):=kg.mp h2;let(j,p,U):=Hg h1;exact bh gF (q h3)
end L2
namespace L2
variable{i:Nat}{H:Hp}
def Pc{x:V}{σ:St}{A ό:St->Hp->Prop}(h:A (σ.set i (Z x)) H):jF i x σ H λg z=>E7 g z λb q=>if b=O then A g q else ό g q:=by
 show if O=O then A (σ.set i (Z x)) H else ό (σ.set i (Z x)) H
 exact h
end L2
namespace L2
end L2
namespace L2
open PySem PySem.Spec PyProof.Rows
section
variable{X:Cx}
def pb(z:Str)(n:Nat):Str:=⟨(xV n z.cps).foldl (· ++ ·) #[]⟩
theorem A7(c:Array Nat):∀(n:Nat)(acc:Array Nat),((xV n c).foldl (· ++ ·) acc).size=acc.size+n*c.size
 | 0,acc=>by simp
 |n+1,acc=>by
  rw[List.replicate_succ,List.foldl_cons,A7 c n,Array.size_append,Nat.add_mul]
  lia
def qV(z:Str)(n:Nat):(pb z n).length=n*z.length:=by
 have h:=A7 z.cps n #[];simpa [pb,Str.length]using h
def DZ:OpR X (binaryOp .Mult) (λx y H Q=>∃z n,x=.str z/\y=.int n/\0<=n/\n<=1000/\z.length<=1000/\Q (.str (pb z n.toNat)) H):=by
 intro gd s σ H x y v u Q I V K h;let(z,n,U,U,n0,n1,hz,q):=h;let(t,U):=V;let(t',U):=K;have fin:∀(y:Str)(t' k:Nat),y=pb z n.toNat->EP X gd σ Q (.str y t') {s with toks:=k}:=λy t' k e=>by subst e;exact(.str _,H,I.tok k,(_,U),q)
 have hp:=by
  have h1:(z.length:Int)*n<=1000*n:=Int.mul_le_mul_of_nonneg_right (by omega) n0
  omega
 refine P.mul_str ?_ (λh1 _=>?_) (λh1 _=>?_) ?_
 ·rw[decide_eq_false (by omega),decide_eq_false (by omega)];rfl
 ·have h2:(1000:Int) <=(2 ^ 63 - 1) / n:=by
   rw[Int.le_ediv_iff_mul_le (by omega)]
   omega
  omega
 ·have h2:=by
   have e:((z.length*n.toNat:Nat):Int)=(z.length:Int)*n:=by rw[Int.natCast_mul,Zl n0]
   omega
  have:=Y1
  exact decide_eq_false (by omega)
 ·by_cases h1:n<1
  ·rw[if_pos h1];have e:n.toNat=0:=by omega
   exact(by decide,fin _ _ _ (by rw[e];rfl))
  ·rw[if_neg h1];by_cases h2:(n==1||z.length==0)=O
   ·rw[if_pos h2];refine fin z t s.toks ?_;have h3:=by simpa using h2
    obtain h3|h3:=h3
    ·subst h3;show z=⟨#[]++z.cps⟩;simp
    ·have e1:z.cps=#[]:=by simpa [Str.length]using h3
     have g:=qV z n.toNat;rw[h3]at g;have e3:=by simpa [Str.length]using g
     exact Str.ext' (by rw[e1,e3])
   ·rw[if_neg h2];refine(?_,fin _ _ _ U);have e:=qV z n.toNat;have h3:=by
     have e:((n.toNat*z.length:Nat):Int)=(z.length:Int)*n:=by rw[Int.natCast_mul,Zl n0,Int.mul_comm]
     omega
    have:=Y1
    show(pb z n.toNat).length<=ot;omega
end
end L2
namespace L2
open PySem
def Ei(n:Nat):Nat:=97+n % 26
end L2
namespace L2
open PySem
end L2
namespace L2
open PySem PySem.Spec PyProof.Rows
abbrev Mk1:=Str×List Str
abbrev Kd:=Str×List Mk1
variable{it:J}{i:Nat}{items:Array B}{Q:B->ϋ->Prop}{h':Ev}{tp:Bool}{l:J}
section
variable{prog:Db}{w:Da}{A:Do}{E:B->ϋ->Prop}{s:ϋ}
theorem xB{t:J}{x:B}(hit:s.heap.IsTupleIter it t i)(z:s.heap.IsTuple t items)(hx:items[i]?=Z x)
  (P:∀h',h'.IsTupleIter it t (i+1)->Zr it s.heap h'->Q x {s with heap:=h'}):wpAny (model prog w) A (Builtin.SmallTypes.nextOf (.ref it)) Q E s:=by
 let(o,ho,K,hd):=id hit;let(ol,g,_,nl,q):=z;refine fH (wpAny_callSpecial?_slot hit.typeIs F.slot_tuple_iterator_next
  (Y8 F.slot_tuple_iterator_next hit.typeIs F.entry_tuple_iterator_next ?_ (F.args_tuple_iterator_next_1 _)))
 show wpAny _ _ (field (.ref it) 0 >>= _) _ _ s;refine fH (wpAny_field ho hd U ?_);refine fH (wpAny_field ho hd U ?_);refine fH (wpAny_seqItems g q ?_);simp only[ZQ,hx];refine fH (Zv ho hd (by simp) (u7 (x,U,u7 (P _ ?_ (Heap.SameBut.update ..)))))
 exact(_,EV _ ho (Ze (YR hd _)),(Obj.cls_mapFields ..).trans K,by
  rw[YR hd];simp[rawInt])
theorem zJ{t:J}(K:A.handled=Y)(hit:s.heap.IsTupleIter it t i)(z:s.heap.IsTuple t items)(hx:items[i]?=Y)
  (P:∀h' e,ab6 it s.heap h'->(∃o,h'.get? e=Z o/\o.cls=.type "StopIteration")->E (.ref e) {s with heap:=h'}):wpAny (model prog w) A (Builtin.SmallTypes.nextOf (.ref it)) Q E s:=by
 let(o,ho,V,hd):=id hit;let(ol,g,_,nl,q):=z;refine fH (wpAny_callSpecial?_slot hit.typeIs F.slot_tuple_iterator_next
  (Y8 F.slot_tuple_iterator_next hit.typeIs F.entry_tuple_iterator_next ?_ (F.args_tuple_iterator_next_1 _)))
 show wpAny _ _ (field (.ref it) 0 >>= _) _ _ s;refine fH (wpAny_field ho hd U ?_);refine fH (wpAny_field ho hd U ?_);refine fH (wpAny_seqItems g q ?_);simp only[ZQ,hx];refine fH (Z4 (fH (Zv ho hd (by simp) ?_)))
 refine fH ?_;refine fH (m:=firstArgMember _ _) (wpAny_of_eq (by rfl) ?_)
 refine Zf ?_ (by size_fits)
 refine fH (wpAny_handled ?_);rw[K];exact fH (u7 (wpAny_throw (P _ _ (((Heap.SameBut.update ..).extBut.push _).push _) (_,u3 _ U,U))))
def d9(h:Ev)(tp:Bool)(it l:J)(k:Nat):Prop:=if tp=O then h.IsTupleIter it l k else h.IsListIter it l k
def nA(h:Ev)(tp:Bool)(l:J)(items:Array B):Prop:=if tp=O then h.IsTuple l items else h.IsList l items
def d9.at{h:Ev}{k:Nat}(x:d9 h tp it l k)(e:∀o,h.get? it=Z o->h'.get? it=Z o):d9 h' tp it l k:=by
 cases tp with
 |true=>let(o,ho,r):=(x);exact((o,e o ho,r))
 |false=>let(o,ho,r):=(x);exact((o,e o ho,r))
def d9.obj{h:Ev}{k:Nat}(x:d9 h tp it l k):∃o,h.get? it=Z o/\∀v,o.data ≠ .cell v:=by
 cases tp with
 |true=>let(o,ho,_,hd):=(x);exact(o,ho,λv=>by rw[hd];simp)
 |false=>let(o,ho,_,hd):=(x);exact(o,ho,λv=>by rw[hd];simp)
def next_item{x:B}(hit:d9 s.heap tp it l i)(hl:nA s.heap tp l items)(hx:items[i]?=Z x)
  (g:∀h',d9 h' tp it l (i+1)->Zr it s.heap h'->Q x {s with heap:=h'}):wpAny (model prog w) A (Builtin.SmallTypes.nextOf (.ref it)) Q E s:=by
 cases tp with
 |true=>exact xB hit hl hx g
 |false=>exact wpAny_nextOf_list_item hit hl hx g
def next_end(g:A.handled=Y)(hit:d9 s.heap tp it l i)(hl:nA s.heap tp l items)(hx:items[i]?=Y)
  (q:∀h' e,ab6 it s.heap h'->(∃o,h'.get? e=Z o/\o.cls=.type "StopIteration")->E (.ref e) {s with heap:=h'}):wpAny (model prog w) A (Builtin.SmallTypes.nextOf (.ref it)) Q E s:=by
 cases tp with
 |true=>exact zJ g hit hl hx q
 |false=>exact wpAny_nextOf_list_end g hit hl hx q
end
def vm{w:Str}{ws:List Str}:inV (.str w) (ws.map V.str)=O ↔ w∈ws:=by
 constructor
 ·intro h;by_cases hm:w∈ws
  ·exact hm
  ·exfalso
   unfold inV at h;rw[ZU]at h;let(x,hx,e):=h;let(z,g,U):=YY.mp hx
   have:=eq_of_beq (show(z==w)=O from e)
   exact hm (this▸g)
 ·intro h;unfold inV;rw[ZU];exact(.str w,YY.mpr (w,h,U),show(w==w)=O from beq_self_eq_true w)
def marks(rs:List Str):List (Key×V):=rs.map λs=>(.inr s,.bl O)
variable{X:Cx}{gd:List (J×Obj)}{H:Hp}{s:ϋ}{t':Nat}{fp:List J}
def Inv.E6{σ:St}(I:Inv X gd σ H s)(k:∀b o,b ∉ fp->s.heap.get? b=Z o->h'.get? b=Z o)(hf:∀b∈fp,xW X gd H b):
  Inv X gd σ H {s with heap:=h',toks:=t'}:=by
 have K:∀b u,H b=Z u->b ∉ fp:=λb u e z=>by
  have:=(hf b z).1
  rw[e]at this;cases this
 refine I.step (λb P=>?_) (λb o _ _ g e _=>k b o g e) (λb o _ _ g e _=>(o.slots,k b o g e)) (λ_ _ _ _ n=>n)
  (λb o g e=>(o,k b o g e)) (λ_ _ e=>e) (λ_ _ _ e=>e) (λb ps e=>(#[],by rw[e];simp)) (λm hm=>?_) (λb u e=>?_) I.bare
 ·let(f0,f1,f2,V,f4,Q):=hf b P;exact(V,f1,f4,Q)
 ·let(o,es,ep,ho,r):=hm;exact(o,es,ep,k _ o (λz=>(hf _ z).2.1 U) ho,r)
 ·refine(I.hok b u e).eC (λc v g q=>k c v ?_ q) (λ_ q=>q) λ_ _ q=>q
  obtain z|z:=g
  ·rw[z];exact K b u e
  ·exact K c _ z
def SqB(K:BT)(tp:Bool)(H:Hp)(a:J)(xs:List V):Prop:=if tp=O then SqT K H a xs else SqL K H a xs
variable{a:J}{xs:List V}
def Inv.RI{σ:St}(I:Inv X gd σ H s)(h:SqB X.K tp H a xs):∃its:List B,Vals xs its/\nA s.heap tp a its.toArray/\xs.length<=ot:=by
 cases tp with
 |true =>
  let(its,r,p,z):=I.tuple (h);exact(its,r,(p),z)
 |false =>
  let(its,r,p,z):=I.list (h);exact(its,r,p.isList,z)
variable{ys:List V}
def Inv.JS{σ:St}(I:Inv X gd σ H s)(h:SqB X.K tp H a xs)(h2:SqB X.K tp H a ys):xs=ys:=by
 cases tp with
 |true=>exact I.xZ (h) (h2)
 |false=>exact I.wg (h) (h2)
def itc(tp:Bool):String:=if tp=O then "tuple_iterator" else "list_iterator"
variable{A:Do}{E:B->ϋ->Prop}
def wo{prog:Db}{w:Da}{xs:Array B}(h:nA s.heap tp l xs)
  (g:Q (.ref s.heap.objs.size) {s with heap:=s.heap.push {cls:=.type (itc tp),data:=.fields #[.ref l,.int 0 0]}}):wpAny (model prog w) A (pyIter (.ref l)) Q E s:=by
 cases tp with
 |true=>exact wpAny_pyIter_tuple (h) g
 |false=>exact wpAny_pyIter_list (h) g
def A3{h:Ev}(e:h.get? it=Z {cls:=.type (itc tp),data:=.fields #[.ref l,.int 0 0]}):d9 h tp it l 0:=by
 cases tp with
 |true=>exact((_,e,U,U))
 |false=>exact((_,e,U,U))
variable{d:J}
def sg.other{q:J}{o:HO}(D:sg H d l)(h1:q≠d)(h2:q≠l):sg (upd H q o) d l:=by
 let(s,n,ls,D):=D;exact(s,n,ls,by rw[ax h1.symm];exact D.hd,by rw[ax h2.symm];exact D.hl,D.s0,D.s1,D.n0,D.l0)
variable{es:List EQ}{n:Nat}
theorem zw{K:BT}{k:Nat}{pos:Pos}{t:TGs}(z:X.K=K)(q:X.calm=O)(h:PGs X es t)
  (hn:‹(assignEach es X.env).length=n›) (g:‹(assignEach es X.env).findIdx? (·.1)=none›):PG X (.Tuple es k pos) (LR K n t):=z▸K0 q h hn g
section
variable{prog:Db}{w:Da}
theorem IA{e:J}{x old:B}{Q:Option B->ϋ->Prop}
  (he:IsEnum s.heap e it i old) (hit:d9 s.heap tp it l i) (hl:nA s.heap tp l items) (hx:items[i]?=Z x) (K:e≠it)
  (hQ:∀h',IsEnumOut h' e it ((i:Int)+1) x s.heap.objs.size->d9 h' tp it l (i+1)->h'.get? s.heap.objs.size=Z {cls:=.type "tuple",data:=.seq #[.int i s.toks,x]}->h'.objs.size=s.heap.objs.size+1 ->
   (∀b o,b≠e->b≠it->s.heap.get? b=Z o->h'.get? b=Z o)->Q (Z (.ref s.heap.objs.size)) {s with heap:=h',toks:=s.toks+1}):wpAny (model prog w) A (pyNext (.ref e)) Q E s:=by
 have hT:s.TypeIs (.ref e) "enumerate":=(_,he,U);let(hp,g,d,tk,os):=s;refine fH (wpAny_attempt (wpAny_callSpecial?_slot hT F.slot_enumerate_next (Y8 F.slot_enumerate_next hT F.entry_enumerate_next ?_ (F.args_enumerate_next_1 _))));show wpAny _ _ (field (.ref e) 2 >>= _) _ _ _;refine fH (wpAny_field he U U ?_);refine fH (next_item hit hl hx λh1 Yk ak=>?_)
 have au:=(ak.2 e K).trans he;refine fH (wpAny_field au U U ?_);refine fH (wpAny_field au U U ?_);refine fH (wpAny_mkInt ?_);refine fH (wpAny_setField_rec au (by simp) λh2 bf ah=>?_)
 refine fH (wpAny_setField_rec bf (by simp) λh3 bb V=>?_)
 show wpAny _ _ (newTuple [.int i tk,x] >>= _) _ _ (h3,g,d,tk+1,os);refine fH (wpAny_newTuple ?_);have P:IsEnum (h3.push {cls:=.type "tuple",data:=.seq #[.int i tk,x]}) e it ((i)+1) old:=iP _ bb;have hsz:h3.objs.size=hp.objs.size:=by rw[V.1,ah.1,ak.1]
 have a4:=uY he;have aH:(h3.push {cls:=.type "tuple",data:=.seq #[.int i tk,x]}).get? hp.objs.size=Z {cls:=.type "tuple",data:=.seq #[.int i tk,x]}:=by rw[<- hsz];exact u3 _ U
 have aD:(h3.push {cls:=.type "tuple",data:=.seq #[.int i tk,x]}).objs.size=hp.objs.size+1:=by rw[Yj,hsz]
 have a3:∀b o,b≠e->b≠it->hp.get? b=Z o->(h3.push {cls:=.type "tuple",data:=.seq #[.int i tk,x]}).get? b=Z o:=λb o q aw hb=>iP _ (V.extBut b o q (ah.extBut b o q (ak.extBut b o aw hb)))
 have WN:d9 (h3.push {cls:=.type "tuple",data:=.seq #[.int i tk,x]}) tp it l (i+1):=Yk.at λo eo=>iP _ (V.extBut _ o K.symm (ah.extBut _ o K.symm eo))
 generalize h3.push {cls:=.type "tuple",data:=.seq #[.int i tk,x]}=h4 at P aH aD a3 WN
 rw[hsz];refine fH ?_;refine fH (wpAny_field P U U (u7 ?_));refine fH (Z4 (fH (wpAny_field P U (x:=old) U (fH (wpAny_setField_rec P (by simp) λh5 a9 a0=>?_)))))
 refine fH ?_;refine fH (wpAny_setField_rec a9 (by simp) λh6 a6 aX=>?_)
 refine wpAny_setField_rec a6 (by simp) λh7 a5 aL=>?_
 have up:∀c o,c≠e->h4.get? c=Z o->h7.get? c=Z o:=λc o hc z=>aL.extBut _ _ hc (aX.extBut _ _ hc (a0.extBut _ _ hc z))
 refine fH (wpAny_letGo (u7 (_,U,u7 (hQ h7 a5 (WN.at λo eo=>up _ o K.symm eo) (up _ _ (ZK a4) aH) ?_ λb o q aw hb=>up b o q (a3 b o q aw hb)))))
 rw[aL.1,aX.1,a0.1,aD]
theorem L8{e:J}{old:B}{Q:Option B->ϋ->Prop}(z:A.handled=Y)
  (he:IsEnum s.heap e it i old) (hit:d9 s.heap tp it l i) (hl:nA s.heap tp l items) (hx:items[i]?=Y) (P:∀h',ab6 it s.heap h'->Q Y {s with heap:=h'}):wpAny (model prog w) A (pyNext (.ref e)) Q E s:=by
 have hT:s.TypeIs (.ref e) "enumerate":=(_,he,U);refine fH (wpAny_attempt (wpAny_callSpecial?_slot hT F.slot_enumerate_next (Y8 F.slot_enumerate_next hT F.entry_enumerate_next ?_ (F.args_enumerate_next_1 _))));show wpAny _ _ (field (.ref e) 2 >>= _) _ _ _;refine fH (wpAny_field he U U ?_);refine fH (next_end z hit hl hx λh' x q g=>?_)
 let(o,ho,K):=g;refine fH (wpAny_isInstance (o,ho,K) isSubtype_stop ?_);exact u7 (P _ q)
abbrev eH1(tp:Bool)(h:Ev)(l:J):Ev:=h.push {cls:=.type (itc tp),data:=.fields #[.ref l,.int 0 0]}
abbrev eH2(tp:Bool)(h:Ev)(l:J):Ev:=(eH1 tp h l).push {cls:=.type "enumerate",data:=.fields #[.none,.bool ϊ,.ref h.objs.size,rawInt 0,.none,.none]}
def wb(tp:Bool)(l:J)(xs:Array B):
  Meets (Builtin.«enumerate.__new__» ([.type "enumerate",.ref l],[])) (λ_ R s=>nA s.heap tp l xs/\R (.ok (.ret (.ref (eH1 tp s.heap l).objs.size))) {s with heap:=eH2 tp s.heap l}) :=
 .of_wp λprog w A R s h=>by
  let(hl,h):=h;have q:=sub_enumerate;have g:=hl
  wp_walk
  refine wpAny_stack_any λst=>u7 ?_
  split
  ·rename_i c _ _ _ _ _
   cases(c==B.type "enumerate")
   ·wp_walk using wo g
    exact(_,U,h)
   ·wp_walk using wo g
    exact(_,U,h)
  ·wp_walk using wo g
   exact(_,U,h)
theorem xM{xs:Array B}(hl:nA s.heap tp l xs)
  (h:∀h',IsEnum h' (s.heap.objs.size+1) s.heap.objs.size 0 .none->d9 h' tp s.heap.objs.size l 0->(∀b o,s.heap.get? b=Z o->h'.get? b=Z o)->Q (.ref (s.heap.objs.size+1)) {s with heap:=h'}):
  wpAny (model prog w) A (call (.type "enumerate") [.ref l]) Q E s:=by
 refine callType_new F.called_enumerate (by decide) (F.typeCall_enumerate_1 _) (F.newCall_enumerate_1 _) (λobj=>F.args_object_init_2 obj _) F.entry_enumerate_new (wb tp l xs) (hl,?_)
 have g:(eH1 tp s.heap l).objs.size=s.heap.objs.size+1:=Yj ..;have g2:(eH2 tp s.heap l).get? (eH1 tp s.heap l).objs.size=Z _:=u3 _ U;have g1:(eH2 tp s.heap l).get? s.heap.objs.size=Z _:=iP _ (u3 _ U);rw[g]at g2 ⊢;exact((_,g2,U),h _ g2 (A3 g1) λc o x=>iP _ (iP _ x))
end
def Ite(K:BT)(tp:Bool)(l:J):It :=
 (λi H=>∃xs x,SqB K tp H l xs/\xs[i]?=Z x,
   λi H v H'=>∃(p:J)(x:V),H p=Y/\v=.ref p/\H'=upd H p (.tup [.int i,x])/\∀xs,SqB K tp H l xs->xs[i]?=Z x,
   λi H=>∃xs,SqB K tp H l xs/\xs.length<=i)
variable{P:Db}{elts:List EQ}
theorem Hc{w:Da}{K:BT}{x1}(e it l:J)(Q:e≠it):
  Turn P w K (.Tuple elts x1 pos) (Ite K tp l) [e,it] e (λi h=>(∃old,IsEnum h e it i old)/\d9 h tp it l i) where
 mem:=by simp
 obj:=by
  rintro i h ⟨⟨old,h1⟩,h2⟩ c q
  simp only[fx,UR,or_false]at q;obtain rfl|rfl:=q
  ·exact(_,h1,λv e=>by cases e)
  ·exact h2.obj
 keep:=by
  rintro i h h' ⟨⟨old,h1⟩,h2⟩ k
  exact((old,k e (by simp) _ h1),h2.at λo z=>k it (by simp) o z)
 item:=by
  intro X hP hw hK q i gd s σ H E I hf st hg;subst hP hw hK;let((old,h1),h2):=st;let(xs,x,q1,e1):=hg;let(its,rv,o1,z1):=I.RI q1;let(u1,au,ak):=rv.get e1;refine IA h1 h2 o1 (x:=u1) (by simpa using au) Q λh' aw aH aL YI aD=>(_,U,(wpAny_letOwnedTupleGo_enum aw λah Ym Yf=>?_))
  have hn:=I.hok.fresh (oa s.heap.objs.size);have le:=uY h1;let(oi,aX,_):=h2.obj;have li:=uY aX;have X8:∀b ∈ [e,it],b≠s.heap.objs.size:=λb g=>by
   simp only[fx,UR,or_false]at g;obtain rfl|rfl:=g
   ·exact Aw le
   ·exact Aw li
  have up:∀c o,c≠e->h'.get? c=Z o->ah.get? c=Z o:=λc o q z=>Yf.extBut _ _ q z
  have I1:Inv X gd σ (upd H s.heap.objs.size (.tup [.int i,x])) {s with heap:=s.heap.push {cls:=.type "tuple",data:=.seq #[.int i s.toks,u1]},toks:=s.toks+1} :=
   I.laid (λb u z=>iP _ z) (oa _) (by show 2<=ot;decide,[.int i s.toks,u1],.cons (_,U) (.cons ak .nil),((_,u3 _ U,U,_,U),_,u3 _ U,U))
  have V:∀b ∈ [e,it],xW X gd (upd H s.heap.objs.size (.tup [.int i,x])) b:=λb g=>by
   let(f0,r):=hf b g;exact(by rw[ax (X8 b g)];exact f0,r)
  have I2:=by
   refine I1.E6 (h':=ah) (t':=s.toks+1) (λb o g z=>?_) V
   simp only[fx,UR,or_false,not_or]at g;let(b1,b2):=g;obtain⟨rfl,rfl⟩|z':=Heap.get?_push_cases z
   ·exact up _ _ b1 aL
   ·exact up _ _ b1 (aD b o b1 b2 z')
  exact(.ref s.heap.objs.size,upd H s.heap.objs.size (.tup [.int i,x]),I2,U,(_,x,hn,U,U,λzs hz=>by rw[I.JS hz q1];exact e1),(((_,by simpa using Ym),aH.at λo z=>up _ _ Q.symm z)),λb g=>(V b g).1)
 done:=by
  intro X hP hw hK q i gd s σ H E I hf st hg;subst hP hw hK;let((old,h1),h2):=st;let(xs,q1,WQ):=hg;let(its,rv,o1,z1):=I.RI q1;have g1:=rv.length;refine L8 (I.ok.hd q) h1 h2 o1 (by simp;lia) λh' k=>(U,I.E6 (λb o g z=>?_) hf)
  simp only[fx,UR,or_false,not_or]at g;exact k b o g.2 z
 self:=λ_ _ _ _ _ st h=>let((_,z),_):=st;wpAny_pyIter_enum z h
def B4(K:BT)(tp:Bool)(ta:TA):TI:=λσ H R=>ta σ H λvs H1=>∃l,vs=[.ref l]/\(∃xs,SqB K tp H1 l xs)/\R (Ite K tp l) H1
def Ox{x1}{a:EQ}{ta:TA}(hg:Gl X "enumerate")(hm:X.mg "enumerate"=Y)(wA:bootBuiltins "enumerate"=Z (.type "enumerate"))(ha:PA X [a] ta)(hs:‹AD X a›):
  PI X (.Tuple elts x1 pos') (.Call (.Name "enumerate" p) [a] [] pos) (B4 X.K tp ta):=by
 intro gd s σ H R I h;refine Call_ (nc I hg hm wA (PyProof.Rows.callWith_type1 (thn (ha pos gd s σ H _ I h) λus s1 (vs,H1,P,r1,q1)=>?_) hs U))
 let(l,e,(xs,q2),q):=q1;subst e;let(u1,U,Q):=vals1 r1;cases Q;let(its,rv,o1,z1):=P.RI q2;refine xM o1 λh' he hi hk=>wpAny_pyIter_enum he ?_
 refine(_,[s1.heap.objs.size+1,s1.heap.objs.size],_,_,H1,U,P.kept hk,Hc _ _ l (λz=>absurd (show @Eq Nat _ _ from z) (by lia)),((_,he),hi),λc V=>?_,q)
 have g:s1.heap.objs.size<=c:=by
  simp only[fx,UR,or_false]at V;obtain rfl|rfl:=V <;> first|exact Nat.le_add_right _ _|exact oa _
 exact P.Iw g (P.hok.fresh g)
end L2
namespace PySem
open Sem (wp)
end PySem
namespace L2
open PySem PySem.Spec PyProof.Rows
section
variable{X:Cx}{gd:List (J×Obj)}{σ:St}{H:Hp}{s:ϋ}{a:J}{u u':HO}
def Inv.Vi(I:Inv X gd σ H s)(ha:H a=Z u)(h1:∀xs,u ≠ .tup xs)(h2:∀c,u ≠ .own c)(h3:∀ps,u ≠ .tbl ps)(K:∀o v,X.H₀ a≠Z (.frz o v))(new:dm X.prog X.w (upd H a u') s.heap a u'):Inv X gd σ (upd H a u') s:=by
 have ne:∀{b:J},H b=Y->b≠a:=λ{b} e z=>by rw[z,ha]at e;cases e
 refine(I.ok,I.os,I.bare,(I.base.keep,I.base.slot,λb o e n hx=>?_,I.base.there,λb xs e=>?_,λb o v e=>?_,λb ps e=>?_),I.loc,I.cell,?_,λx c e=>?_,λp hp=>?_,λb o e=>?_,I.len)
 ·have:=I.base.free b o e n hx
  rw[ax (ne this)];exact this
 ·have:=I.base.sk b xs e
  rw[ax λz=>by rw[z,ha]at this;exact h1 xs (Option.some.inj this)]
  exact this
 ·have:=I.base.pN b o v e
  rw[ax λz=>by rw[z]at e;exact K o v e]
  exact this
 ·let(more,this):=I.base.sr b ps e;refine(more,?_);rw[ax λz=>by rw[z,ha]at this;exact h3 _ (Option.some.inj this)]
  exact this
 ·rw[ax (ne I.free)];exact I.free
 ·rw[ax (ne (I.iN x c e))];exact I.iN x c e
 ·let(p1,p2,p3):=I.pin p hp;exact(p1,by rw[ax (ne p2)];exact p2,p3)
 ·by_cases g:b=a
  ·subst g;rw[aC]at e;cases e;exact new
  ·rw[ax g]at e;refine(I.hok b o e).eC (λ_ _ _ q=>q) (λc q=>?_) λc xs q=>?_
   ·rw[ax λz=>by rw[z,ha]at q;exact h2 _ (Option.some.inj q)];exact q
   ·rw[ax λz=>by rw[z,ha]at q;exact h1 _ (Option.some.inj q)];exact q
end
end L2
namespace PySem
open Sem (wp)
section
variable{prog:Db}{w:Da}{A:Do}{E:B->ϋ->Prop}{h:Ev}{g:Array aa7}{d:Drawn}{t:Nat}{os:OsState}
variable{nm q:Str}{C N:J}{bs bm bmB:List B}{pL:Bool}{sn:List Str}{sub:List B}{ab:Bool}{col:Option Bool}{dd:Option J}{k0 k1 k2 k3 k5:Option B}{ό newId LD:String}
theorem uJ(F:ExcBaseFacts ό newId LD bmB)(T:OwnTail h bmB bm){mN:Str->Option B}{rest:List B}{fI:J}{oI:Obj}{Q:Fin->ϋ->Prop}
  (K:h.get? C=Z (excClassObj nm q C N bs bm pL sn sub ab col dd k0 k1 k2 k3 k5 newId)) (hn:h.Ns N mN) (hi:mN "__init__"=Z (.ref fI)) (ah:h.get? fI=Z oI) (V:oI.cls=.type "function")
  (hq:∀h' e,Zg h h' e (.ref C) rest->wpAny (model prog w) A (call (.ref fI) (.ref e::rest)) (λr s'=>r=.none/\Q (.done (.ret (.ref e))) s') E (h',g,d,t,os)) (wz:rest.length<=ot):
  wpAny (model prog w) A (Builtin.«type.__call__» (.ref C::rest,[])) Q E (h,g,d,t,os):=by
 repeat (first|with_reducible refine wpAny_loadPart_at K ?_|with_reducible refine wpAny_madeBy_exc K ?_|wp_step)
 refine codeAny_call_builtin_code (Code.quiet_builtin _ F.quiet) (wpAny_check_new_subT F T K ?_);refine codeAny_exc_new_subT F T K ?_ wz;show wpAny _ _ _ _ _ _;have z:=iP {cls:=.ref C,data:=.fields #[.ref h.objs.size,.none,.none,.none,.bool ϊ,.none]} (iP {cls:=.type "tuple",data:=.seq rest.toArray} K);have Yl:=iP {cls:=.ref C,data:=.fields #[.ref h.objs.size,.none,.none,.none,.bool ϊ,.none]} (iP {cls:=.type "tuple",data:=.seq rest.toArray} ah);have P:((h.push {cls:=.type "tuple",data:=.seq rest.toArray}).push {cls:=.ref C,data:=.fields #[.ref h.objs.size,.none,.none,.none,.bool ϊ,.none]}).Ns N mN :=
  let(o,es,ep,e,r):=hn;(o,es,ep,iP _ (iP _ e),r)
 have WO:((h.push {cls:=.type "tuple",data:=.seq rest.toArray}).push {cls:=.ref C,data:=.fields #[.ref h.objs.size,.none,.none,.none,.bool ϊ,.none]}).get? (h.objs.size+1)=Z {cls:=.ref C,data:=.fields #[.ref h.objs.size,.none,.none,.none,.bool ϊ,.none]}:=by heap_get
 have ak:(B.ref C::bm).contains (.ref C)=true:=by simp
 have T1:=T.keeps (h':=(h.push {cls:=.type "tuple",data:=.seq rest.toArray}).push {cls:=.ref C,data:=.fields #[.ref h.objs.size,.none,.none,.none,.bool ϊ,.none]}) λb o e=>iP _ (iP _ e)
 unfold isInstance
 repeat (first|with_reducible refine wpAny_loadPart_at WO ?_|(with_reducible refine wpAny_isSubtype_exc z ?_;rw[ak])|wp_step)
 show wpAny _ _ (typeLookup (.ref C) _) _ _ _;refine wpAny_typeLookup_tail z P T1 F.mroIs F.init.lookup ?_;rw[hi];refine Zc (fH ?_);unfold bindSpecial;refine fH (ZM (T:="function") (_,Yl,V) ?_);rw[if_pos (by decide)]
 refine u7 (fH (E3 (hq _ (h.objs.size+1) (λb o hb=>iP _ (iP _ hb),Jd (ZP _),h.objs.size,WO,Jd (oa _),?_)) (λr s' hr=>?_) λ_ _ x=>x))
 ·exact iP _ (Heap.get?_push_at U U)
 ·let(U,hQ):=hr
  wp_walk
  exact hQ
def EJ(F:ExcBaseFacts ό newId LD bmB)(T:OwnTail h bmB bm){mN:Str->Option B}{rest:List B}{V:J}{oI:Obj}{Q:B->ϋ->Prop}
  (z:h.get? C=Z (excClassObj nm q C N bs bm pL sn sub ab col dd k0 k1 k2 k3 k5 newId)) (hn:h.Ns N mN) (hi:mN "__init__"=Z (.ref V)) (P:h.get? V=Z oI) (K:oI.cls=.type "function")
  (hq:∀h' e,Zg h h' e (.ref C) rest->wpAny (model prog w) (A.under (.builtin "type.__call__" (.ref C::rest,[]))) (call (.ref V) (.ref e::rest)) (λr s'=>r=.none/\Q (.ref e) s') E (h',g,d,t,os)) (wz:rest.length<=ot):
  wpAny (model prog w) A (call (.ref C) rest) Q E (h,g,d,t,os):=by
 have f1:=tc_lookup;have f2:=tc_bind (.ref C);have hT:((h,g,d,t,os):ϋ).TypeIs (.ref C) "type":=(_,z,U);refine wpAny_call (codeAny_of_tree ?_);show wpAny _ _ (callAny (.ref C) _) _ _ _
 repeat (any_goals (first|assumption|with_reducible refine wpAny_loadPart_at z ?_|wp_step))
 refine(U,?_);refine codeAny_call_builtin_at (Code.quiet_builtin _ (by decide +kernel)) entry_typeCall (wpAny_check_type_call_sub z (uJ F T z hn hi P K (λh' e hm=>?_) wz))
 exact hq h' e hm
end
end PySem
namespace PySem
open Sem (wp)
open Builtin Builtin.ObjectAttr
inductive dM(h:Ev)(S:List Str)(bmB:List B):List B->Prop
 |base:dM h S bmB bmB
 |own{A:J}{c0:B}{dd:Option J}{cd:ClassData}{sl:Array (Option B)}{mA:Str->Option B}{tl:List B} :
   h.get? A=Z {cls:=c0,dict:=dd,data:=.cls cd,slots:=sl}->h.Ns cd.ns mA->(∀n∈S,mA n=Y)->dM h S bmB tl->dM h S bmB (.ref A::tl)
def dM.tail{h:Ev}{S:List Str}{bmB tl:List B}(q:("__init__":Str)∈S)(T:dM h S bmB tl):OwnTail h bmB tl:=by
 induction T with
 |base=>exact .base
 |own K z hn _ g=>exact .own K z (hn _ q) g
def dM.hasType{h:Ev}{S:List Str}{bmB tl:List B}(T:dM h S bmB tl){X:String}{b:Bool}(q:bmB.contains (.type X)=b):tl.contains (.type X)=b:=by
 induction T with
 |base=>exact q
 |own _ _ _ _ g=>rw[Ax,g];rfl
def dM.refuse{h:Ev}{S:List Str}{bmB tl:List B}(T:dM h S bmB tl)(self:B)(g:Str):refuseLoop self g tl=refuseLoop self g bmB:=by
 induction T with
 |base=>rfl
 |own _ _ _ _ q=>rw[refuseLoop_ref,q]
section
variable{M:Model}{prog:Db}{w:Da}{A:Do}{E:B->ϋ->Prop}{h:Ev}{g:Array aa7}{d:Drawn}{t:Nat}{os:OsState}
variable{nm q:Str}{C N x:J}{bs bm bmB:List B}{sn:List Str}{sub:List B}{ab pL:Bool}{col:Option Bool}{dd:Option J}{k0 k1 k2 k3 k5:Option B}{ό newId sa owner:String}
 {mN mA:Str->Option B} {name:Str} {v:B} {S:List Str}
def Cw{y:Option B}{Q:Option B->ϋ->Prop}(hs:name∈S)(T:dM h S bmB bm)(q:lookupAlong bmB name=pure y)(K:Q y (h,g,d,t,os)):wpAny M A (lookupAlong bm name) Q E (h,g,d,t,os):=by
 induction T with
 |base=>rw[q];exact u7 K
 |own V P hn _ z =>
  rw[lookupAlong_cons];refine fH (wpAny_classOwn_cls V P ?_);rw[hn _ hs];exact z
def c4{y:Option B}{Q:Option B->ϋ->Prop}(hs:name∈S)(P:h.get? C=Z (excClassObj nm q C N bs bm pL sn sub ab col dd k0 k1 k2 k3 k5 newId))(hn:h.Ns N mN)(T:dM h S bmB bm)(K:mroOf (.type ό)=pure bmB)
  (V:typeLookup (.type ό) name=pure y) (z:Q (match mN name with|some v=>Z v|none=>y) (h,g,d,t,os)):wpAny M A (typeLookup (.ref C) name) Q E (h,g,d,t,os):=by
 have wz:lookupAlong bmB name=pure y:=by rw[typeLookup_eq,K]at V;exact V
 rw[typeLookup_eq];refine fH (wpAny_mroOf_exc P ?_);rw[lookupAlong_cons];refine fH (wpAny_classOwn_exc P hn ?_);cases hv:mN name with
 |some v=>rw[hv]at z;exact u7 z
 |none=>rw[hv]at z;exact Cw hs T wz z
def II{o:Obj}{z:B}{Q:Unit->ϋ->Prop}(K:StoreFacts ό bmB sa owner)(T:dM h S bmB bm)
  (hC:h.get? C=Z (excClassObj nm q C N bs bm O sn sub ab col dd k0 k1 k2 k3 k5 newId)) (hx:h.get? x=Z o) (hc:o.cls=.ref C) (V:Q () (h,g,d,t,os)):wpAny M A (checkBuiltinCall sa ([.ref x,z,v],[])) Q E (h,g,d,t,os):=by
 have P:(B.ref C::bm).contains (.type owner)=true:=by rw[Ax,T.hasType K.hasOwner,Zt]
 have ha:=K.args (.ref x) z v;simp only[checkBuiltinCall,K.kind,K.split];refine fH ?_;unfold isInstance
 repeat (first|(with_reducible refine wpAny_loadPart_at hx ?_;rw[hc])|(with_reducible refine wpAny_isSubtype_exc hC ?_;rw[P])|wp_step)
 cases Ye:Manifest.signature? sa with
 |none=>exact u7 V
 |some sig =>
  simp only[argsOk,Ye]at ha;have h2:Bind.checkArgs sa sig ([.ref x,z,v],[])=pure ():=ha;show wpAny M A (Bind.checkArgs sa sig ([.ref x,z,v],[])) Q E _;rw[h2];exact u7 V
def y8{tk:Tok}{Q:Fin->ϋ->Prop}{ns:List Str}(SF:StoreFacts ό bmB sa owner)(T:dM h S bmB bm)(hs:name∈S)
  (hC:h.get? C=Z (excClassObj nm q C N bs bm O sn sub ab col dd k0 k1 k2 k3 k5 newId)) (hn:h.Ns N mN) (bb:mN name=Y) (hB:typeLookup (.type ό) name=pure Y) (bD:x≠C) (I:h.Inst x C mA)
  (hq:∀h' tk',h'.Inst x C (λy=>if y=name then Z v else mA y)->(∀b o,b≠x->(∀z dx,h.get? x=Z z->z.dict=Z dx->b≠dx)->h.get? b=Z o->h'.get? b=Z o) ->
   (∀z,h.get? x=Z z->∃K,h'.get? x=Z K/\K.cls=z.cls/\K.data=z.data/\K.slots=z.slots/\(∀dx,z.dict=Z dx->K.dict=Z dx)/\(z.dict=Y->K.dict=Z h.objs.size))->Q (.done (.ret .none)) (h',g,d,tk',os)) (hw:Within mA ns) (hsz:ns.length+1<=ot):
  wpAny (model prog w) A (Builtin.«object.__setattr__» ([.ref x,.str name tk,v],[])) Q E (h,g,d,t,os):=by
 let(o,hx,hc,aD,hd):=I;have WK:=(T.refuse (.ref x) "__setattr__").trans (SF.passes (.ref x));unfold Builtin.«object.__setattr__»
 repeat (first|rw[refuse_eq]|(rw[refuseLoop_ref,WK])|(with_reducible refine wpAny_loadPart_at hx ?_;rw[hc])|with_reducible refine wpAny_mroOf_exc hC ?_|(with_reducible refine c4 hs hC hn T SF.mro hB ?_;rw[bb])|wp_step)
 obtain⟨a4,bf⟩|⟨dx,ah,aw,a6⟩:=hd
 ·rw[a4,if_neg (by simp[typeHasDict])]
  split
  ·rename_i aL;cases aL
  split
  ·rename_i c aL;exact absurd aL (aD c)
  ·have a0:(h.push {cls:=.type "dict",data:=.dict #[]}).get? x=Z o:=iP _ hx;have ak:x≠h.objs.size:=Aw (uY hx);refine fH (wpAny_alloc' ?_);refine fH (wpAny_update' a0 ?_);refine u7 ?_;have bj:((h.push {cls:=.type "dict",data:=.dict #[]}).update x λo=>{cls:=o.cls,dict:=Z h.objs.size,data:=o.data,slots:=o.slots}).get? h.objs.size=Z {cls:=.type "dict",data:=.dict #[]} :=
    (aa8 _ _ _ _ ak.symm).trans (Heap.get?_push_at U U)
   have a9:((h.push {cls:=.type "dict",data:=.dict #[]}).update x λo=>{cls:=o.cls,dict:=Z h.objs.size,data:=o.data,slots:=o.slots}).Ns h.objs.size (λ_=>Y) :=
    (_,#[],_,bj,U,λe he=>absurd he (by simp),λ_=>rfl)
   show wpAny _ _ (storeInDict h.objs.size (.str name tk) name v) _ _ _;unfold storeInDict newKeyGuard;refine fH (u7 (fH (wpAny_nsSet1 (Heap.Ns1.of_empty a9) λh' V P=>?_)))
   let(oD,bA,bC,au,aH,aX):=V.count (Within.cons name v Within.nil);refine fH (wpAny_lookBehind au (by rw[aH];exact pastItsLine_dict (u4 aX (by rw[my,ZF,Y1];omega))) ?_)
   wp_walk
   have a3:h'.get? x=Z {cls:=o.cls,dict:=Z h.objs.size,data:=o.data,slots:=o.slots}:=?_;refine hq h' _ ({cls:=o.cls,dict:=Z h.objs.size,data:=o.data,slots:=o.slots},a3,hc,aD,.inr (h.objs.size,U,ak.symm,?_)) (λb ob bt _ hb=>?_)
    (λz h₀=>by obtain rfl:o=z:=Option.some.inj (hx.symm.trans h₀);exact(_,a3,U,U,U,λdx e=>(by rw[a4]at e;cases e),λ_=>rfl))
   ·let(o',es,ep,e1,e2,e3,eu,e4):=V;exact(o',es,ep,e1,e2,e3,eu,λy=>by rw[e4 y];by_cases hy:y=name <;> simp[hy,bf])
   ·exact(P.2 b (Aw (uY hb))).trans ((aa8 _ _ _ _ bt).trans (iP _ hb))
   ·refine(P.2 x ak).trans (EV _ a0 ?_);have bp:=(Heap.get?_some_iff.mp hx).2;let(oc,od,a5,osl):=o;cases a5 <;> first|rfl|exact bp
 ·rw[ah];refine u7 ?_;show wpAny _ _ (storeInDict dx (.str name tk) name v) _ _ _;unfold storeInDict newKeyGuard;refine fH (u7 (fH (wpAny_nsSet1 a6 λh' V P=>?_)))
  let(oD,bA,bC,au,aH,aX):=V.count (Within.cons name v hw);refine fH (wpAny_lookBehind au (by rw[aH];exact pastItsLine_dict (u4 aX (by rw[my];omega))) ?_)
  wp_walk
  refine hq h' _ (o,(P.2 x aw.symm).trans hx,hc,aD,.inr (dx,ah,aw,V)) (λb ob _ bx hb=>?_) (λz h₀=>(z,(P.2 x aw.symm).trans h₀,U,U,U,λ_ e=>e,λe=>(by obtain rfl:o=z:=Option.some.inj (hx.symm.trans h₀);rw[ah]at e;cases e)))
  exact(P.2 b (bx o dx hx ah)).trans hb
def tZ{Q:Unit->ϋ->Prop}{ns:List Str}(P:StoreFacts ό bmB sa owner)(T:dM h S bmB bm)(hs:name∈S)(ah:("__setattr__":Str)∈S)
  (hC:h.get? C=Z (excClassObj nm q C N bs bm O sn sub ab col dd k0 k1 k2 k3 k5 newId)) (hn:h.Ns N mN) (ak:mN "__setattr__"=Y) (au:mN name=Y) (hB:typeLookup (.type ό) name=pure Y) (V:x≠C) (I:h.Inst x C mA)
  (hq:∀h' tk',h'.Inst x C (λy=>if y=name then Z v else mA y)->(∀b o,b≠x->(∀z dx,h.get? x=Z z->z.dict=Z dx->b≠dx)->h.get? b=Z o->h'.get? b=Z o) ->
   (∀z,h.get? x=Z z->∃K,h'.get? x=Z K/\K.cls=z.cls/\K.data=z.data/\K.slots=z.slots/\(∀dx,z.dict=Z dx->K.dict=Z dx)/\(z.dict=Y->K.dict=Z h.objs.size))->Q () (h',g,d,tk',os)) (hw:Within mA ns) (hsz:ns.length+1<=ot):
  wpAny (model prog w) A (setAttr (.ref x) name v) Q E (h,g,d,t,os):=by
 let(o,hx,hc,_):=id I;have f3:=P.slot.bind (.ref x);unfold setAttr callSpecial? specialOf
 repeat (any_goals (first|assumption|(with_reducible refine wpAny_loadPart_at hx ?_;rw[hc])|(with_reducible refine c4 ah hC hn T P.mro P.slot.lookup ?_;rw[ak])|wp_step))
 refine codeAny_call_builtin P.slot.plain P.entry (II P T hC hx hc (y8 P T hs hC hn au hB V I (λh' tk' I' hk uk=>?_) hw hsz))
 repeat (any_goals (first|assumption|wp_step))
 exact hq h' tk' I' hk uk
end
end PySem
namespace PySem
open Sem (wp)
open Builtin Builtin.ObjectAttr
section
variable{prog:Db}{w:Da}{A:Do}{E:B->ϋ->Prop}{h:Ev}{g:Array aa7}{d:Drawn}{t:Nat}{os:OsState}
variable{nm q:Str}{C N x:J}{bs bm bmB:List B}{sn:List Str}{sub:List B}{ab pL:Bool}{col:Option Bool}{dd:Option J}{k0 k1 k2 k3 k5:Option B}{ό newId:String}
 {mN mA:Str->Option B} {name:Str} {v:B} {S:List Str} {o:Obj}
theorem yy{M:Model}{z:B}{Q:Unit->ϋ->Prop}(FB:ExcAttrBase ό bmB)(T:dM h S bmB bm)(V:h.get? C=Z (excClassObj nm q C N bs bm pL sn sub ab col dd k0 k1 k2 k3 k5 newId))
  (hx:h.get? x=Z o) (P:o.cls=.ref C) (K:Q () (h,g,d,t,os)):wpAny M A (checkBuiltinCall "BaseException.__getattribute__" ([.ref x,z],[])) Q E (h,g,d,t,os):=by
 have e1:builtinKind "BaseException.__getattribute__"=Z .slot:=by decide +kernel
 have e2:splitId "BaseException.__getattribute__"=Z ("BaseException","__getattribute__"):=by decide +kernel
 have e3:(B.ref C::bm).contains (.type "BaseException")=true:=by rw[Ax,T.hasType FB.hasBase,Zt]
 have ha:=F.args_bexc_ga (.ref x) z;simp only[checkBuiltinCall,e1,e2];refine fH ?_;unfold isInstance
 repeat (first|(with_reducible refine wpAny_loadPart_at hx ?_;rw[P])|(with_reducible refine wpAny_isSubtype_exc V ?_;rw[e3])|wp_step)
 exact K
def Eg{tk:Tok}{Q:Fin->ϋ->Prop}(FB:ExcAttrBase ό bmB)(T:dM h S bmB bm)(hs:name∈S)(hC:h.get? C=Z (excClassObj nm q C N bs bm O sn sub ab col dd k0 k1 k2 k3 k5 newId))(hn:h.Ns N mN)
  (P:mN name=Y) (hB:typeLookup (.type ό) name=pure Y) (I:h.Inst x C mA) (hv:mA name=Z v) (hh:handedOut v=pure v) (hq:Q (.done (.ret v)) (h,g,d,t,os)):
  wpAny (model prog w) A (Builtin.«object.__getattribute__» ([.ref x,.str name tk],[])) Q E (h,g,d,t,os):=by
 let(o,hx,hc,K,hd):=I;obtain⟨_,V⟩|⟨dx,ah,au,z⟩:=hd
 ·rw[V name]at hv;cases hv
 unfold Builtin.«object.__getattribute__»
 repeat (first|(with_reducible refine wpAny_loadPart_at hx ?_;rw[hc])|(with_reducible refine c4 hs hC hn T FB.mro hB ?_;rw[P])|wp_step)
 split
 ·rename_i c ak;exact absurd ak (K c)
 unfold instanceDict
 repeat (first|(with_reducible refine wpAny_loadPart_at hx ?_;rw[hc])|with_reducible refine wpAny_loadPart_at hC ?_|wp_step)
 rw[ah]
 repeat (first|(with_reducible refine wpAny_nsGet z.ns ?_;rw[hv])|wp_step)
 exact hq
theorem Eh{expr:Bool}{Q:B->ϋ->Prop}(FB:ExcAttrBase ό bmB)(T:dM h S bmB bm)(hs:name∈S)(P:("__getattribute__":Str)∈S)(K:("__getattr__":Str)∈S)
  (V:h.get? C=Z (excClassObj nm q C N bs bm O sn sub ab col dd k0 k1 k2 k3 k5 newId)) (hn:h.Ns N mN) (z:∀n∈S,mN n=Y)
  (hB:typeLookup (.type ό) name=pure Y) (I:h.Inst x C mA) (hv:mA name=Z v) (hh:handedOut v=pure v) (hq:Q v (h,g,d,t+1,os)):
  wpAny (model prog w) A (getAttr (.ref x) name expr) Q E (h,g,d,t,os):=by
 let(o,hx,hc,_):=id I;have f3:=FB.ga.bind (.ref x);have b0:(expr&&onTheHeap (B.builtin "BaseException.__getattribute__"))=false:=by cases expr <;> rfl
 have b2:(B.builtin "BaseException.__getattribute__" == B.builtin "object.__getattribute__")=false:=by decide +kernel
 have b1:(onTheHeap (B.ref C)&&B.builtin "BaseException.__getattribute__" == B.builtin "object.__getattribute__")=false:=by rw[b2];rfl
 have n1:=z _ P;have n2:=z _ K;unfold getAttr getAttrBy
 repeat (any_goals (first|assumption|(with_reducible refine wpAny_loadPart_at hx ?_;rw[hc])|(with_reducible refine c4 P V hn T FB.mro FB.ga.lookup ?_;rw[n1])|(with_reducible refine c4 K V hn T FB.mro FB.noGetattr ?_;rw[n2])|wp_step))
 refine codeAny_call_builtin FB.ga.plain F.entry_bexc_ga (yy FB T V hx hc (Eg FB T hs V hn (z _ hs) hB I hv hh ?_))
 repeat (any_goals (first|assumption|wp_step))
theorem EH{R:Result->ϋ->Prop}(z:bmB.contains (.type "object")=O)(T:dM h S bmB bm)(Q:h.get? C=Z (excClassObj nm q C N bs bm pL sn sub ab col dd k0 k1 k2 k3 k5 newId))
  (hx:h.get? x=Z o) (P:o.cls=.ref C) (hq:R (.ok (.ret (.ref C))) (h,g,d,t,os)):
  codeAny (model prog w) A (.call (.builtin "getset_descriptor.__get__") ([.builtin "object.__class__",.ref x,.ref C],[])) R (h,g,d,t,os):=by
 have K:((h,g,d,t,os):ϋ).TypeIs (.builtin "object.__class__") "getset_descriptor":=F.typeOf_object_class;have V:(B.ref C::bm).contains (.type (".".intercalate ("object.__class__".cutAt '.').dropLast))=true:=by
  rw[F.owner_object_class,Ax,T.hasType z,Zt]
 refine codeAny_call_builtin F.slot_gs_get.plain F.entry_gs_get (F.slot_gs_get.check _ _ _ _ _ _ _ _ K (F.args_gs_get _ _ _) ?_)
 repeat (any_goals (first|assumption|(with_reducible refine wpAny_loadPart_at hx ?_;rw[P])|(with_reducible refine wpAny_isSubtype_exc Q ?_;rw[V])|wp_step))
 refine(Code.quiet_builtin _ (by decide +kernel),codeAny_builtin F.entry_object_class ?_)
 repeat (any_goals (first|assumption|(with_reducible refine wpAny_loadPart_at hx ?_;rw[P])|wp_step))
theorem Co{tk:Tok}{Q:Fin->ϋ->Prop}(P:typeLookup (.type ό) "__class__"=pure (Z (.builtin "object.__class__")))(z:bmB.contains (.type "object")=O)(hs:("__class__":Str)∈S)(FB:ExcAttrBase ό bmB)(T:dM h S bmB bm)
  (hC:h.get? C=Z (excClassObj nm q C N bs bm pL sn sub ab col dd k0 k1 k2 k3 k5 newId)) (hn:h.Ns N mN) (K:∀n∈S,mN n=Y) (hx:h.get? x=Z o) (V:o.cls=.ref C) (hq:Q (.done (.ret (.ref C))) (h,g,d,t,os)):
  wpAny (model prog w) A (Builtin.«object.__getattribute__» ([.ref x,.str "__class__" tk],[])) Q E (h,g,d,t,os):=by
 have ah:((h,g,d,t,os):ϋ).TypeIs (.builtin "object.__class__") "getset_descriptor":=F.typeOf_object_class;have f5:=F.typeOf_object_class;have f6:=F.slot_gs_get.lookup;have f7:=F.slot_gs_set.lookup;have n1:=K _ hs
 repeat (any_goals (first|assumption|(with_reducible refine wpAny_loadPart_at hx ?_;rw[V])|(with_reducible refine c4 hs hC hn T FB.mro P ?_;rw[n1])|wp_step))
 refine EH z T hC hx V ?_
 repeat (any_goals (first|assumption|wp_step))
theorem IH{tk:Tok}{Q:B->ϋ->Prop}(ak:typeLookup (.type ό) "__class__"=pure (Z (.builtin "object.__class__")))(ah:bmB.contains (.type "object")=O)(hs:("__class__":Str)∈S)(P:("__getattribute__":Str)∈S)(K:("__getattr__":Str)∈S)(FB:ExcAttrBase ό bmB)(T:dM h S bmB bm)
  (V:h.get? C=Z (excClassObj nm q C N bs bm pL sn sub ab col dd k0 k1 k2 k3 k5 newId)) (hn:h.Ns N mN) (z:∀n∈S,mN n=Y) (hx:h.get? x=Z o) (hc:o.cls=.ref C) (hq:Q (.ref C) (h,g,d,t,os)):
  wpAny (model prog w) A (getAttrBy (.ref x) (.str "__class__" tk) ϊ) Q E (h,g,d,t,os):=by
 have f3:=FB.ga.bind (.ref x);have b2:(B.builtin "BaseException.__getattribute__" == B.builtin "object.__getattribute__")=false:=by decide +kernel
 have b1:(onTheHeap (B.ref C)&&B.builtin "BaseException.__getattribute__" == B.builtin "object.__getattribute__")=false:=by rw[b2];rfl
 have n1:=z _ P;have n2:=z _ K
 repeat (any_goals (first|assumption|(with_reducible refine wpAny_loadPart_at hx ?_;rw[hc])|(with_reducible refine c4 P V hn T FB.mro FB.ga.lookup ?_;rw[n1])|(with_reducible refine c4 K V hn T FB.mro FB.noGetattr ?_;rw[n2])|wp_step))
 refine codeAny_call_builtin FB.ga.plain F.entry_bexc_ga (yy FB T V hx hc (Co ak ah hs FB T V hn z hx hc ?_))
 repeat (any_goals (first|assumption|wp_step))
def Cp{Q:Option B->ϋ->Prop}(ah:typeLookup (.type ό) "__class__"=pure (Z (.builtin "object.__class__")))(P:bmB.contains (.type "object")=O)(hs:("__class__":Str)∈S)(K:("__getattribute__":Str)∈S)(z:("__getattr__":Str)∈S)(FB:ExcAttrBase ό bmB)(T:dM h S bmB bm)
  (hC:h.get? C=Z (excClassObj nm q C N bs bm pL sn sub ab col dd k0 k1 k2 k3 k5 newId)) (hn:h.Ns N mN) (V:∀n∈S,mN n=Y) (hx:h.get? x=Z o) (hc:o.cls=.ref C) (hq:Q (Z (.ref C)) (h,g,d,t+1,os)):
  wpAny (model prog w) A (getAttr? (.ref x) "__class__") Q E (h,g,d,t,os):=by
 unfold getAttr? getAttrBy?
 repeat (any_goals (first|assumption|with_reducible apply IH ah P hs K z FB T hC hn V hx hc|wp_step))
end
end PySem
namespace PySem
open Sem (wp)
def xg(h:Ev)(e:J)(cls:B)(dx:Option J)(y:B):Prop :=
 ∃o vs g,h.get? e=Z o/\o.cls=cls/\o.dict=dx/\o.data=.fields vs/\vs[0]?=Z g/\vs[1]?=Z y
def jS(h:Ev)(e:J)(cls:B)(dx:Option J)(T:J)(fl:B):Prop :=
 T≠e/\xg h e cls dx (.ref T)/\∃oT ts,h.get? T=Z oT/\oT.data=.fields ts/\ts[3]?=Z fl
structure gL(fr ex:List J)(h h':Ev):Prop where
 keep:∀b o,h.get? b=Z o->b ∉ fr->b ∉ ex->h'.get? b=Z o
 slot:∀b o,h.get? b=Z o->b ∉ ex->∃sl,h'.get? b=Z {o with slots:=sl}
 there:∀b o,h.get? b=Z o->∃o',h'.get? b=Z o'
def gL.trans{fr ex g:List J}{h h1 h2:Ev}(a:gL fr ex h h1)(b:gL fr g h1 h2)(hs:∀b o,h.get? b=Z o->b∈g->b∈ex):gL fr ex h h2 where
 keep:=λc o e hf hx=>b.keep c o (a.keep c o e hf hx) hf λz=>hx (hs c o e z)
 slot:=λc o e hx=>by
  let(sl,K):=a.slot c o e hx;let(q,P):=b.slot c _ K λz=>hx (hs c o e z)
  exact(q,P)
 there:=λc o e=>let(o',K):=a.there c o e;b.there c o' K
def gL.mono{fr fr' ex ex':List J}{h h1:Ev}(a:gL fr ex h h1)(hf:∀b∈fr,b∈fr')(hx:∀b∈ex,b∈ex'):gL fr' ex' h h1 :=
 (λb o e n m=>a.keep b o e (λz=>n (hf b z)) λz=>m (hx b z),λb o e m=>a.slot b o e λz=>m (hx b z),a.there)
def gL.oj{fr ex:List J}{h h1 base:Ev}{l:List Env}(a:gL fr ex h h1)(hx:∀b o,b∈ex->h.get? b=Z o->∃vs,o.data=.fields vs)(hl:h.FunFrames base l):h1.FunFrames base l :=
 hl.of_keeps λb o e hn=>by
  let(sl,q):=a.slot b o e λz=>by let(vs,q):=hx b o z e;exact hn vs q
  exact(_,q,U)
def mG{h:Ev}{T i:Nat}{x:B}{oT:Obj}{ts:Array B}(hT:h.get? T=Z oT)(hd:oT.data=.fields ts):gL [] [T] h (h.update T (ZD (·.setIfInBounds i x))):=by
 have q:∀b,b≠T->(h.update T (ZD (·.setIfInBounds i x))).get? b=h.get? b:=λb g=>B5 _ _ (Ne.symm g)
 refine(λb o e _ n=>(q b λz=>n (by simp[z])).trans e,λb o e n=>(o.slots,(q b λz=>n (by simp[z])).trans e),λb o e=>?_)
 by_cases g:b=T
 ·rw[g];exact(_,EV _ hT (Ze (YR hd _)))
 ·exact(o,(q b g).trans e)
section
variable{M:Model}{A:Do}{E:B->ϋ->Prop}{s:ϋ}
variable{base:Ev}{env:Env}{outer:List Env}{L e T:J}{cls:B}{dx:Option J}{Q:Unit->ϋ->Prop}
def L9{y head:B}{Pb:Bool}(ak:A.frames=Z (env::outer))(hl:s.heap.FunFrames base (env::outer))(hf:env.frame=Z L)(hx:xg s.heap e cls dx y)
  (hq:∀h' T',s.heap.objs.size<=T'->jS h' e cls dx T' (rawInt L)->gL ((env::outer).filterMap (·.frame)) [e] s.heap h'->Q () {s with heap:=h'}):
  wpAny M A (do let a <- frameOf env;let pl <- entryPlaceOf L Pb;let b <- EntryCells.newEntry head a .none (rawInt L) .none pl;setField (.ref e) 1 b) Q E s:=by
 let(o,vs,a0,ho,hc,au,hd,h0,h1):=hx;have hsz:1<vs.size:=(Zh.mp h1).1;have ah:e ∉ (env::outer).filterMap (·.frame):=λz=>by
  let(_,o',P,hn):=hl.mem z;rw[ho]at P;cases P;exact hn vs hd
 refine fH (wpAny_frameOf_fun ak hl hf λg hg=>?_)
 refine fH (wpAny_entryPlaceOf λpl K=>?_)
 unfold EntryCells.newEntry newFields;refine fH (Zf ?_ (K.sizeOk5 _ _ _ _ _));have e1:g.get? e=Z o:=(hg.2.1 e ah).trans ho;have e2:=iP (h:=g) {cls:=.type "traceback",dict:=Y,data:=.fields ([head,.ref L,.none,rawInt L,.none]++(if pl.isEmpty then xV 6 B.none else pl)).toArray} e1
 have V:g.objs.size≠e:=ZK (uY e1);have d3:=YR hd (·.setIfInBounds 1 (B.ref g.objs.size));have e3:=EV (ZD (·.setIfInBounds 1 (B.ref g.objs.size))) e2 (Ze d3);refine Zv e2 hd hsz (hq _ g.objs.size (ZZ hg.1.symm) (V,(_,_,a0,e3,(Obj.cls_mapFields _ _).trans hc,?_,d3,by rw[Array.getElem?_setIfInBounds_ne (by decide)];exact h0,by simp[hsz]),?_) ?_)
 ·rw[<- au];let(_,_,dt,_):=o;cases dt <;> rfl
 ·exact(_,_,(B5 _ _ (Ne.symm V)).trans (u3 g U),U,by first|(simp;done)|(obtain rfl |⟨_,_,_,_,_,_,_,rfl⟩:=K <;> simp))
 ·have kp:∀b ob,b≠e->g.get? b=Z ob->((g.push {cls:=.type "traceback",dict:=Y,data:=.fields ([head,.ref L,.none,rawInt L,.none]++(if pl.isEmpty then xV 6 B.none else pl)).toArray}).update e (ZD (·.setIfInBounds 1 (B.ref g.objs.size)))).get? b=Z ob :=
   λb ob hb q=>(B5 _ _ (Ne.symm hb)).trans (iP _ q)
  refine(λb ob q n m=>kp b ob (λz=>m (by simp[z])) ((hg.2.1 b n).trans q),λb ob q m=>?_,λb ob q=>?_)
  ·let(sl,q2):=hg.2.2 b ob q;exact(sl,kp b _ (λz=>m (by simp[z])) q2)
  ·by_cases hb:b=e
   ·rw[hb];exact(_,e3)
   ·let(sl,q2):=hg.2.2 b ob q;exact(_,kp b _ hb q2)
def jl{fl:B}(hx:jS s.heap e cls dx T fl)(P:∀h',jS h' e cls dx T .none->gL [] [T] s.heap h'->Q () {s with heap:=h'}):wpAny M A (setFlight (.ref e) Y) Q E s:=by
 let(z,(o,vs,a0,ho,V,K,hd,h0,h1),oT,ts,hT,g,h3):=hx;have q:3<ts.size:=(Zh.mp h3).1;unfold setFlight;refine fH (wpAny_field ho hd h1 ?_);rw[if_pos (show(B.ref T != B.none)=O from by simp)]
 refine Zv hT g q (P _ (z,(o,vs,a0,(B5 _ _ z).trans ho,V,K,hd,h0,h1),_,_,EV _ hT (Ze (YR g _)),YR g _,by simp[q]) (mG hT g))
def ud(g:A.frames=Z (env::outer))(hl:s.heap.FunFrames base (env::outer))(hf:env.frame=Z L)(hx:xg s.heap e cls dx .none)
  (z:∀h' q,s.heap.objs.size<=q->jS h' e cls dx q (rawInt L)->gL ((env::outer).filterMap (·.frame)) [e] s.heap h'->Q () {s with heap:=h'}):wpAny M A (noteFrame (.ref e) env) Q E s:=by
 let(o,vs,V,ho,P,K,hd,h0,h1):=id hx;unfold noteFrame;simp only[hf];refine fH (wpAny_field ho hd h1 ?_);rw[if_neg (by decide)]
 exact L9 g hl hf hx z
def v8(V:A.frames=Z (env::outer))(hl:s.heap.FunFrames base (env::outer))(hf:env.frame=Z L)(hx:jS s.heap e cls dx T .none)
  (hq:∀h' K,s.heap.objs.size<=K->jS h' e cls dx K (rawInt L)->gL ((env::outer).filterMap (·.frame)) [e,T] s.heap h'->Q () {s with heap:=h'}):wpAny M A (noteFrame (.ref e) env) Q E s:=by
 let(au,(o,vs,a0,ho,hc,ah,hd,h0,h1),oT,ts,hT,g,h3):=hx;unfold noteFrame;simp only[hf];refine fH (wpAny_field ho hd h1 ?_);rw[if_pos (show(B.ref T != B.none)=O from by simp)]
 refine fH (wpAny_field hT g h3 ?_);rw[if_neg (show ¬((B.none==rawInt L)=O)from by simp[rawInt])]
 refine fH (Zv hT g (Zh.mp h3).1 ?_);have k1:=mG (i:=3) (x:=B.none) hT g;have P:∀b ob,b ∈ [T]->s.heap.get? b=Z ob->∃ws,ob.data=.fields ws:=λb ob hb q=>by
  have ak:b=T:=by simpa using hb
  subst ak;rw[hT]at q;cases q;exact(ts,g)
 refine L9 (y:=.ref T) V (k1.oj P hl) hf (o,vs,a0,(B5 _ _ au).trans ho,hc,ah,hd,h0,h1) λh' K sz al k2=>hq h' K ?_ al ?_
 ·have:(s.heap.update T (ZD (·.setIfInBounds 3 B.none))).objs.size=s.heap.objs.size:=by simp[Heap.update]
  exact u4 (ZZ this.symm) sz
 ·exact(k1.mono (fr':=(env::outer).filterMap (·.frame)) (ex':=[e,T]) (λ_ z=>nomatch z) (λb z=>by simp at z;simp[z])).trans k2 λb ob _ z=>by simp at z;simp[z]
def wj(g:A.frames=Z (env::outer))(hl:s.heap.FunFrames base (env::outer))(hf:env.frame=Z L)(hx:xg s.heap e cls dx .none)
  (hq:∀h' T',s.heap.objs.size<=T'->jS h' e cls dx T' .none->gL ((env::outer).filterMap (·.frame)) [e] s.heap h'->Q () {s with heap:=h'}):wpAny M A (leaving env (.ref e)) Q E s:=by
 unfold leaving;refine fH (ud g hl hf hx λh1 V sz al k1=>jl al λh2 P k2=>hq h2 V sz P ?_)
 exact k1.trans (k2.mono (λ_ z=>nomatch z) λb z=>z) λb ob q z=>by
  have K:b=V:=by simpa using z
  subst K;exact absurd (wa (uY q) sz) (EW _)
def xC(g:A.frames=Z (env::outer))(hl:s.heap.FunFrames base (env::outer))(hf:env.frame=Z L)(hx:jS s.heap e cls dx T .none)
  (hq:∀h' T',s.heap.objs.size<=T'->jS h' e cls dx T' .none->gL ((env::outer).filterMap (·.frame)) [e,T] s.heap h'->Q () {s with heap:=h'}):wpAny M A (leaving env (.ref e)) Q E s:=by
 unfold leaving;refine fH (v8 g hl hf hx λh1 V sz al k1=>jl al λh2 P k2=>hq h2 V sz P ?_)
 exact k1.trans (k2.mono (λ_ z=>nomatch z) λb z=>z) λb ob q z=>by
  have K:b=V:=by simpa using z
  subst K;exact absurd (wa (uY q) sz) (EW _)
end
end PySem
namespace L2
open PySem PySem.Spec PyProof.Rows
abbrev bmV:List Value:=[.type "ValueError",.type "Exception",.type "BaseException",.type "object"]
abbrev xS(fn:List Str):List Str:="__setattr__" :: "__getattribute__" :: "__getattr__" :: "__class__" :: fn
structure cv(K:BT)(fn:List Str)(C:J)(bm:List B)(ini:Option J):Prop where
 all:∀h:Ev,K.In h->∃nm q N bs sn sub ab col dd k0 k1 k2 k3 k5 mN,h.get? C=Z (excClassObj nm q C N bs bm O sn sub ab col dd k0 k1 k2 k3 k5 "ValueError.__new__")/\h.Ns N mN /\
  (∀n∈xS fn,mN n=Y)/\mN "__init__"=ini.map B.ref/\dM h ("__init__" :: xS fn) bmV bm
 cl:∃cd,W.clsIn K C=Z cd/\cd.mro=.ref C::bm
 ty:W.typeIn K (.ref C)=Z (.type "type")
def u9(K:BT)(S:List Str)(bmB:List B):List B->Bool
 |[]=>bmB == []
 |v::r=>(v::r)==bmB||match v with
  |.ref A=>(match K.lookup A with
   |some (_,_,.cls cd,_)=>W.nsOkIn K cd.ns&&S.all (λn=>W.nsIn K cd.ns n==Z Y)&&u9 K S bmB r
   |_=>ϊ)
  |_=>ϊ
theorem AO{K:BT}{h:Ev}{S:List Str}{bmB:List B}(X:K.In h):∀{l:List B},u9 K S bmB l=O->dM h S bmB l
 |[],e=>by rw[<- beq_iff_eq.mp e];exact .base
 |v::r,e=>by
  unfold u9 at e;obtain q|q:=Bool.or_eq_true_iff.mp e
  ·rw[beq_iff_eq.mp q];exact .base
  ·split at q
   ·split at q
    ·rename_i ho;rw[ti,ti]at q;exact .own (X _ _ ho) (.of_isNs (W.isNs_of_in X q.1.1)) (λn hn=>W.nsMap_none_of_in X q.1.1 (beq_iff_eq.mp (Av.mp q.1.2 n hn))) (AO X q.2)
    ·cases q
   ·cases q
def W8:Data->Option ClassData
 |.cls cd=>Z cd
 |_=>Y
def IG{d:Data}{cd:ClassData}(h:W8 d=Z cd):d=.cls cd:=by
 cases d <;> first|exact congrArg Data.cls (Option.some.inj h)|cases h
def Jh(K:BT)(fn:List Str)(C:J)(bm:List B)(ini:Option J)(sl:Array (Option B))(cd:ClassData):Bool :=
 cd.mro == .ref C::bm&&sl.size==6&&sl[4]? == Z (Z (.builtin "ValueError.__new__")) && !cd.hasDel&&cd.hasDict&&u9 K ("__init__" :: xS fn) bmV bm&&W.nsOkIn K cd.ns &&
  (xS fn).all (λn=>W.nsIn K cd.ns n==Z Y)&&W.nsIn K cd.ns "__init__" == Z (ini.map B.ref)
def jT(K:BT)(fn:List Str)(C:J)(bm:List B)(ini:Option J):Bool:=(K.lookup C).any λo=>o.cls == .type "type" && (W8 o.data).any (Jh K fn C bm ini o.slots)
def any_some{α:Type}{o:Option α}{f:α->Bool}(h:o.any f=O):∃a,o=Z a/\f a=true:=by
 cases o with
 |none=>cases h
 |some a=>exact(a,U,h)
def six{α:Type}{l:List α}(h:l.length=6):∃a b c d e f,l=[a,b,c,d,e,f]:=by
 cases l with
 |nil=>cases h
 |cons a l=>cases l with
  |nil=>cases h
  |cons b l=>cases l with
   |nil=>cases h
   |cons c l=>cases l with
    |nil=>cases h
    |cons d l=>cases l with
     |nil=>cases h
     |cons e l=>cases l with
      |nil=>cases h
      |cons f l=>exact(a,b,c,d,e,f,by rw[Y6.mp (show l.length=0 by simpa using h)])
variable{mg:Str->Option B}
theorem D7{K:BT}{h:Ev}{N:J}{n:Str}{v:B}(X:K.In h)(G:h.Ns N mg)(e:W.nsIn K N n=Z (Z v)):mg n=Z v:=by
 let(o,es,P,ho,hd,_,hf):=G;unfold W.nsIn at e
 split at e
 ·rename_i c d g z sl q
  have:=X _ _ q
  rw[ho]at this;cases this;cases hd
  split at e
  ·rename_i Q he;cases e;rw[<- hf];unfold nsFind findBy;rw[<- ab3,he];rfl
  ·split at e <;> cases e
 ·cases e
variable{C:J}{bm:List B}{ini:Option J}
theorem jx{K:BT}{fn:List Str}(q:jT K fn C bm ini=O):cv K fn C bm ini:=by
 unfold jT at q;let((cl,dd,da,sl),ho,q):=any_some q;rw[ti]at q;let(q0,q):=q;let(cd,z,q):=any_some q;have e0:cl=.type "type":=eq_of_beq q0;have e1:da=.cls cd:=IG z;subst e0 e1;unfold Jh at q;simp only[ti,beq_iff_eq,Bool.not_eq_true']at q;let((((((((hm,h6),h4),Q),V),ht),hok),P),g):=q;let(nm,bs,mro,ns,qn,hd,sn,sub,ab,col,del):=cd;dsimp only at hm Q hok g V P;subst hm Q V;let⟨l⟩:=sl;let(k0,k1,k2,k3,k4,k5,U):=six (l:=l) h6;obtain rfl:k4=Z (.builtin "ValueError.__new__"):=Option.some.inj h4;refine(λh X=>?_,(_,by unfold W.clsIn;rw[ho],U),by show(K.lookup _).map (·.cls)=_;rw[ho];rfl)
 refine(nm,qn,ns,bs,sn,sub,ab,col,dd,k0,k1,k2,k3,k5,_,X _ _ ho,.of_isNs (W.isNs_of_in X hok),λn hn=>W.nsMap_none_of_in X hok (by simpa using Av.mp P n hn),?_,AO X ht)
 cases ini with
 |none=>exact W.nsMap_none_of_in X hok g
 |some f=>exact D7 X (.of_isNs (W.isNs_of_in X hok)) g
def _root_.PySem.dM.sub{h:Ev}{S g:List Str}{bmB tl:List B}(T:dM h S bmB tl)(hs:∀n∈g,n∈S):dM h g bmB tl:=by
 induction T with
 |base=>exact .base
 |own a b c _ q=>exact .own a b (λn hn=>c n (hs n hn)) q
def XAt(a C:J)(dx:Option J)(b:Bool)(h:Ev):Prop:=∃y,xg h a (.ref C) dx y/\(b=O->y=.none)
def XD(dx:J)(fs:List (Str×V))(h:Ev):Prop:=∃mA,h.Ns1 dx mA/\(∀f,lN (fs.lookup f) (mA f))/\PySem.Within mA (fs.map (·.1))
def ExH(H:Hp)(a C:J)(b:Bool)(fs:List (Str×V)):Prop:=(fs=[]/\H a=Z (.ext (XAt a C Y b)))\/∃dx,dx≠a/\H a=Z (.ext (XAt a C (Z dx) b))/\H dx=Z (.ext (XD dx fs))
variable{ex:List J}{φ:Ev->Prop}{o1:HO}{o2:HO}
section
variable{P:Db}{w:Da}{H:Hp}{h h':Ev}{a d:J}{dx:Option J}{b:Bool}{fs:List (Str×V)}
def XAt.ok(x:XAt a C dx b h):dm P w H h a (.ext (XAt a C dx b)):=by
 refine(x,?_,λh1 h2 (y,(o,vs,g,e,r),z) k=>(y,(o,vs,g,k o e,r),z))
 let(y,(o,vs,g,e,r),z):=x;exact(o,e)
def XD.ok(x:XD d fs h):dm P w H h d (.ext (XD d fs)):=by
 refine(x,?_,λh1 h2 (mA,(o,es,g,e,r),z) k=>(mA,(o,es,g,k o e,r),z))
 let(mA,(o,es,g,e,r),z):=x;exact(o,e)
def dm.at{o:HO}(x:dm P w H h a o):∃u,h.get? a=Z u:=by
 cases o with
 |lst xs=>let(_,_,_,_,e):=x;exact(_,e)
 |tup xs=>let(_,_,_,p):=x;let(o,e,_):=p.1;exact(o,e)
 |dK kvs=>let(_,_,_,_,o,_,_,e,_):=x;exact(o,e)
 |dT kvs=>let(_,_,_,_,o,_,_,e,_):=x;exact(o,e)
 |set S n=>let(o,_,_,_,e,_):=x;exact(o,e)
 |ins C dx fs=>let(_,_,_,e,_):=x;exact(_,e)
 |own y=>exact x
 |xd fs=>let(_,(o,_,_,e,_),_):=x;exact(o,e)
 |room g=>let(_,_,_,e):=x;exact(_,e)
 |rng lo hi=>let(_,_,_,e):=x;exact(_,e)
 |frz ob u=>let(e,_):=x;exact(_,e)
 |tbl ps=>exact(_,(show h.get? a=Z _ from x))
 |met f y=>exact(_,(show h.get? a=Z _ from x))
 |ext φ=>exact x.2.1
def HOk.no(x:HOk P w H h)(e:h.get? a=Y):H a=none:=by
 cases q:H a with
 |none=>rfl
 |some u =>
  let(v,z):=(x a u q).at;rw[e]at z;cases z
def HOk.BN{o:HO}(x:HOk P w H h)(k:∀b u,h.get? b=Z u->h'.get? b=Z u)(hp:h.get? a=Y)(new:dm P w (upd H a o) h' a o):HOk P w (upd H a o) h':=λb u e=>by
 have hn:=x.no hp;by_cases g:b=a
 ·subst g;rw[aC]at e;cases e;exact new
 ·rw[ax g]at e;exact(x b u e).eC (λc v _ q=>k c v q) (λc q=>by rw[ax (aZ q hn)];exact q) λc xs q=>by rw[ax (aZ q hn)];exact q
def Un.BN{fs:List J}{o:HO}(k:∀b u,h.get? b=Z u->h'.get? b=Z u)(hp:h.get? a=Y)(hn:H a=Y):Un fs ex H (upd H a o) h h' where
 keep:=λb u q _ _ _=>k b u q
 slot:=λb u q _ _ _=>(u.slots,k b u q)
 free:=λb u q n _=>by rw[ax (λz=>by rw[z,hp]at q;cases q)];exact n
 there:=λb u q _=>(u,k b u q)
 sk:=λb xs q=>by rw[ax (aZ q hn)];exact q
 pN:=λb u xs q=>by rw[ax (aZ q hn)];exact q
 sr:=λb ps q=>(#[],by rw[ax (aZ q hn),q];simp)
theorem Inv.BN{X:Cx}{gd:List (J×Obj)}{σ:St}{s:ϋ}{o:HO}{t':Nat}(I:Inv X gd σ H s)(k:∀b u,s.heap.get? b=Z u->h'.get? b=Z u)(hp:s.heap.get? a=Y)(new:dm X.prog X.w (upd H a o) h' a o):
  Inv X gd σ (upd H a o) {s with heap:=h',toks:=t'}:=I.un (Un.BN k hp (I.hok.no hp)) (I.hok.BN k hp new)
def Rj(x:HOk P w H h)(ha:H a=Z (.ext φ))(hd:h.get? d=Y)(k:∀b u,b≠a->h.get? b=Z u->h'.get? b=Z u)
  (V:dm P w (upd (upd H d o1) a o2) h' d o1) (Q:dm P w (upd (upd H d o1) a o2) h' a o2):HOk P w (upd (upd H d o1) a o2) h':=λb u e=>by
 have hn:=x.no hd;have st:∀c v,H c=Z v->v ≠ .ext φ->upd (upd H d o1) a o2 c=Z v:=λc v q nv=>by
  rw[ax (λz=>by rw[z,ha]at q;cases q;exact nv U),ax (aZ q hn)];exact q
 by_cases K:b=a
 ·subst K;rw[aC]at e;cases e;exact Q
 ·rw[ax K]at e;by_cases g:b=d
  ·subst g;rw[aC]at e;cases e;exact V
  ·rw[ax g]at e;refine(x b u e).eC (λc v hc q=>k c v ?_ q) (λc q=>st c _ q λz=>nomatch z) λc xs q=>st c _ q λz=>nomatch z
   obtain z|z:=hc
   ·rw[z];exact K
   ·exact dQ z ha λz=>nomatch z
def Ri{l:List J}(x:HOk P w H h)(ha:H a=Z (.ext φ))(hd:h.get? d=Y)(k:∀b u,b≠a->h.get? b=Z u->h'.get? b=Z u)(g:∃u,h'.get? a=Z u):Un l ex H (upd (upd H d o1) a o2) h h':=by
 have hn:=x.no hd;have na:∀b,H b=Y->b≠a:=λb n z=>by rw[z,ha]at n;cases n
 have st:∀c v,H c=Z v->v ≠ .ext φ->upd (upd H d o1) a o2 c=Z v:=λc v q nv=>by
  rw[ax (λz=>by rw[z,ha]at q;cases q;exact nv U),ax (aZ q hn)];exact q
 refine(λb u q n _ _=>k b u (na b n) q,λb u q n _ _=>(u.slots,k b u (na b n) q),λb u q n _=>?_,λb u q _=>?_,λb xs q=>st b _ q (λz=>nomatch z),λb u xs q=>st b _ q (λz=>nomatch z),λb ps q=>(#[],by rw[st b _ q (λz=>nomatch z)];simp))
 ·rw[ax (na b n),ax (λz=>by rw[z,hd]at q;cases q)];exact n
 ·by_cases K:b=a
  ·rw[K];exact g
  ·exact(u,k b u K q)
end
variable{mA:Str->Option B}{y:V}{u:B}{Q:B->ϋ->Prop}
section
variable{X:Cx}{gd:List (J×Obj)}{σ:St}{H:Hp}{s:ϋ}{a d:J}{fn:List Str}{dx:Option J}{b:Bool}{fs:List (Str×V)}{f:Str}{v:V}{A:Do}{E:B->ϋ->Prop}
def XAt.WB{h:Ev}(x:XAt a C Y b h):h.Inst a C (λ_=>Y):=by
 let(y,(o,vs,K,e,q,hd,g,_),_):=x;exact(o,e,q,λc z=>(by rw[g]at z;cases z),.inl (hd,λ_=>rfl))
def XAt.Qu{h:Ev}(x:XAt a C (Z d) b h)(ne:d≠a)(n:h.Ns1 d mA):h.Inst a C mA:=by
 let(y,(o,vs,K,e,q,hd,g,_),_):=x;exact(o,e,q,λc z=>(by rw[g]at z;cases z),.inr (d,hd,ne,n))
def FOk(f:Str):Prop:=typeLookup (.type "ValueError") f=pure Y
def cv.ne{h:Ev}(c:cv X.K fn C bm ini)(I:Inv X gd σ H s)(e:H a=Z (.ext φ))(P:∀h,φ h->∃o vs,h.get? a=Z o/\o.data=.fields vs):a≠C:=by
 intro z;let(nm,q,N,bs,sn,sub,ab,col,dd,k0,k1,k2,k3,k5,mN,Q,_):=c.all s.heap I.kIn;let(o,vs,g,V):=P _ (I.hok a _ e).1;rw[z,Q]at g;cases g;cases V
def XAt.rec{h:Ev}(x:XAt a C dx b h):∃o vs,h.get? a=Z o/\o.data=.fields vs:=let(_,(o,vs,_,e,_,_,hd,_),_):=x;(o,vs,e,hd)
def A8{fs:List (Str×V)}(r:∀g,lN (fs.lookup g) (mA g))(z:RelV y u)(g:Str):lN ((fC f y fs).lookup g) (if g=f then Z u else mA g):=by
 rw[m7];by_cases q:g=f
 ·rw[if_pos q,if_pos q];exact z
 ·rw[if_neg q,if_neg q];exact r g
def vw{fs:List (Str×V)}(wi:PySem.Within mA (fs.map (·.1))):PySem.Within (λg=>if g=f then Z u else mA g) ((fC f y fs).map (·.1)):=λg hg=>by
 by_cases q:g=f
 ·rw[q];exact(kE f y fs).1
 ·refine(kE f y fs).2 g (wi g λz=>hg ?_)
  show(if g=f then Z u else mA g)=Y
  rw[if_neg q];exact z
theorem JR{Q:Unit->ϋ->Prop}(I:Inv X gd σ H s)(e:H a=Z (.ext (XAt a C Y b)))(c:cv X.K fn C bm ini)(hf:f∈fn)(fo:FOk f)(ry:RelV y u)
  (h:∀s' d,H d=Y->d≠a->Inv X gd σ (upd (upd H d (.ext (XD d [(f,y)]))) a (.ext (XAt a C (Z d) b))) s'->Q () s'):wpAny (model X.prog X.w) A (setAttr (.ref a) f u) Q E s:=by
 have hx:XAt a C Y b s.heap:=(I.hok a _ e).1;have ah:=c.ne (h:=s.heap) I e λh x=>x.rec
 let(nm,q,N,bs,sn,sub,ab,col,dd,k0,k1,k2,k3,k5,mN,hC,hN,hS,_,T):=c.all s.heap I.kIn;let(P,g,dr,t,os):=s;have hp:P.get? P.objs.size=none:=Jd (oa _);have mem:∀n∈xS fn,n∈("__init__":Str)::xS fn:=λn hn=>aJ _ hn
 refine tZ (ns:=[]) F.store_ValueError (T.sub mem) (by simp[hf]) (by simp) hC hN (hS _ (by simp)) (hS f (by simp[hf])) fo ah hx.WB (λh' tk' I' kp same=>?_) (λy hy=>absurd U hy) (by decide)
 let(y0,(o,vs,a0,e0,hc,hd,au,z0,z1),zb):=hx;let(o1,e1,c1,aw,_,_,d1):=same o e0;have d1:=d1 hd;let(o',e',_,_,LN):=I'
 have:o'=o1:=Option.some.inj (e'.symm.trans e1)
 subst this;have ak:h'.Ns1 P.objs.size (λy=>if y=f then Z u else Y):=by
  obtain⟨z,_⟩|⟨d2,z,_,n2⟩:=LN
  ·rw[d1]at z;cases z
  ·rw[d1]at z;cases z;exact n2
 have Yn:P.objs.size≠a:=λz=>by rw[<- z,hp]at e0;cases e0
 have V:∀b ob,b≠a->P.get? b=Z ob->h'.get? b=Z ob:=λb ob hb q=>kp b ob hb (λaD dx h1 h2=>by rw[e0]at h1;cases h1;rw[hd]at h2;cases h2) q
 have wi:=vw (f:=f) (y:=y) (u:=u) (fs:=[]) (mA:=λ_=>Y) (λg hg=>absurd U hg)
 have nX:XAt a C (Z P.objs.size) b h':=(y0,(o',vs,a0,e1,c1.trans hc,d1,aw.trans au,z0,z1),zb);have nD:XD P.objs.size [(f,y)] h':=(_,ak,A8 (fs:=[]) (λ_=>True.intro) ry,wi)
 exact h _ P.objs.size (I.hok.no hp) Yn (I.un (Ri I.hok e hp V (_,e1)) (Rj I.hok e hp V nD.ok nX.ok))
theorem JQ{Q:Unit->ϋ->Prop}(I:Inv X gd σ H s)(e:H a=Z (.ext (XAt a C (Z d) b)))(ne:d≠a)(ed:H d=Z (.ext (XD d fs)))(c:cv X.K fn C bm ini)(hf:f∈fn)(fo:FOk f)(hl:fs.length<1000)(ry:RelV y u)
  (h:∀s',Inv X gd σ (upd H d (.ext (XD d (fC f y fs)))) s'->Q () s'):wpAny (model X.prog X.w) A (setAttr (.ref a) f u) Q E s:=by
 have hx:XAt a C (Z d) b s.heap:=(I.hok a _ e).1;obtain⟨mA,hn,r,wi⟩:XD d fs s.heap:=(I.hok d _ ed).1;have au:=c.ne (h:=s.heap) I e λh x=>x.rec
 let(nm,q,N,bs,sn,sub,ab,col,dd,k0,k1,k2,k3,k5,mN,hC,hN,hS,_,T):=c.all s.heap I.kIn;let(hh,g,dr,t,os):=s;have mem:∀n∈xS fn,n∈("__init__":Str)::xS fn:=λn hn=>aJ _ hn
 refine tZ (ns:=fs.map (·.1)) F.store_ValueError (T.sub mem) (by simp[hf]) (by simp) hC hN (hS _ (by simp)) (hS f (by simp[hf])) fo au (hx.Qu ne hn) (λh' tk' I' kp same=>?_) wi (by rw[gV,Y1];omega)
 let(y0,(o,vs,a0,e0,hc,hd,aH,z0,z1),zb):=hx;let(o1,e1,c1,ah,P,d0,_):=same o e0;have d1:=d0 d hd;clear d0;have oe:o1=o:=by
  let(q1,q2,q3,q4):=o1;let(p1,p2,p3,p4):=o;dsimp only at c1 ah P d1 hd;subst c1 ah P d1 hd;rfl
 subst oe;let(o',e',_,_,LN):=I'
 have:o'=o1:=Option.some.inj (e'.symm.trans e1)
 subst this;have aw:h'.Ns1 d (λy=>if y=f then Z u else mA y):=by
  obtain⟨z,_⟩|⟨d2,z,_,n2⟩:=LN
  ·rw[d1]at z;cases z
  ·rw[d1]at z;cases z;exact n2
 have ak:∀b ob,b≠d->hh.get? b=Z ob->h'.get? b=Z ob:=λb ob hb q=>by
  by_cases V:b=a
  ·subst V;have q':hh.get? b=Z ob:=q;rw[e0]at q';cases q';exact e1
  ·exact kp b ob V (λaD dx h1 h2=>by rw[e0]at h1;cases h1;rw[hd]at h2;cases h2;exact hb) q
 have nD:XD d (fC f y fs) h':=(_,aw,A8 r ry,vw wi);exact h _ (I.write (x:=d) (e:=d) (t':=tk') (by rw[ed];exact True.intro) (.inl U) ak (let(_,(o,_,_,e,_),_):=nD;(o,e)) nD.ok)
theorem Pd{bb:Bool}(I:Inv X gd σ H s)(e:ExH H a C b fs)(c:cv X.K fn C bm ini)(hf:f∈fn)(fo:FOk f)(l:fs.lookup f=Z v)
  (h:∀u s',Inv X gd σ H s'->RelV v u->Q u s'):wpAny (model X.prog X.w) A (getAttr (.ref a) f bb) Q E s:=by
 obtain⟨z,_⟩|⟨d,ne,e,ed⟩:=e
 ·rw[z]at l;cases l
 have hx:XAt a C (Z d) b s.heap:=(I.hok a _ e).1;obtain⟨mA,hn,r,wi⟩:XD d fs s.heap:=(I.hok d _ ed).1;let(nm,q,N,bs,sn,sub,ab,col,dd,k0,k1,k2,k3,k5,mN,hC,hN,V,_,T):=c.all s.heap I.kIn;let(u,P,ru):=lN.some_of (v:=v) (o:=mA f) (by rw[<- l];exact r f)
 have I':=I.tok (s.toks+1);let(hh,g,dr,t,os):=s;have mem:∀n∈xS fn,n∈("__init__":Str)::xS fn:=λn hn=>aJ _ hn
 exact Eh F.attrBase_ValueError (T.sub mem) (by simp[hf]) (by simp) (by simp) hC hN V fo (hx.Qu ne hn) P (W.handedOut_of (yk ru)) (h u _ I' ru)
end
def Vg(K:BT)(fn:List Str)(ta tv:TE)(f:Str):TS:=λD σ H=>tv σ H λy H1=>ta σ H1 λx g=>∃a C b bm ini,x=.ref a/\cv K fn C bm ini/\f∈fn/\FOk f /\
 ((g a=Z (.ext (XAt a C Y b))/\∀d,g d=Y->d≠a->D.nx σ (upd (upd g d (.ext (XD d [(f,y)]))) a (.ext (XAt a C (Z d) b)))) \/
  ∃d fs,d≠a/\g a=Z (.ext (XAt a C (Z d) b))/\g d=Z (.ext (XD d fs))/\fs.length<1000/\D.nx σ (upd g d (.ext (XD d (fC f y fs)))))
def Jw(K:BT)(fn:List Str)(ta:TE)(f:Str):TE:=λσ H Q=>ta σ H λx H1=>∃a C b bm ini fs v,x=.ref a/\ExH H1 a C b fs/\cv K fn C bm ini/\f∈fn/\FOk f/\fs.lookup f=Z v/\Q v H1
section
variable{X:Cx}{o e value:EQ}{f:Str}{pos pos':Pos}{ta tv:TE}{fn:List Str}
def N8(ha:PE X o ta)(hv:PE X value tv)(hs:‹swapsWith value (Z (.Attribute o f pos')) pos.line X.env=pure false›):PS X (.Assign [.Attribute o f pos'] value pos) (Vg X.K fn ta tv f):=by
 intro gd s σ H D I h;refine plainObj_wpAny_Assign_Attribute (thn (hv gd s σ H _ I h) λu s1 (y,H1,I1,ry,q)=>thn (ha gd s1 σ H1 _ I1 q) λov s2 P=>?_) hs
 let(x,H2,I2,rx,a,C,b,bm,ini,ex,c,hf,fo,g):=P;subst ex;obtain rfl:ov=B.ref a:=rx;obtain⟨Q,g⟩|⟨d,fs,ne,Q,e1,hl,g⟩:=g
 ·exact JR I2 Q c hf fo ry λs3 d z ne V=>(σ,_,V,g d z ne)
 ·exact JQ I2 Q ne e1 c hf fo hl ry λs3 V=>(σ,_,V,g)
def OA(he:PE X e ta)(P:‹attributeBase e f X.env (eval e X.env)=eval e X.env›):PE X (.Attribute e f pos) (Jw X.K fn ta f):=by
 intro gd s σ H Q I h;refine GF P (thn (he gd s σ H _ I h) λu s1 g=>?_)
 let(x,H1,I1,z,a,C,b,bm,ini,fs,v,ex,V,c,hf,fo,l,q):=g;subst ex;obtain rfl:u=B.ref a:=z;exact Pd I1 V c hf fo l λu' s2 I2 ru=>(v,H1,I2,ru,q)
end
inductive AX(C:J)(fsN:List Str)(vs:List V)(H:Hp)(Q:VK)(_:XK):Prop
 |mk(a ys:_)(h1:vs=.ref a::ys)(h2:ys.length=fsN.length)(h3:H a=Z (.ext (XAt a C Y O)))(h4:∀d,H d=Y->d≠a->Q .non (upd (upd H d (.ext (XD d (fsN.zip ys)))) a (.ext (XAt a C (Z d) O))))
def Di(C:J)(fsN:List Str)(t:TA):TE:=λσ H Q=>t σ H λvs H1=>vs.length=fsN.length/\vs.length<=1000/\∀a d,H1 a=Y->H1 d=Y->d≠a->Q (.ref a) (upd (upd H1 d (.ext (XD d (fsN.zip vs)))) a (.ext (XAt a C (Z d) O)))
variable{h':Ev}{a:J}{d:J}{us:List B}
section
variable{X:Cx}{gd:List (J×Obj)}{σ:St}{H:Hp}{s:ϋ}{f:J}{k:Nat}{fd:Ch}{ps fn fsN:List Str}{x:Str}{p pos:Pos}{e:EQ}{es:List EQ}{t:TA}
def OW{args:List B}{h:Ev}{e:J}(m:Zg h h' e (.ref C) args):XAt e C Y O h':=by
 let(t,he,_,_):=m.there;exact(.none,(_,_,_,he,U,U,U,U,U),λ_=>rfl)
def Xy{o:HO}(ne:d≠a):upd (upd (upd H a o) d o1) a o2=upd (upd H d o1) a o2:=by
 funext b
 by_cases h1:b=a
 ·rw[h1,aC,aC]
 ·rw[ax h1,ax h1];by_cases h2:b=d
  ·rw[h2,aC,aC]
  ·rw[ax h2,ax h2,ax h1]
theorem Hr{Q:VK}{vs:List V}(M:cv X.K fn C bm (Z f))(aH:W.isFn X.K (.ref f)=O)(F:aV X.prog X.w X.K X.mg X.base CX0 k f fd ps (AX C fsN))(hr:bP (k+1) X.A)(hb:Binds X.K fd ps [])
  (I:Inv X gd σ H s) (r:Vals vs us) (hl:vs.length=fsN.length) (hz:vs.length<=1000) (h:∀a d,H a=Y->H d=Y->d≠a->Q (.ref a) (upd (upd H d (.ext (XD d (fsN.zip vs)))) a (.ext (XAt a C (Z d) O)))):
  XV X (call (.ref C) us) (EP X gd σ Q) X.xe s:=by
 let(nm,q,N,bs,sn,sub,ab,col,dd,k0,k1,k2,k3,k5,mN,hC,hN,hS,hi,T):=M.all s.heap I.kIn;let(oI,aw,aX):=kg.mp (show(X.K.lookup f).map (·.cls)=Z (.type "function")from beq_iff_eq.mp aH);have aL:=I.kIn f oI aw;have a0:us.length<=1000:=by rw[<- r.length];exact hz
 have mk:∀h' e,Zg s.heap h' e (.ref C) us->Inv X gd σ (upd H e (.ext (XAt e C Y O))) {s with heap:=h'}:=λh' e m=>I.BN (t':=s.toks) m.keeps m.new (OW m).ok
 have hn:∀h' e,Zg s.heap h' e (.ref C) us->H e=none:=λh' e m=>I.hok.no m.new
 have au:=hr.make C us [];have e1:∀h' e,Zg s.heap h' e (.ref C) us->CM X.prog X.w X.K X.mg X.base (X.A.under (.builtin "type.__call__" (.ref C::us,[]))) X.stack {s with heap:=h'} (upd H e (.ext (XAt e C Y O))):=λh' e m=>(mk h' e m).L7.make C us []
 let(hh,g,dr,tk,os):=s;refine EJ PySem.F.excBase_ValueError (dM.tail (by simp) T) hC hN hi aL aX (λh' e m=>?_) (by rw[Y1];omega)
 have ah:AX C fsN (.ref e::vs) (upd H e (.ext (XAt e C Y O))) (λv H2=>v=.non/\Q (.ref e) H2) E0:=(e,vs,U,hl,aC,λd z ne=>(U,by
  rw[Xy ne];have z':H d=none:=by rw[ax ne]at z;exact z
  exact h e d (hn h' e m) z' ne))
 have r2:Vals (V.ref e::vs) (B.ref e::us):=.cons U r;have aD:(B.ref e::us ++ []).length=ps.length:=by
  rw[qp,<- r2.length];exact F.len _ _ _ _ ah
 have ak:=hb (h',g,dr,tk,os) (B.ref e::us) (mk h' e m).kIn aD;rw[qp]at ak;refine wpAny_call (codeAny_mono (F.run _ X.stack _ _ (B.ref e::us,[]) (B.ref e::us) _ _ E0 au (e1 h' e m) ak r2 ah) λr s' P=>?_)
 cases r with
 |error e=>exact False.elim P
 |ok fl =>
  cases fl with
  |ret u =>
   let(v,H',I3,rv,ev,q3):=(mk h' e m).after P;subst ev;exact(rv,(V.ref e,H',I3,U,q3))
  |next=>exact False.elim P
  |brk=>exact False.elim P
  |cont=>exact False.elim P
theorem K4(M:cv X.K fn C bm (Z f))(z:W.isFn X.K (.ref f)=O)(kp:W.keepIn X.K (.ref C)=O)(F:aV X.prog X.w X.K X.mg X.base CX0 k f fd ps (AX C fsN))(hr:bP (k+1) X.A)(hg:Gl X x)(hm:X.mg x=Z (.ref C))(hb:Binds X.K fd ps [])
  (ha:PA X (e::es) t) (P:autoParam (AS x) zdc._auto_1) (he:‹AC X e es›) (g:‹AM X pos es›):
  PE X (.Call (.Name x p) (e::es) [] pos) (Di C fsN t):=by
 intro gd s σ H Q I h;refine MI (nT I hg hm ?_ P);refine W.callWith_K (h₀:=X.base) I.ok.mod.kin kp (thn (ha pos gd s σ H _ I h) λus s1 (vs,H1,V,r,hl,hz,q)=>(V.kIn,?_)) he g
 exact Hr M z F hr hb V r hl hz q
end
section
variable{X:Cx}{gd:List (J×Obj)}{σ:St}{H:Hp}{s:ϋ}{C':J}{fn:List Str}{bm':List B}{wu:Option J}{fs:List (Str×V)}{b:Bool}{A:Do}{E:B->ϋ->Prop}
def Ip:typeLookup (.type "ValueError") "__class__"=pure (Z (.builtin "object.__class__")):=by rw[typeLookup_type,builtinLookup_eq_fast];kernel_rfl
theorem BW{K:BT}(c:cv K fn C bm ini):W.KitX K (.ref a) (.ref C) (λh=>∃o,h.get? a=Z o/\o.cls=.ref C) where
 ty:=λM h X (o,e,V)=>by
  intro A' Q' E' s' k q;unfold typeOf;refine fH (wpAny_loadPart (k _ _ e) (u7 ?_))
  first
   | (rw[V];exact q)
   | (show Q' o.cls s';rw[V];exact q)
 it:=λM h X _=>by
  let(nm,q,N,bs,sn,sub,ab,col,dd,k0,k1,k2,k3,k5,mN,P,_):=c.all h X;intro A' Q' E' s' k q;unfold isType loadHead;exact fH (wpAny_loadPart (k _ _ P) (u7 q))
 ne:=λh tp dd its n sl X ah=>by
  let(nm,q,N,bs,sn,sub,ab,col,dd',k0,k1,k2,k3,k5,mN,P,_):=c.all h X;refine EX.mpr λq=>?_
  have e:C=tp:=B.ref.inj (beq_iff_eq.mp q);subst e;have z:B.type "type"=B.type "tuple":=congrArg Obj.cls (Option.some.inj (P.symm.trans ah));exact absurd z (by decide)
 ca:=λ{prog w A E Q s} X (o,e,V) hq=>by
  let(nm,q,N,bs,sn,sub,ab,col,dd,k0,k1,k2,k3,k5,mN,P,hN,hS,hi,T):=c.all s.heap X;let(hh,g,dr,tk,os):=s;have mem:∀n∈xS fn,n∈("__init__":Str)::xS fn:=λn hn=>aJ _ hn
  exact Cp Ip (by decide) (by simp) (by simp) (by simp) F.attrBase_ValueError (T.sub mem) P hN hS e V hq
theorem Gg{K:BT}(c:cv K fn C bm ini)(q:cv K fn C' bm' wu):W.kitOne K (.ref C) (.ref C')=Z ((B.ref C::bm).contains (.ref C')):=by
 unfold W.kitOne;let(cd,h1,h2):=c.cl;let(P,g,_):=q.cl
 split
 ·rename_i z;rw[beq_iff_eq.mp z];simp
 ·unfold W.kitCls W.subIn W.mroIn;simp[h1,g,q.ty,h2]
theorem Lw{K:BT}{T:String}(c:cv K fn C bm ini)(hT:W.kitMeta T=O):W.kitOne K (.ref C) (.type T)=Z (bm.contains (.type T)):=by
 unfold W.kitOne;let(cd,h1,h2):=c.cl;rw[if_neg (by intro z;exact nomatch(beq_iff_eq.mp z))]
 unfold W.kitCls W.subIn W.mroIn;simp only[hT,if_true,h1,Option.bind_some,h2,List.isEmpty_cons,Bool.false_eq_true,if_false,Ax];rfl
theorem ExH.cls{h:Ev}{P:Db}{w:Da}(e:ExH H a C b fs)(ok:HOk P w H h):∃o,h.get? a=Z o/\o.cls=.ref C:=by
 have go:∀dx,H a=Z (.ext (XAt a C dx b))->∃o,h.get? a=Z o/\o.cls=.ref C:=λdx e=>by
  let(y,(o,vs,z,q,g,_),_):=(ok a _ e).1;exact(o,q,g)
 obtain⟨_,e⟩|⟨d,_,e,_⟩:=e
 ·exact go _ e
 ·exact go _ e
theorem T2{c:B}{r:Bool}(I:Inv X gd σ H s)(e:ExH H a C b fs)(q:cv X.K fn C bm ini)(g:W.kitOne X.K (.ref C) c=Z r)(h:∀tk,Q (.bool r) {s with toks:=tk}):wpAny (model X.prog X.w) A (call (.builtin "isinstance") [.ref a,c]) Q E s :=
 W.kia_one (BW q) I.kIn (e.cls I.hok) g (λz=>nomatch z) h
end
end L2
namespace PySem
open Sem (wp)
section
variable{M:Model}{A:Do}{E:B->ϋ->Prop}{env:Env}
variable{nm q nm' q':Str}{C N C' N':J}{bs bm bs' bm':List B}{pL WU:Bool}{sn sn':List Str}{sub Vc:List B}{ab ab':Bool}{col W6:Option Bool}{dd dd':Option J}{k0 k1 k2 k3 k5 j0 j1 j2 j3 j5:Option B}{newId S6:String}
def RM{s:ϋ}{x:Sem B}{Q:Flow->ϋ->Prop}(hh:A.handled=Y)
  (h:wpAny M A x (λv z=>∃e K C nm q N bs bm pL sn sub ab col dd k0 k1 k2 k3 k5 newId,v=.ref e/\z.heap.get? C=Z (excClassObj nm q C N bs bm pL sn sub ab col dd k0 k1 k2 k3 k5 newId)/\bm.contains (.type "BaseException")=O /\
   z.heap.get? e=Z K/\K.cls=.ref C/\(∃vs,K.data=.fields vs/\vs[1]?=Z .none)/\E (.ref e) z) E s):wpAny M A (raiseStmt env (Z x) Y) Q E s:=by
 unfold raiseStmt;refine fH (E3 h (λv z P=>?_) λ_ _ x=>x)
 let(e,K,C,nm,q,N,bs,bm,pL,sn,sub,ab,col,dd,k0,k1,k2,k3,k5,newId,U,hC,hb,he,B8,(vs,hd,h1),hE):=P;have V:(B.ref C::bm).contains (.type "BaseException")=true:=by rw[Ax,hb,Zt]
 let(hp,g,d,tk,os):=z;let(c0,d0,da,sl):=K;dsimp only at B8 hd;subst B8 hd
 repeat (first|with_reducible refine wpAny_loadPart_at he ?_|with_reducible refine wpAny_loadPart_at hC ?_|(with_reducible refine wpAny_isSubtype_exc hC ?_;rw[V])|wp_step)
 rw[h1]
 repeat (first|with_reducible refine wpAny_raiseNew_none hh hE|wp_step)
def Tc{h:Ev}{g:Array aa7}{d:Drawn}{t:Nat}{os:OsState}{e:J}{oe:Obj}{Q:Bool->ϋ->Prop}
  (hC:h.get? C=Z (excClassObj nm q C N bs bm pL sn sub ab col dd k0 k1 k2 k3 k5 newId)) (z:h.get? C'=Z (excClassObj nm' q' C' N' bs' bm' WU sn' Vc ab' W6 dd' j0 j1 j2 j3 j5 S6)) (he:h.get? e=Z oe) (B8:oe.cls=.ref C)
  (hb:bm'.contains (.type "BaseException")=O) (P:Q ((B.ref C::bm).contains (.ref C')) (h,g,d,t,os)):wpAny M A (excMatches (.ref e) (.ref C')) Q E (h,g,d,t,os):=by
 have V:(B.ref C'::bm').contains (.type "BaseException")=true:=by rw[Ax,hb,Zt]
 have f:=tc_notTuple;unfold excMatches
 repeat (first|(with_reducible refine wpAny_loadPart_at he ?_;rw[B8])|with_reducible refine wpAny_loadPart_at z ?_|(with_reducible refine wpAny_isSubtype_exc z ?_;rw[V])|wp_step)
 all_goals(cases K:(B.ref C::bm).contains (.ref C') <;>(rw[K]at P;first|exact wpAny_isSubtype_exc hC (by rw[K];exact P)|(refine wpAny_isSubtype_exc hC ?_;rw[K];repeat (first|exact P|wp_step))))
end
end PySem
namespace L2
open PySem PySem.Spec PyProof.Rows
def CX1(P:Db)(w:Da):CXT:=λouter H s E e s'=>∃a C dx T H',e=.ref a/\s'.os=s.os/\AllBare s'.gens/\Un (frs outer) [] H H' s.heap s'.heap/\HOk P w H' s'.heap /\
 H' a=Z (.ext (XAt a C dx ϊ))/\jS s'.heap a (.ref C) dx T .none/\H' T=Y/\s.heap.get? T=Y/\E (.ref C) (Z a) H'
variable{φ:Ev->Prop}
section
variable{P:Db}{w:Da}{H₀ H H':Hp}{h₀ h h':Ev}{fs fr ex:List J}{a C T:J}{dx:Option J}{fl:B}
def Un.qY(u:Un fs [] H₀ H h₀ h)(k:gL fr ex h h')(hex:∀b∈ex,(∃φ,H b=Z (.ext φ))\/h₀.get? b=Y)(Q:∀b∈fr,b∈fs\/h₀.get? b=Y)(hH:∀b,H' b=H b\/∃φ K,H b=Z (.ext φ)/\H' b=Z (.ext K)):Un fs [] H₀ H' h₀ h':=by
 have nx:∀b o,h₀.get? b=Z o->H b=Y->b ∉ ex:=λb o e n z=>by
  obtain⟨φ,y⟩|y:=hex b z
  ·rw[n]at y;cases y
  ·rw[e]at y;cases y
 have st:∀b o,H b=Z o->(∀φ,o ≠ .ext φ)->H' b=Z o:=λb o e n=>by
  obtain z |⟨φ,K,z,_⟩:=hH b
  ·rw[z];exact e
  ·rw[e]at z;cases z;exact absurd U (n φ)
 refine(λb o e n q hx=>?_,λb o e n q hx=>?_,λb o e n hx=>?_,λb o e hx=>?_,λb xs e=>st b _ (u.sk b xs e) (λ_ z=>nomatch z),λb o xs e=>st b _ (u.pN b o xs e) (λ_ z=>nomatch z),λb ps e=>?_)
 ·refine k.keep b o (u.keep b o e n q hx) (λz=>?_) (nx b o e (u.free b o e n hx))
  obtain y|y:=Q b z
  ·exact q y
  ·rw[e]at y;cases y
 ·let(sl,g):=u.slot b o e n q hx;let(P,e2):=k.slot b _ g (nx b o e (u.free b o e n hx));exact(P,e2)
 ·have V:=u.free b o e n hx;obtain z |⟨φ,K,z,_⟩:=hH b
  ·rw[z];exact V
  ·rw[V]at z;cases z
 ·let(o',g):=u.there b o e hx;exact k.there b o' g
 ·let(more,g):=u.sr b ps e;exact(more,st b _ g (λ_ z=>nomatch z))
def HOk.qY(ok:HOk P w H h)(k:gL fr ex h h')(g:∀b∈fr,H b=Y)(hex:∀b∈ex,b=a\/H b=Y)(ha:H a=Z (.ext φ))(Q:∀b,b≠a->H' b=H b)(new:∀o,H' a=Z o->dm P w H' h' a o)
  (ah:∃V,H' a=Z (.ext V)):HOk P w H' h':=λc o e=>by
 by_cases K:c=a
 ·subst K;exact new o e
 ·rw[Q c K]at e;have st:∀b v,H b=Z v->(∀φ,v ≠ .ext φ)->H' b=Z v:=λb v q n=>by
   rw[Q b (λz=>by rw[z,ha]at q;cases q;exact n φ U)];exact q
  have go:∀b u v,H b=Z v->b≠a->h.get? b=Z u->h'.get? b=Z u:=λb u v q na r=>k.keep b u r (λz=>by rw[g b z]at q;cases q) λz=>by
   obtain y|y:=hex b z
   ·exact na y
   ·rw[y]at q;cases q
  refine(ok c o e).eC (λb u hb r=>?_) (λb q=>st b _ q (λ_ z=>nomatch z)) λb xs q=>st b _ q (λ_ z=>nomatch z)
  obtain y|y:=hb
  ·rw[y]at r ⊢;exact go c u o e K r
  ·exact go b u _ y (dQ y ha λz=>nomatch z) r
def _root_.PySem.jS.at(x:jS h a (.ref C) dx T fl):XAt a C dx ϊ h:=(_,x.2.1,λz=>nomatch z)
end
variable{P:Db}{mg:Str->Option B}{base:Ev}{N:List Str}{qual:Str}{scope:Scope}{A:Do}{outer:List Env}{H₀:Hp}{e:EQ}{te:TE}
section
variable{X:Cx}{gd:List (J×Obj)}{σ:St}{H:Hp}{s:ϋ}{a C T:J}{dx:Option J}{E:XK}{fn:List Str}
def rS(X:Cx)(Es:St->XK):Prop:=∀(gd:List (J×Obj))(σ:St)(H:Hp)(s:ϋ)(a C:J)(dx:Option J),Inv X gd σ H s->H a=Z (.ext (XAt a C dx O))->Es σ (.ref C) (Z a) (upd H a (.ext (XAt a C dx ϊ)))->X.xe (.ref a) s
def hV(CX:CXT)(X:Cx)(Es:St->XK):Prop:=∀(gd:List (J×Obj))(σ:St)(H:Hp)(s:ϋ)(e:B)(s':ϋ),Inv X gd σ H s->CX X.stack H s (Es σ) e s'->X.xe e s'
def Jm{q:Ev->Prop}(e:H a=Z (.ext φ))(b:J):upd H a (.ext q) b=H b\/∃φ g,H b=Z (.ext φ)/\upd H a (.ext q) b=Z (.ext g):=by
 by_cases z:b=a
 ·rw[z];exact .inr (φ,q,e,aC)
 ·exact .inl (ax z)
theorem vL{w:Da}{K:BT}{f:J}{cd:B}{s₀:ϋ}:rS (pP (CX1 P w) P w K mg base N qual scope f cd A outer s₀ H₀ E) (λ_=>E):=by
 intro gd σ H s a C dx I e hE;obtain⟨y,hx,V⟩:XAt a C dx O s.heap:=(I.hok a _ e).1;rw[V rfl]at hx;refine wj (A:=A.deeper (envOfC qual scope s₀.heap.objs.size f cd)) (env:=envOfC qual scope s₀.heap.objs.size f cd) (outer:=outer) (base:=base) I.ok.frames I.stack U hx λh' T sz al Q=>?_
 have lt:∀b o,s₀.heap.get? b=Z o->b<s₀.heap.objs.size:=λb o q=>uY q
 refine(a,C,dx,T,upd H a (.ext (XAt a C dx ϊ)),U,I.os,I.bare,?_,?_,aC,al,?_,Jd (u4 I.sz sz),hE)
 ·refine Un.qY (fr:=frs (envOfC qual scope s₀.heap.objs.size f cd::outer)) I.base Q (λb g=>?_) (λb g=>?_) (Jm e)
  ·rw[aB.mp g];exact .inl (_,e)
  ·obtain z|z:=fx.mp (I.sy b g)
   ·exact .inr (by rw[z];exact Jd (oa _))
   ·exact .inl z
 ·exact HOk.qY (a:=a) I.hok Q (λb g=>I.nJ b g) (λb g=>.inl (aB.mp g)) e (λb g=>ax g) (λo q=>by rw[aC]at q;cases q;exact al.at.ok) (_,aC)
 ·rw[ax al.1];exact I.hok.fresh sz
theorem vW{w:Da}{K:BT}{f:J}{cd:B}{s₀:ϋ}:hV (CX1 P w) (pP (CX1 P w) P w K mg base N qual scope f cd A outer s₀ H₀ E) (λ_=>E):=by
 intro gd σ H s e s' I hx;let(a,C,dx,T,H',U,ak,hg,un,hok,V,al,hT,au,hE):=hx;have g:=I.Cs (ch:=[]) ak un hok hg (λb z=>nomatch z)
 refine xC (A:=A.deeper (envOfC qual scope s₀.heap.objs.size f cd)) (env:=envOfC qual scope s₀.heap.objs.size f cd) (outer:=outer) (base:=base) g.ok.frames g.stack U al λh' T' sz ah kx=>?_
 have aw:s₀.heap.get? T=none:=by
  cases q:s₀.heap.get? T with
  |none=>rfl
  |some o =>
   let(o',z):=I.base.there T o q (λz=>nomatch z)
   rw[au]at z;cases z
 refine(a,C,dx,T',H',U,g.os,g.bare,?_,?_,V,ah,g.hok.fresh sz,Jd (u4 g.sz sz),hE)
 ·refine Un.qY (fr:=frs (envOfC qual scope s₀.heap.objs.size f cd::outer)) g.base kx (λb Q=>?_) (λb Q=>?_) (λb=>.inl U)
  ·obtain z|z:=fx.mp Q
   ·rw[z];exact .inl (_,V)
   ·rw[aB.mp z];exact .inr aw
  ·obtain z|z:=fx.mp (g.sy b Q)
   ·exact .inr (by rw[z];exact Jd (oa _))
   ·exact .inl z
 ·refine HOk.qY (a:=a) g.hok kx (λb Q=>g.nJ b Q) (λb Q=>?_) V (λb Q=>rfl) (λo q=>by rw[V]at q;cases q;exact ah.at.ok) (_,V)
  obtain z|z:=fx.mp Q
  ·exact .inl z
  ·rw[aB.mp z];exact .inr hT
def Dg(K:BT)(fn:List Str)(Es:St->XK)(te:TE):TS:=λ_ σ H=>te σ H λv H1=>∃a C bm ini dx,v=.ref a/\cv K fn C bm ini/\H1 a=Z (.ext (XAt a C dx O))/\Es σ (.ref C) (Z a) (upd H1 a (.ext (XAt a C dx ϊ)))
def KH{Es:St->XK}(hc:X.calm=O)(hx:rS X Es)(he:PE X e te):PS X (.Raise (Z e) Y pos) (Dg X.K fn Es te):=by
 intro gd s σ H D I h;rw[arm_exec_Raise];refine fH (wpAny_standAt (RM (I.ok.hd hc) (fH (thn (he gd s σ H _ I h) λv s1 Q=>?_))))
 let(x,H1,V,rx,a,C,bm,ini,dx,ex,c,ea,q):=Q;refine fH (wpAny_standAt (u7 ?_));subst ex;obtain rfl:v=B.ref a:=rx;let(nm,q',N,bs,sn,sub,ab,col,dd,k0,k1,k2,k3,k5,mN,hC,hN,hS,hi,T):=c.all s1.heap V.kIn;let(y,(o,vs,a0,e1,P,ah,z,_,hy),g):=(V.hok a _ ea).1;rw[g rfl]at hy;exact(a,o,C,nm,q',N,bs,bm,O,sn,sub,ab,col,dd,k0,k1,k2,k3,k5,_,U,hC,T.hasType (by decide),e1,P,(vs,z,hy),hx gd σ H1 s1 a C dx V ea q)
end
abbrev Cx.inX(X:Cx)(a:J):Cx:={X with A:=X.A.mark (Z (.ref a)),calm:=ϊ,xe:=λ_ _=>False}
theorem Cx.Ok.inX{X:Cx}(ok:X.Ok)(a:J):(X.inX a).Ok :=
 (ok.mod,ok.kind,ok.glob,ok.blt,ok.above,ok.inj,ok.has,ok.cab,(λz=>nomatch z),ok.frames,ok.stk,ok.exf,ok.bs,ok.bsz,ok.D8,ok.Iz,ok.oj,ok.frf)
variable{M:Model}{E:B->ϋ->Prop}{i:Nat}{x:Str}
section
variable{X:Cx}{gd:List (J×Obj)}{σ:St}{H:Hp}{s:ϋ}{a:J}
theorem Inv.inX(I:Inv X gd σ H s)(a:J):Inv (X.inX a) gd σ H s:=(I.ok.inX a,I.os,I.bare,I.base,I.loc,I.cell,I.free,I.iN,I.pin,I.hok,I.len)
def Inv.DX(ok:X.Ok)(I:Inv (X.inX a) gd σ H s):Inv X gd σ H s:=(ok,I.os,I.bare,I.base,I.loc,I.cell,I.free,I.iN,I.pin,I.hok,I.len)
theorem SP.DX(ok:X.Ok){D:Ends}{f:Flow}{s':ϋ}(h:SP (X.inX a) gd D f s'):SP X gd D f s':=by
 cases f with
 |next=>let(g,H',I,q):=h;exact(g,H',I.DX ok,q)
 |brk=>let(g,H',I,q):=h;exact(g,H',I.DX ok,q)
 |cont=>let(g,H',I,q):=h;exact(g,H',I.DX ok,q)
 |ret u=>let(v,g,H',I,r,q):=h;exact(v,g,H',I.DX ok,r,q)
abbrev Cx.uK(X:Cx)(pn:List (J×Obj))(xe:B->ϋ->Prop):Cx:={X with pn:=pn,xe:=xe}
theorem Cx.Ok.uK{X:Cx}(ok:X.Ok)(pn:List (J×Obj))(xe:B->ϋ->Prop):(X.uK pn xe).Ok :=
 (ok.mod,ok.kind,ok.glob,ok.blt,ok.above,ok.inj,ok.has,ok.cab,ok.hd,ok.frames,ok.stk,ok.exf,ok.bs,ok.bsz,ok.D8,ok.Iz,ok.oj,ok.frf)
theorem Inv.uK(I:Inv X gd σ H s)(xe:B->ϋ->Prop):Inv (X.uK (X.pn++gd) xe) [] σ H s:=(I.ok.uK _ _,I.os,I.bare,I.base,I.loc,I.cell,I.free,I.iN,λp hp=>I.pin p (by rw[qp]at hp;exact hp),I.hok,I.len)
def Inv.tX{xe:B->ϋ->Prop}{pins':List (J×Obj)}(ok:X.Ok)(I:Inv (X.uK (X.pn++gd) xe) pins' σ H s):Inv X gd σ H s:=(ok,I.os,I.bare,I.base,I.loc,I.cell,I.free,I.iN,λp hp=>I.pin p (px _ hp),I.hok,I.len)
theorem SP.tX{xe:B->ϋ->Prop}(ok:X.Ok){D:Ends}{f:Flow}{s':ϋ}(h:SP (X.uK (X.pn++gd) xe) [] D f s'):SP X gd D f s':=by
 cases f with
 |next=>let(g,H',I,q):=h;exact(g,H',I.tX ok,q)
 |brk=>let(g,H',I,q):=h;exact(g,H',I.tX ok,q)
 |cont=>let(g,H',I,q):=h;exact(g,H',I.tX ok,q)
 |ret u=>let(v,g,H',I,r,q):=h;exact(v,g,H',I.tX ok,r,q)
structure Tb(X:Cx)(gd:List (J×Obj))(H:Hp)(T:J):Prop where
 n:H T=Y
 l:T≠X.env.locals
 z:X.s₀.heap.objs.size<=T
 c:∀x c,X.env.cells.lookup x=Z c->c≠T
 p:∀p∈X.pn++gd,p.1≠T
def Tb.of{T:J}(I:Inv X gd σ H s)(h:s.heap.objs.size<=T):Tb X gd H T where
 n:=I.hok.fresh h
 l:=ZK (wa I.lt h)
 z:=u4 I.sz h
 c:=λx c e z=>by
  let(v,o,ho,_):=I.cell x c e;rw[z]at ho;exact absurd (wa (uY ho) h) (EW _)
 p:=λp hp z=>by
  have e:=(I.pin p hp).1;rw[z]at e;exact absurd (wa (uY e) h) (EW _)
def nS{Q:Unit->ϋ->Prop}(I:Inv X gd σ H s)(hN:X.N.Nodup)(hi:X.N[i]?=Z x)(hk:BC X x)
  (h:∀s',Inv X gd (σ.set i Y) H s'->Q () s'):wpAny M A (do bindName X.env x .none;unbindBehindTheSuite X.env x pos) Q E s:=by
 let(m,hn,hl):=id I.loc;have B8:(X.env.scope.kind == .class ||(X.env.scope.kind == .module&&X.env.locals != X.env.globals))=false:=by rw[I.ok.kind];rfl
 have cne:=I.cne;refine wpAny_nameGoes_keeps hk hn B8 λh' v P hs=>?_
 have sb:∀b o,X.s₀.heap.get? b=Z o->h'.get? b=s.heap.get? b:=λb o e=>hs.2 b (Aw (wa (uY e) I.ok.above))
 let(oL,_,_,ah,_):=id hn;refine h _ (I.ok,I.os,I.bare,(λb o e n hb hx=>(sb b o e).trans (I.base.keep b o e n hb hx),λb o e n hb hx=>?_,I.base.free,λb o e hx=>?_,I.base.sk,I.base.pN,I.base.sr),(_,P,λj y v' K g e3=>?_),λy c e=>?_,I.free,I.iN,λp hp=>?_,λb ob e=>?_,by simpa using I.len)
 ·let(sl,K):=I.base.slot b o e n hb hx;exact(sl,(sb b o e).trans K)
 ·let(o',K):=I.base.there b o e hx;exact(o',(sb b o e).trans K)
 ·by_cases V:j=i
  ·subst V;rw[List.getElem?_set]at g
   split at g
   ·split at g <;> cases g
   ·rename_i z;exact absurd U z
  ·rw[ui (Ne.symm V)]at g;let(u',r',q):=hl j y v' K g e3;refine(u',r',?_);obtain⟨k,e⟩|⟨k,c,e,z⟩:=q
   ·refine .inl (k,?_)
    have:y≠x:=λe=>V (v9 hN K (e▸hi))
    simp[this,e]
   ·exact .inr (k,c,e,z.sameBut hs (cne y c e))
 ·let(w',z):=I.cell y c e;exact(w',z.sameBut hs (cne y c e))
 ·let(e,n,ne,nf,d):=I.pin p hp;exact((hs.2 p.1 ne).trans e,n,ne,nf,d)
 ·refine(I.hok b ob e).eC (λc w' hc q=>(hs.2 c ?_).trans q) (λ_ q=>q) λ_ _ q=>q
  intro z;obtain y|y:=hc
  ·rw[<- y,z,I.free]at e;cases e
  ·rw[z,I.free]at y;cases y
end
abbrev TH:=J->J->TS
def PH(X:Cx)(hs:List ExceptHandler)(th:TH):Prop:=∀(gd:List (J×Obj))(s:ϋ)(σ:St)(H:Hp)(D:Ends)(a C T:J)(dx:Option J),Inv X gd σ H s->H a=Z (.ext (XAt a C dx ϊ))->jS s.heap a (.ref C) dx T .none->Tb X gd H T ->
 th a C D σ H->XV X (handleBy (.ref a) X.env hs) (SP X gd D) X.xe s
def LO:TH:=λ_ _ _ _ _=>False
def W0(K:BT)(fn:List Str)(C':J)(ts:TS)(tr:TH):TH:=λa C D σ H=>∃bm ini,cv K fn C bm ini/\((B.ref C::bm).contains (.ref C')=O->ts D σ H)/\((B.ref C::bm).contains (.ref C')=ϊ->tr a C D σ H)
def Ends.go(D:Ends)(i:Nat):Ends:={nx:=λσ H=>D.nx (σ.set i Y) H,rt:=D.rt,bk:=λσ H=>D.bk (σ.set i Y) H,ct:=λσ H=>D.ct (σ.set i Y) H}
def hAs(K:BT)(fn:List Str)(C':J)(i:Nat)(ts:TS)(tr:TH):TH:=λa C D σ H=>∃bm ini,cv K fn C bm ini/\((B.ref C::bm).contains (.ref C')=O->ts (D.go i) (σ.set i (Z (.ref a))) H)/\((B.ref C::bm).contains (.ref C')=ϊ->tr a C D σ H)
variable{hs:List ExceptHandler}{gd:List (J×Obj)}{s:ϋ}{H:Hp}{a:J}{C:J}{dx:Option J}{bm:List B}{ini:Option J}{R:Result->ϋ->Prop}{body:List Fk}
section
variable{X:Cx}{fn:List Str}{C':J}{bm':List B}{wu:Option J}{n:Str}{p pos:Pos}{b0:Fk}{p7:List Fk}{rest:List ExceptHandler}{ts:TS}{tr:TH}
def KZ:PH X hs LO:=λ_ _ _ _ _ _ _ _ _ _ _ _ _ h=>h.elim
def FP{σ:St}(hg:Gl X x)(hm:X.mg x=Z (.ref C'))(c':cv X.K fn C' bm' wu)(z:AS x)
  (I:Inv X gd σ H s) (ea:H a=Z (.ext (XAt a C dx ϊ))) (c:cv X.K fn C bm ini) (h:R (.ok (if(B.ref C::bm).contains (.ref C')then .brk else .next)) s):
  codeAny (model X.prog X.w) (X.A.mark (Z (.ref a))) (.handlers (.ref a) [.ExceptHandler (Z (.Name x p)) Y [] pos] X.env) R s:=by
 refine codeAny_handlers_test (nT (X:=X.inX a) (I.inX a) hg hm ?_ z);let(nm,q,N,bs,sn,sub,ab,col,dd,k0,k1,k2,k3,k5,mN,hC,_):=c.all s.heap I.kIn;let(nm',q',N',bs',sn',Vc,ab',W6,dd',j0,j1,j2,j3,j5,V,Q,_,_,_,T'):=c'.all s.heap I.kIn;let(y,(o,vs,a0,e1,P,_),_):=(I.hok a _ ea).1;let(hh,g,dr,tk,os):=s;exact Tc hC Q e1 P (T'.hasType (by decide)) h
def ym{σ:St}{T:J}{Q:Unit->ϋ->Prop}(I:Inv X gd σ H s)(q:H a=Z (.ext (XAt a C dx ϊ)))(al:jS s.heap a (.ref C) dx T .none)(tb:Tb X gd H T)
  (h:∀s',Inv X gd σ H s'->Q () s'):wpAny M A (setFlight (.ref a) Y) Q E s :=
 jl al λh' _ k=>h _ (I.turned (it:=T) (t':=s.toks) (λb o g e=>k.keep b o e (λz=>nomatch z) (λz=>g (aB.mp z))) tb.n tb.l (.inr tb.z) tb.c tb.p)
def SS(hg:Gl X x)(hm:X.mg x=Z (.ref C'))(c':cv X.K fn C' bm' wu)(g:∀a,PSs (X.inX a) (b0::p7) ts)(hr:PH X rest tr)(P:autoParam (AS x) zdc._auto_1):
  PH X (.ExceptHandler (Z (.Name x p)) Y (b0::p7) pos::rest) (W0 X.K fn C' ts tr):=by
 intro gd s σ H D a C T dx I Q al tb h;let(bm,ini,c,h1,h2):=h;refine wpAny_handleBy_cons (FP hg hm c' P I Q c ?_) (by intro q;cases q)
 cases V:(B.ref C::bm).contains (.ref C')with
 |true =>
  show codeAny _ _ _ _ _;refine codeAny_handlers_suite (ym I Q al tb λs1 I1=>?_)
  exact E3 (g a gd s1 σ H D (I1.inX a) (h1 V)) (λf s2 q=>q.DX I.ok) λ_ _ z=>False.elim z
 |false=>exact hr gd s σ H D a C T dx I Q al tb (h2 V)
def V2(V:X.N.Nodup)(hi:X.N[i]?=Z n)(Q:BC X n)(hg:Gl X x)(hm:X.mg x=Z (.ref C'))(c':cv X.K fn C' bm' wu)(ah:∀a,PSs (X.inX a) (b0::p7) ts)(hr:PH X rest tr)(ak:autoParam (AS x) zdc._auto_1):
  PH X (.ExceptHandler (Z (.Name x p)) (Z n) (b0::p7) pos::rest) (hAs X.K fn C' i ts tr):=by
 intro gd s σ H D a C T dx I ea al tb h;let(bm,ini,c,h1,h2):=h;refine wpAny_handleBy_cons (FP hg hm c' ak I ea c ?_) (by intro q;cases q)
 cases hz:(B.ref C::bm).contains (.ref C')with
 |true =>
  show codeAny _ _ _ _ _;refine codeAny_handlers_suite_as (ym I ea al tb λs1 I1=>?_)
  refine ki I1 V hi (.inl Q) (show RelV (.ref a) (B.ref a)from U) (λs2 I2=>?_) (.inr Q)
  refine E3 (ah a gd s2 _ H (D.go i) (I2.inX a) (h1 hz)) (λf s3 q=>?_) λ_ _ z=>False.elim z
  have q:=q.DX I.ok;cases f with
  |next=>let(g,H',ύ,q):=q;exact nS ύ V hi Q λs4 P=>(_,H',P,q)
  |brk=>let(g,H',ύ,q):=q;exact nS ύ V hi Q λs4 P=>(_,H',P,q)
  |cont=>let(g,H',ύ,q):=q;exact nS ύ V hi Q λs4 P=>(_,H',P,q)
  |ret u=>let(v,g,H',ύ,r,q):=q;exact nS ύ V hi Q λs4 P=>(v,_,H',P,r,q)
 |false=>exact hr gd s σ H D a C T dx I ea al tb (h2 hz)
def U7(th:TH)(tb:(St->XK)->TS):TS:=λD σ H=>tb (λg cls q H'=>∃a C,cls=.ref C/\q=Z a/\th a C D g H') D σ H
def Sk{th:TH}{tb:(St->XK)->TS}{h0:ExceptHandler}(K:X.stack=X.env::X.outer)(hf:X.env.frame=Z X.env.locals)
  (g:∀(Es:St->XK)(pn:List (J×Obj))(xe:B->ϋ->Prop),hV (CX1 X.prog X.w) (X.uK pn xe) Es->rS (X.uK pn xe) Es->PSs (X.uK pn xe) body (tb Es)) (hh:PH X (h0::hs) th):PS X (.Try body (h0::hs) [] [] pos) (U7 th tb):=by
 intro gd s σ H D I h;refine wpAny_Try_except (E3 (g _ (X.pn++gd) (λe aH=>XV X (noteFrame e X.env) (λ_ s₂=>XV X (setFlight e Y) (λ_ aD=>XV X (handleBy e X.env (h0::hs)) (SP X gd D) X.xe aD) X.xe s₂) X.xe aH) ?_ ?_ [] s σ H D (I.uK _) h) (λf s1 q=>?_) λe s1 q=>q)
 ·intro pins' P H1 s1 e s2 I1 hx;let(a,C,dx,T,H',U,aX,hg,un,hok,ea,al,hT,a0,a',C',ec,eo,hE):=hx;cases ec;cases eo;have ύ:=I1.tX I.ok;have J2:=ύ.Cs (ch:=[]) aX un hok hg (λb z=>nomatch z)
  have V:=J2.stack;rw[K]at V;refine v8 (base:=X.base) (L:=X.env.locals) (by rw[<- K];exact J2.ok.frames) V hf al λh3 T3 Q ak k3=>?_
  refine jl ak λh4 ah k4=>?_
  have kx:gL ((X.env::X.outer).filterMap (·.frame)) [a,T] s2.heap h4:=k3.trans (k4.mono (λ_ z=>nomatch z) λb z=>z) λb ob q z=>by
   rw[aB.mp z]at q;exact absurd (wa (uY q) Q) (EW _)
  have au:Un (frs X.stack) [] H1 H' s1.heap h4:=Un.qY un kx (λb g=>by
   obtain z|z:=fx.mp g
   ·rw[z];exact .inl (_,ea)
   ·rw[aB.mp z];exact .inr a0) (λb g=>.inl (by rw[K];exact g)) (λb=>.inl U)
  have aw:HOk X.prog X.w H' h4:=by
   refine HOk.qY (a:=a) J2.hok kx (λb g=>J2.nJ b (by rw[K];exact g)) (λb g=>?_) ea (λb g=>rfl) (λo q=>by rw[ea]at q;cases q;exact ah.at.ok) (_,ea)
   obtain z|z:=fx.mp g
   ·exact .inl z
   ·rw[aB.mp z];exact .inr hT
  have J4:Inv X gd P H' {s2 with heap:=h4}:=ύ.Cs (s':={s2 with heap:=h4}) (ch:=[]) aX au aw hg (λb z=>nomatch z)
  exact hh gd _ P H' D a C T3 dx J4 ea ah (Tb.of J2 Q) hE
 ·intro pins' P H1 s1 a C dx I1 ea hx;let(a',C',ec,eo,hE):=hx;cases ec;cases eo;have ύ:=I1.tX I.ok;obtain⟨y,aL,hy⟩:XAt a C dx O s1.heap:=(ύ.hok a _ ea).1;rw[hy rfl]at aL;have V:=ύ.stack;rw[K]at V;refine ud (base:=X.base) (L:=X.env.locals) (by rw[<- K];exact ύ.ok.frames) V hf aL λh3 T3 Q ak k3=>?_
  refine jl ak λh4 ah k4=>?_
  have kx:gL ((X.env::X.outer).filterMap (·.frame)) [a] s1.heap h4:=k3.trans (k4.mono (λ_ z=>nomatch z) λb z=>z) λb ob q z=>by
   rw[aB.mp z]at q;exact absurd (wa (uY q) Q) (EW _)
  have au:Un (frs X.stack) [] H1 (upd H1 a (.ext (XAt a C dx ϊ))) s1.heap h4:=Un.qY Un.refl kx (λb g=>by
   rw[aB.mp g];exact .inl (_,ea)) (λb g=>.inl (by rw[K];exact g)) (Jm ea)
  have aw:HOk X.prog X.w (upd H1 a (.ext (XAt a C dx ϊ))) h4:=HOk.qY (a:=a) ύ.hok kx (λb g=>ύ.nJ b (by rw[K];exact g)) (λb g=>.inl (aB.mp g)) ea (λb g=>ax g) (λo q=>by rw[aC]at q;cases q;exact ah.at.ok) (_,aC)
  have J4:Inv X gd P (upd H1 a (.ext (XAt a C dx ϊ))) {s1 with heap:=h4}:=ύ.Cs (s':={s1 with heap:=h4}) (ch:=[]) U au aw ύ.bare (λb z=>nomatch z)
  have tb:=Tb.of ύ Q;exact hh gd _ P _ D a C T3 dx J4 aC ah (by rw[ax ak.1];exact tb.n,tb.l,tb.z,tb.c,tb.p) hE
 ·have q:=q.tX I.ok;cases f with
  |next=>exact wpAny_execs_nil q
  |brk=>exact q
  |cont=>exact q
  |ret u=>exact q
end
def sv(sp:Sp)(Es:St->XK)(t:TA):TE:=λσ H Q=>t σ H λvs H1=>sp vs H1 Q (Es σ)
variable{st:Fk}
section
variable{X:Cx}{CX:CXT}{k:Nat}{f:J}{fd:Ch}{ps:List Str}{sp:Sp}{Es:St->XK}{p pos:Pos}{es:List EQ}{t:TA}
theorem qP(F:aV X.prog X.w X.K X.mg X.base CX k f fd ps sp)(hr:bP k X.A)(hg:Gl X x)(hm:X.mg x=Z (.ref f))(hk:W.keepIn X.K (.ref f)=O)(hb:Binds X.K fd ps [])(hx:hV CX X Es)
  (ha:PA X (e::es) t) (ah:autoParam (AS x) zdc._auto_1) (he:‹AC X e es›) (V:‹AM X pos es›):
  PE X (.Call (.Name x p) (e::es) [] pos) (sv sp Es t):=by
 intro gd s σ H Q I h;refine MI (nT I hg hm ?_ ah);refine W.callWith_K (h₀:=X.base) I.ok.mod.kin hk (thn (ha pos gd s σ H _ I h) λus s1 (vs,H1,P,r,q)=>(P.kIn,?_)) he V
 have hl:(us ++ []).length=ps.length:=by rw[qp,<- r.length];exact F.len _ _ _ _ q
 have z:=hb s1 us P.kIn hl;rw[qp]at z;refine wpAny_call (codeAny_mono (F.run X.A X.stack s1 H1 (us,[]) us vs Q (Es σ) hr P.L7 z r q) λr s' g=>?_)
 cases r with
 |error e=>exact hx gd σ H1 s1 e s' P g
 |ok fl =>
  cases fl with
  |ret u=>exact P.after g
  |next=>exact False.elim g
  |brk=>exact False.elim g
  |cont=>exact False.elim g
theorem Fun.okX{w:Da}{K:BT}{f:J}{k:Nat}(F:Fun K x qual st f fd)(S:aE N ps (av st))(len:∀vs H Q E,sp vs H Q E->vs.length=ps.length)
  (z:∀(cdv:B)(A:Do)(outer:List Env)(s:ϋ)(H:Hp)(vs:List V)(Q:VK)(E:XK),bP k (A.deeper (envOfC qual (av st) s.heap.objs.size f cdv))->sp vs H Q E ->
   ∃t,PSs (pP (CX1 P w) P w K mg base N qual (av st) f cdv A outer s H E) (cz st) t/\t {nx:=λ_ H'=>Q .non H',rt:=Q} (start N vs) H):aV P w K mg base (CX1 P w) (k+1) f fd ps sp:=by
 let(oc,od,kV,doc,pm,an,cdv,ct,osl,U,lk,q):=F.ex;exact QP lk q S len λA outer s H vs Q E hr g=>z cdv A outer s H vs Q E hr g
end
def len0{P:List B->Prop}(h:P [])(us:List B)(e:us.length=0):P us:=by rw[Y6.mp e];exact h
def Ws{P:List B->Prop}(h:∀a,P [a])(us:List B)(e:us.length=1):P us:=by
 cases us with
 |nil=>cases e
 |cons a r=>exact len0 (P:=λr=>P (a::r)) (h a) r (Nat.succ.inj e)
def Wr{P:List B->Prop}(h:∀a b,P [a,b])(us:List B)(e:us.length=2):P us:=by
 cases us with
 |nil=>cases e
 |cons a r=>exact Ws (P:=λr=>P (a::r)) (h a) r (Nat.succ.inj e)
def Wq{P:List B->Prop}(h:∀a b c,P [a,b,c])(us:List B)(e:us.length=3):P us:=by
 cases us with
 |nil=>cases e
 |cons a r=>exact Wr (P:=λr=>P (a::r)) (h a) r (Nat.succ.inj e)
def X6{P:List B->Prop}(h:∀a b c d,P [a,b,c,d])(us:List B)(e:us.length=4):P us:=by
 cases us with
 |nil=>cases e
 |cons a r=>exact Wq (P:=λr=>P (a::r)) (h a) r (Nat.succ.inj e)
def X5{P:List B->Prop}(h:∀a b c d e,P [a,b,c,d,e])(us:List B)(e:us.length=5):P us:=by
 cases us with
 |nil=>cases e
 |cons a r=>exact X6 (P:=λr=>P (a::r)) (h a) r (Nat.succ.inj e)
set_option genInjectivity true in
inductive T where
 |n|b (x:Bool)|i (x:Int)|s (x:Str)|t (xs:List T)|l (xs:List T)|d (ks:List (Key×T))|gj|z (ns:List Int)|ty (x:String)|k (ws:List Str)|q|fd (o:Obj) (vs:List (Key×V)) (ks:List (Key×T))|xc (C:J) (ns:List Str) (ts:List T)|rm (u:Int)|ob (C:J) (ns:List Str) (ts:List T)|dp (a:J) (ks:List (Key×T))|lp (a:J) (xs:List T)|zl (xs:List T)|rf (a:J)|om (a C:J) (ns:List Str) (ts:List T)|fz (u:HO)
abbrev Dl:=List (J×J)
def FzL(K:BT)(H:Hp)(a:J)(xs:List V):Prop:=(∃o,H a=Z (.frz o (.lst xs))) \/
  ∃(o:Obj)(its:Array B)(n:Nat),K.lookup a=Z o/\o.cls=.type "list" /\ o.dict=Y/\o.data=.seq its n/\its.size<=ot/\Vals xs its.toList
variable{xs:List V}
theorem FzL.sq{K:BT}(h:FzL K H a xs):SqL K H a xs:=by
 obtain h|h:=h
 ·exact .inl (.inr h)
 ·exact .inr h
def YD(a C dx:J)(h:Ev):Prop:=h.get? a=Z (W.instObj C dx)
inductive ObH(H:Hp)(a C:J)(fs:List (Str×V)):Prop
 |mk(dx:_)(h1:dx≠a)(h2:H a=Z (.ext (YD a C dx)))(h3:H dx=Z (.ext (XD dx fs)))
mutual
inductive aI(K:BT)(dl:Dl)(H:Hp):V->T->List J->Prop where
 |n:aI K dl H .non .n []
 |b(x:Bool):aI K dl H (.bl x) (.b x) []
 |i(x:Int):aI K dl H (.int x) (.i x) []
 |s(x:Str):aI K dl H (.str x) (.s x) []
 |ty(x:String):aI K dl H (.ty x) (.ty x) []
 |t{a:J}{vs:List V}{ts:List T}{F:List J}:H a=Z (.tup vs)->aA K dl H vs ts F->aI K dl H (.ref a) (.t ts) F
 |l{a:J}{vs:List V}{ts:List T}{F:List J}:H a=Z (.lst vs)->aA K dl H vs ts F->aI K dl H (.ref a) (.l ts) (a::F)
 |d{a:J}{vs:List (Key×V)}{ts:List (Key×T)}{F:List J}:H a=Z (.dK vs)->hU K dl H vs ts F->aI K dl H (.ref a) (.d ts) (a::F)
 |x{a l:J}:(a,l)∈dl->aI K dl H (.ref a) .gj []
 |z{a:J}{ns:List Int}:FzL K H a (ns.map V.int)->aI K dl H (.ref a) (.z ns) []
 |q{a:J}{xs:List V}:H a=Z (.lst xs)->aI K dl H (.ref a) .q []
 |fd{a:J}{o:Obj}{vs:List (Key×V)}{ts:List (Key×T)}:H a=Z (.frz o (.dK vs))->hU K dl H vs ts []->aI K dl H (.ref a) (.fd o vs ts) []
 |k{a:J}{ws:List Str}:(∀H':Hp,SqT K H' a (ws.map V.str))->aI K dl H (.ref a) (.k ws) []
 |e{a C:J}{b:Bool}{ns:List Str}{vs:List V}{ts:List T}:ExH H a C b (ns.zip vs)->aA K dl H vs ts []->aI K dl H (.ref a) (.xc C ns ts) []
 |rm{a:J}{x u:Int}:H a=Z (.room x)->x<=u->aI K dl H (.ref a) (.rm u) []
 |ob{a C:J}{ns:List Str}{vs:List V}{ts:List T}:ObH H a C (ns.zip vs)->aA K dl H vs ts []->aI K dl H (.ref a) (.ob C ns ts) []
 |dp{a:J}{vs:List (Key×V)}{ts:List (Key×T)}{F:List J}:H a=Z (.dK vs)->hU K dl H vs ts F->aI K dl H (.ref a) (.dp a ts) (a::F)
 |lp{a:J}{vs:List V}{ts:List T}{F:List J}:H a=Z (.lst vs)->aA K dl H vs ts F->aI K dl H (.ref a) (.lp a ts) (a::F)
 |zl{a:J}{o:Obj}{vs:List V}{ts:List T}:H a=Z (.frz o (.lst vs))->aA K dl H vs ts []->aI K dl H (.ref a) (.zl ts) []
 |rf(a:J):aI K dl H (.ref a) (.rf a) []
 |om{a C dx:J}{ns:List Str}{vs:List V}{ts:List T}{F:List J}:H a=Z (.ins C dx (ns.zip vs))->H dx=Z (.own a)->ns.length=ts.length->aA K dl H vs ts F->aI K dl H (.ref a) (.om a C ns ts) (a::dx::F)
 |fz{a:J}{o:Obj}{u:HO}:H a=Z (.frz o u)->aI K dl H (.ref a) (.fz u) []
inductive aA(K:BT)(dl:Dl)(H:Hp):List V->List T->List J->Prop where
 |nil:aA K dl H [] [] []
 |cons{v:V}{x:T}{vs:List V}{ts:List T}{F G:List J}:aI K dl H v x F->aA K dl H vs ts G->aA K dl H (v::vs) (x::ts) (F++G)
inductive hU(K:BT)(dl:Dl)(H:Hp):List (Key×V)->List (Key×T)->List J->Prop where
 |nil:hU K dl H [] [] []
 |cons{k:Key}{v:V}{x:T}{vs:List (Key×V)}{ts:List (Key×T)}{F G:List J}:aI K dl H v x F->hU K dl H vs ts G->hU K dl H ((k,v)::vs) ((k,x)::ts) (F++G)
end
def HO.mt:HO->Bool
 |.lst _=>O
 |.dK _=>O
 |.ins _ _ _=>O
 |.own _=>O
 |_=>ϊ
inductive gJ(H:Hp)(b:J):Prop
 |mk(o:_)(h1:H b=Z o)(h2:o.mt=O)
def gJ.no{b:J}(h:gJ H b)(e:H b=Y):False:=by
 let(_,h,_):=h;rw[e]at h;cases h
structure TF(H H':Hp):Prop where
 t:∀a vs,H a=Z (.tup vs)->H' a=Z (.tup vs)
 f:∀a o u,H a=Z (.frz o u)->H' a=Z (.frz o u)
 x:∀a φ,H a=Z (.ext φ)->H' a=Z (.ext φ)
 q:∀a xs,H a=Z (.lst xs)->∃ys,H' a=Z (.lst ys)
 r:∀a x,H a=Z (.room x)->∃y,y<=x/\H' a=Z (.room y)
variable{H':Hp}
def ObH.tf{fs:List (Str×V)}(h:ObH H a C fs)(k:TF H H'):ObH H' a C fs:=by
 let(d,h1,h2,h3):=h;exact(d,h1,k.x _ _ h2,k.x _ _ h3)
def ExH.tf{b:Bool}{fs:List (Str×V)}(h:ExH H a C b fs)(k:TF H H'):ExH H' a C b fs:=by
 obtain⟨h1,h2⟩|⟨d,h1,h2,h3⟩:=h
 ·exact .inl (h1,k.x _ _ h2)
 ·exact .inr (d,h1,k.x _ _ h2,k.x _ _ h3)
theorem FzL.tf{K:BT}{vs:List V}(h:FzL K H a vs)(k:TF H H'):FzL K H' a vs:=by
 obtain⟨o,h⟩|h:=h
 ·exact .inl (o,k.f _ _ _ h)
 ·exact .inr h
def cI{α:Type}{p:α->Prop}:∀b∈([]:List α),p b:=λ_ h=>absurd h UR
variable{dl:Dl}
theorem aI.eC{K:BT}{Q:Dl}(k:TF H H')(hd:∀p∈dl,p∈Q){v:V}{t:T}{F:List J}(h:aI K dl H v t F):(∀b∈F,∀o,H b=Z o->H' b=Z o)->aI K Q H' v t F :=
 aI.rec (motive_2:=λv t F _=>(∀b∈F,∀o,H b=Z o->H' b=Z o)->aA K Q H' v t F) (motive_3:=λv t F _=>(∀b∈F,∀o,H b=Z o->H' b=Z o)->hU K Q H' v t F)
  (λ_=>.n) (λx _=>.b x) (λx _=>.i x) (λx _=>.s x) (λx _=>.ty x) (λh _ g q=>.t (k.t _ _ h) (g q))
  (λh _ g q=>.l (q _ di _ h) (g λb P=>q b (aJ _ P))) (λh _ g q=>.d (q _ di _ h) (g λb P=>q b (aJ _ P)))
  (λh _=>.x (hd _ h)) (λh _=>.z (h.tf k)) (λh _=>Exists.elim (k.q _ _ h) λ_ e=>.q e) (λh _ g _=>.fd (k.f _ _ _ h) (g cI)) (λh _=>.k h) (λh _ g _=>.e (h.tf k) (g cI))
  (λh hx _=>Exists.elim (k.r _ _ h) λ_ e=>.rm e.2 (Za e.1 hx)) (λh _ g _=>.ob (h.tf k) (g cI)) (λh _ g q=>.dp (q _ di _ h) (g λb P=>q b (aJ _ P))) (λh _ g q=>.lp (q _ di _ h) (g λb P=>q b (aJ _ P))) (λh _ g _=>.zl (k.f _ _ _ h) (g cI)) (λa _=>.rf a) (λh1 h2 h3 _ g q=>.om (q _ di _ h1) (q _ (aJ _ di) _ h2) h3 (g λb P=>q b (aJ _ (aJ _ P)))) (λh _=>.fz (k.f _ _ _ h))
  (λ_=>.nil) (λ_ _ i1 i2 q=>.cons (i1 λb P=>q b (px _ P)) (i2 λb P=>q b (lO _ P)))
  (λ_=>.nil) (λ_ _ i1 i2 q=>.cons (i1 λb P=>q b (px _ P)) (i2 λb P=>q b (lO _ P))) h
@[elab_as_elim]
theorem aA.ind{K:BT}{M:List V->List T->List J->Prop}(nil:M [] [] [])(cons:∀v x vs ts F G,aI K dl H v x F->aA K dl H vs ts G->M vs ts G->M (v::vs) (x::ts) (F++G)){vs:List V}{ts:List T}{F:List J}(h:aA K dl H vs ts F):M vs ts F :=
 aA.rec (motive_1:=λ_ _ _ _=>True) (motive_3:=λ_ _ _ _=>True) trivial (λ_=>trivial) (λ_=>trivial) (λ_=>trivial) (λ_=>trivial) (λ_ _ _=>trivial) (λ_ _ _=>trivial) (λ_ _ _=>trivial)
  (λ_=>trivial) (λ_=>trivial) (λ_=>trivial) (λ_ _ _=>trivial) (λ_=>trivial) (λ_ _ _=>trivial) (λ_ _=>trivial) (λ_ _ _=>trivial) (λ_ _ _=>trivial) (λ_ _ _=>trivial) (λ_ _ _=>trivial) (λ_=>trivial) (λ_ _ _ _ _=>trivial) (λ_=>trivial) nil (λh r _ g=>cons _ _ _ _ _ _ h r g) trivial (λ_ _ _ _=>trivial) h
@[elab_as_elim]
theorem hU.ind{K:BT}{M:List (Key×V)->List (Key×T)->List J->Prop}(nil:M [] [] [])(cons:∀k v x vs ts F G,aI K dl H v x F->hU K dl H vs ts G->M vs ts G->M ((k,v)::vs) ((k,x)::ts) (F++G)){vs:List (Key×V)}{ts:List (Key×T)}{F:List J}(h:hU K dl H vs ts F):M vs ts F :=
 hU.rec (motive_1:=λ_ _ _ _=>True) (motive_2:=λ_ _ _ _=>True) trivial (λ_=>trivial) (λ_=>trivial) (λ_=>trivial) (λ_=>trivial) (λ_ _ _=>trivial) (λ_ _ _=>trivial) (λ_ _ _=>trivial)
  (λ_=>trivial) (λ_=>trivial) (λ_=>trivial) (λ_ _ _=>trivial) (λ_=>trivial) (λ_ _ _=>trivial) (λ_ _=>trivial) (λ_ _ _=>trivial) (λ_ _ _=>trivial) (λ_ _ _=>trivial) (λ_ _ _=>trivial) (λ_=>trivial) (λ_ _ _ _ _=>trivial) (λ_=>trivial) trivial (λ_ _ _ _=>trivial) nil (λh r _ g=>cons _ _ _ _ _ _ _ h r g) h
theorem aA.eC{K:BT}{dl g:Dl}{H H':Hp}(k:TF H H')(hd:∀p∈dl,p∈g){vs:List V}{ts:List T}{F:List J}(h:aA K dl H vs ts F):(∀b∈F,∀o,H b=Z o->H' b=Z o)->aA K g H' vs ts F :=
 h.ind (λ_=>.nil) (λ_ _ _ _ _ _ h _ P q=>.cons (h.eC k hd λb z=>q b (px _ z)) (P λb z=>q b (lO _ z)))
variable{G:List J}
def so{F:List J}(h:∀b∈F,gJ H b)(r:∀b∈G,gJ H b):∀b∈F++G,gJ H b:=λb g=>(mu.mp g).elim (h b) (r b)
theorem aI.there{K:BT}{v:V}{t:T}{F:List J}(h:aI K dl H v t F):∀b∈F,gJ H b :=
 aI.rec
  cI (λ_=>cI) (λ_=>cI) (λ_=>cI) (λ_=>cI) (λ_ _ g=>g)
  (λh _ g b q=>(fx.mp q).elim (λe=>by rw[e];exact(_,h,U)) (g b)) (λh _ g b q=>(fx.mp q).elim (λe=>by rw[e];exact(_,h,U)) (g b))
  (λ_=>cI) (λ_=>cI) (λ_=>cI) (λ_ _ _=>cI) (λ_=>cI) (λ_ _ _=>cI)
  (λ_ _=>cI) (λ_ _ _=>cI) (λh _ g b q=>(fx.mp q).elim (λe=>by rw[e];exact(_,h,U)) (g b)) (λh _ g b q=>(fx.mp q).elim (λe=>by rw[e];exact(_,h,U)) (g b)) (λ_ _ _=>cI) (λ_=>cI) (λh1 h2 _ _ g b q=>(fx.mp q).elim (λe=>by rw[e];exact(_,h1,U)) λq=>(fx.mp q).elim (λe=>by rw[e];exact(_,h2,U)) (g b)) (λ_=>cI)
  cI (λ_ _ P z=>so P z) cI (λ_ _ P z=>so P z) h
theorem aA.there{K:BT}{dl:Dl}{H:Hp}{vs:List V}{ts:List T}{F:List J}(h:aA K dl H vs ts F):∀b∈F,gJ H b:=h.ind cI (λ_ _ _ _ _ _ h _ g=>so h.there g)
def Nd(dl:Dl)(b:J):Prop:=∀p∈dl,b≠p.1/\b≠p.2
def Dls(dl:Dl)(H:Hp):Prop:=∀p∈dl,sg H p.1 p.2
def Dls.nd(D:Dls dl H){b:J}{o:HO}(h:H b=Z o)(h1:∀xs,o ≠ .lst xs)(h2:∀ks,o ≠ .dK ks):Nd dl b:=λp hp=>by
 let(s,n,ls,Q):=D p hp;exact(dQ h Q.hd (h2 _),dQ h Q.hl (h1 _))
def Dls.nd0(D:Dls dl H){b:J}(h:H b=Y):Nd dl b:=λp hp=>by
 let(s,n,ls,Q):=D p hp;exact((aZ Q.hd h).symm,(aZ Q.hl h).symm)
def NR(o:HO):Prop:=∀x,o ≠ .room x
structure Evo(dl:Dl)(H H':Hp):Prop where
 k:∀b o,H b=Z o->Nd dl b->NR o->H' b=Z o
 d:Dls dl H'
 r:∀a x,H a=Z (.room x)->∃y,y<=x/\H' a=Z (.room y)
def NR.of{b:J}{o:HO}(h:gJ H b)(e:H b=Z o):NR o:=λx z=>by
 let(_,h,m):=h;rw[e,z]at h;cases h;cases m
def Evo.refl(D:Dls dl H):Evo dl H H:=(λ_ _ h _ _=>h,D,λ_ x h=>(x,Zi _,h))
variable{H1:Hp}
def Evo.trans{g:Hp}(a:Evo dl H H1)(b:Evo dl H1 g):Evo dl H g:=(λc o h n r=>b.k c o (a.k c o h n r) n r,b.d,λc x h=>let(y,K,e):=a.r c x h;let(z,q,P):=b.r c y e;(z,Za q K,P))
def Evo.tf(e:Evo dl H H')(D:Dls dl H):TF H H' :=
 (λa vs h=>e.k a _ h (D.nd h (λ_ z=>nomatch z) λ_ z=>nomatch z) (λ_ z=>nomatch z),λa o u h=>e.k a _ h (D.nd h (λ_ z=>nomatch z) λ_ z=>nomatch z) (λ_ z=>nomatch z),λa φ h=>e.k a _ h (D.nd h (λ_ z=>nomatch z) λ_ z=>nomatch z) (λ_ z=>nomatch z),λa xs h=>(by
  by_cases hn:Nd dl a
  ·exact(xs,e.k a _ h hn (λ_ z=>nomatch z))
  ·obtain⟨p,hp,z⟩:∃p∈dl,¬(a≠p.1/\a≠p.2):=Classical.byContradiction λc=>hn λp hp=>Classical.byContradiction λz=>c (p,hp,z)
   let(s,n,ls,Q):=D p hp;let(s',K,ls',q):=e.d p hp;have h1:=dQ h Q.hd (λz=>nomatch z)
   have h2:=Classical.byContradiction λg=>z (h1,g)
   exact(_,by rw[h2];exact q.hl)),e.r)
theorem Evo.new{p:J}{o:HO}(e:Evo dl H H1)(hp:H1 p=Y):Evo dl H (upd H1 p o) :=
 (λc u h n r=>by rw[ax (aZ (e.k c u h n r) hp)];exact e.k c u h n r,λq K=>(e.d q K).new hp,λc x h=>let(y,z,g):=e.r c x h;(y,z,by rw[ax (aZ g hp)];exact g))
def Evo.free(e:Evo dl H H'){p:J}(hp:H' p=Y):H p=none:=by
 cases q:H p with
 |none=>rfl
 |some o =>
  by_cases hn:NR o
  ·rw[e.k p o q (e.d.nd0 hp) hn]at hp;cases hp
  ·obtain⟨x,hx⟩:∃x,o=.room x:=Classical.byContradiction λc=>hn λx z=>c (x,z)
   subst hx;let(y,_,g):=e.r p x q;rw[g]at hp;cases hp
structure Rp(K:BT)(dl:Dl)(H:Hp)(v:V)(t:T)(F:List J):Prop where
 r:aI K dl H v t F
 n:∀b∈F,Nd dl b
structure Rps(K:BT)(dl:Dl)(H:Hp)(vs:List V)(ts:List T)(F:List J):Prop where
 r:aA K dl H vs ts F
 n:∀b∈F,Nd dl b
theorem Rp.evo{K:BT}{v:V}{t:T}{F:List J}(h:Rp K dl H v t F)(D:Dls dl H)(e:Evo dl H H'):Rp K dl H' v t F :=
 (h.r.eC (e.tf D) (λ_ q=>q) λb g o q=>e.k b o q (h.n b g) (.of (h.r.there b g) q),h.n)
theorem Rps.evo{K:BT}{v:List V}{t:List T}{F:List J}(h:Rps K dl H v t F)(D:Dls dl H)(e:Evo dl H H'):Rps K dl H' v t F :=
 (h.r.eC (e.tf D) (λ_ q=>q) λb g o q=>e.k b o q (h.n b g) (.of (h.r.there b g) q),h.n)
inductive Sl where
 |no|o (t:T)|r (t:T)
abbrev Sq:=List Sl
def Sl.get:Sl->Option T
 |.no=>Y
 |.o t=>Z t
 |.r t=>Z t
structure RdR(K:BT)(dl:Dl)(H:Hp)(σ:St)(q:Sq):Prop where
 d:Dls dl H
 g:∀(i:Nat)(x:Sl)(t:T),q[i]?=Z x->x.get=Z t->∃v F,σ[i]?=Z (Z v)/\Rp K dl H v t F
theorem RdR.evo{K:BT}{dl:Dl}{H H':Hp}{σ:St}{q:Sq}(h:RdR K dl H σ q)(e:Evo dl H H'):RdR K dl H' σ q :=
 (e.d,λi x t h1 h2=>let(v,F,h3,h4):=h.g i x t h1 h2;(v,F,h3,h4.evo h.d e))
abbrev QE:=Sq->(T->Prop)->Prop
abbrev QT:=Sq->(Bool->Prop)->Prop
abbrev QA:=Sq->(List T->Prop)->Prop
def kN(K:BT)(te:TE)(tq:QE):Prop:=∀(dl:Dl)(H:Hp)(σ:St)(q:Sq)(Q:T->Prop)(R:V->Hp->Prop),RdR K dl H σ q->tq q Q ->
 (∀v t F H',Evo dl H H'->Rp K dl H' v t F->Q t->R v H')->te σ H R
def kM(K:BT)(te:TE)(tq:QE):Prop:=∀(dl:Dl)(H:Hp)(σ:St)(q:Sq)(Q:T->Prop)(R:V->Hp->Prop),RdR K dl H σ q->tq q Q ->
 (∀v t F H',Evo dl H H'->Rp K dl H' v t F->(∀b∈F,H b=Y)->F.Nodup->Q t->R v H')->te σ H R
def pR(K:BT)(te:TT)(tq:QT):Prop:=∀(dl:Dl)(H:Hp)(σ:St)(q:Sq)(Q:Bool->Prop)(R:Bool->Hp->Prop),RdR K dl H σ q->tq q Q ->
 (∀b H',Evo dl H H'->Q b->R b H')->te σ H R
def An(K:BT)(n:Nat)(te:TA)(tq:QA):Prop:=∀(dl:Dl)(H:Hp)(σ:St)(q:Sq)(Q:List T->Prop)(R:List V->Hp->Prop),RdR K dl H σ q->tq q Q ->
 (∀vs ts F H',Evo dl H H'->Rps K dl H' vs ts F->vs.length=n->Q ts->R vs H')->te σ H R
def Xq(K:BT)(n:Nat)(te:TA)(tq:QA):Prop:=∀(dl:Dl)(H:Hp)(σ:St)(q:Sq)(Q:List T->Prop)(R:List V->Hp->Prop),RdR K dl H σ q->tq q Q ->
 (∀vs ts F H',Evo dl H H'->Rps K dl H' vs ts F->vs.length=n->(∀b∈F,H b=Y)->F.Nodup->Q ts->R vs H')->te σ H R
structure QPE(X:Cx)(K:BT)(e:EQ)(te:TE)(tq:QE):Prop where
 h:PE X e te
 s:kN K te tq
structure QPF(X:Cx)(K:BT)(e:EQ)(te:TE)(tq:QE):Prop where
 h:PE X e te
 s:kM K te tq
structure QPT(X:Cx)(K:BT)(e:EQ)(te:TT)(tq:QT):Prop where
 h:PT X e te
 s:pR K te tq
structure QPW(X:Cx)(K:BT)(e:EQ)(te:TT)(tq:QT):Prop where
 h:PW X e te
 s:pR K te tq
structure QPA(X:Cx)(K:BT)(es:List EQ)(te:TA)(tq:QA):Prop where
 h:PA X es te
 s:An K es.length te tq
structure Ap(X:Cx)(K:BT)(es:List EQ)(te:TA)(tq:QA):Prop where
 h:PA X es te
 s:Xq K es.length te tq
section
variable{X:Cx}{K:BT}{a b:EQ}{ta tb:TE}{qa qb qe:QE}{pos:Pos}
def ZB(h:QPF X K e te qe):QPE X K e te qe:=(h.h,λdl H σ q Q R rd g k=>h.s dl H σ q Q R rd g λv t F H' e r _ _ z=>k v t F H' e r z)
mutual
def T.im:T->Bool
 |.t xs=>T.ims xs
 |.l _=>ϊ
 |.d _=>ϊ
 |.dp _ _=>ϊ
 |.lp _ _=>ϊ
 |.om _ _ _ _=>ϊ
 |_=>O
def T.ims:List T->Bool
 |[]=>O
 |x::r=>x.im&&T.ims r
end
def zU{F:List J}{x y:Bool}(h:x=O->F=[])(r:y=O->G=[])(q:(x&&y)=O):F++G=[]:=by rw[h (ti _ _▸q).1,r (ti _ _▸q).2];rfl
theorem aI.im{dl:Dl}{H:Hp}{v:V}{t:T}{F:List J}(h:aI K dl H v t F):t.im=O->F=[] :=
 aI.rec (motive_3:=λ_ _ _ _=>True)
  (λ_=>rfl) (λ_ _=>rfl) (λ_ _=>rfl) (λ_ _=>rfl) (λ_ _=>rfl) (λ_ _ g=>g) (λ_ _ _ h=>absurd h rZ) (λ_ _ _ h=>absurd h rZ)
  (λ_ _=>rfl) (λ_ _=>rfl) (λ_ _=>rfl) (λ_ _ _ _=>rfl) (λ_ _=>rfl) (λ_ _ _ _=>rfl) (λ_ _ _=>rfl) (λ_ _ _ _=>rfl) (λ_ _ _ h=>absurd h rZ) (λ_ _ _ h=>absurd h rZ) (λ_ _ _ _=>rfl) (λ_ _=>rfl) (λ_ _ _ _ _ h=>absurd h rZ) (λ_ _=>rfl) (λ_=>rfl) (λ_ _ z q=>zU z q) trivial (λ_ _ _ _=>trivial) h
theorem aA.im{dl:Dl}{H:Hp}{v:List V}{t:List T}{F:List J}(h:aA K dl H v t F):T.ims t=O->F=[]:=h.ind (λ_=>rfl) (λ_ _ _ _ _ _ h _ g=>zU h.im g)
inductive Ex2{α:Type}(p:α->Prop)(Q:α->Prop):Prop
 |mk(x:α)(h:p x)(k:Q x)
inductive Ex3{α β:Type}(p:α->Prop)(g:α->β)(Q:β->Prop):Prop
 |mk(x:α)(h:p x)(k:Q (g x))
inductive Ex4{α β:Type}(p r:α->Prop)(g:α->β)(Q:β->Prop):Prop
 |mk(x:α)(h:p x)(h2:r x)(k:Q (g x))
def on1(ts:List T)(P:T->Prop):Prop:=match ts with|[t]=>P t|_=>False
def on1.inv{ts:List T}{P:T->Prop}(h:on1 ts P):∃t,ts=[t]/\P t:=by
 cases ts with
 |nil=>exact h.elim
 |cons t r=>cases r with
  |nil=>exact(t,U,h)
  |cons=>exact h.elim
def on2(ts:List T)(P:T->T->Prop):Prop:=match ts with|[t,u]=>P t u|_=>False
def on2.inv{ts:List T}{P:T->T->Prop}(h:on2 ts P):∃t u,ts=[t,u]/\P t u:=by
 cases ts with
 |nil=>exact h.elim
 |cons t r=>cases r with
  |nil=>exact h.elim
  |cons u r=>cases r with
   |nil=>exact(t,u,U,h)
   |cons=>exact h.elim
def qIm(qe:QE):QE:=λq Q=>qe q λt=>t.im=O/\Q t
theorem XL(h:QPE X K e te qe):QPF X K e te (qIm qe):=(h.h,λdl H σ q Q R rd V k=>h.s dl H σ q _ R rd V λv t F H' e r (P,g)=>by
 have f:=r.r.im P;subst f;exact k v t [] H' e r (λ_ z=>nomatch z) mz g)
def iT(i:Nat):QE:=λq Q=>match q[i]? with
 |some (.o t)=>Q t
 |some (.r t)=>Q t
 |_=>False
def Nn(i:Nat):kN K (cc i) (iT i):=by
 intro dl H σ q Q R rd z k;unfold iT at z
 split at z
 ·rename_i t e;let(v,F,h1,h2):=rd.g i _ t e U;exact(v,h1,k v t F H (.refl rd.d) h2 z)
 ·rename_i t e;let(v,F,h1,h2):=rd.g i _ t e U;exact(v,h1,k v t F H (.refl rd.d) h2 z)
 ·exact z.elim
def qv(i:Nat){pos:Pos}(q:‹X.N[i]?=Z x›)(hv:Vis X.env.scope x:=by first|exact Or.inl rfl|exact Or.inr (Or.inl U)|exact Or.inr (Or.inr U))(hd:autoParam (AS x) zdc._auto_1)
  (g:autoParam ((x ==("__classdict__":Str))=false) zdc._auto_1):QPE X K (.Name x pos) (cc i) (iT i):=(zx q hv hd g,Nn i)
def qC(t:T):QE:=λ_ Q=>Q t
def t8{v:V}{t:T}(h:∀dl H,aI K dl H v t []):kM K (tC v) (qC t):=λdl H σ q Q R rd g k=>k v t [] H (.refl rd.d) (h dl H,λ_ z=>nomatch z) (λ_ z=>nomatch z) mz g
def bR{i j pos}:QPF X K (.Constant (.int i) j pos) (tC (.int i)) (qC (.i i)):=(b7,t8 λ_ _=>.i i)
def iM{b j pos}:QPF X K (.Constant (.bool b) j pos) (tC (.bl b)) (qC (.b b)):=(V4,t8 λ_ _=>.b b)
def vN{j pos}:QPF X K (.Constant .none j pos) (tC .non) (qC .n):=(SV,t8 λ_ _=>.n)
def aj{x j pos}:QPF X K (.Constant (.str x) j pos) (tC (.str x)) (qC (.s x)):=(gF,t8 λ_ _=>.s x)
def P1{n:String}(hg:Gl X x)(hm:X.mg x=Y)(hv:bootBuiltins x=Z (.type n))(hn:autoParam (x ≠ "__name__") zdc._auto_1)(hd:autoParam (AS x) zdc._auto_1):QPF X K (.Name x pos) (tC (.ty n)) (qC (.ty n)) :=
 (FV hg hm hv U hn hd,t8 λ_ _=>.ty n)
def Bc{y:Str}(hg:Gl X x)(hm:∃t,X.mg x=Z (.str y t))(hd:autoParam (AS x) zdc._auto_1):QPF X K (.Name x pos) (tC (.str y)) (qC (.s y)):=(K7 hg hm hd,t8 λ_ _=>.s y)
def Be{y:Int}(hg:Gl X x)(hm:∃t,X.mg x=Z (.int y t))(hd:autoParam (AS x) zdc._auto_1):QPF X K (.Name x pos) (tC (.int y)) (qC (.i y)):=(K8 hg hm hd,t8 λ_ _=>.i y)
theorem pe{dl:Dl}{H:Hp}:∀(ws:List Str),aA K dl H (ws.map V.str) (ws.map T.s) []
 |[]=>.nil
 |w::r=>.cons (.s w) (pe r)
theorem vJ{dl:Dl}{H:Hp}:∀(ws:List Int),aA K dl H (ws.map V.int) (ws.map T.i) []
 |[]=>.nil
 |w::r=>.cons (.i w) (vJ r)
def Ko{y:J}{ws:List Str}(hg:Gl X x)(hm:X.mg x=Z (.ref y))(g:∀H,SqT K H y (ws.map V.str))(hd:autoParam (AS x) zdc._auto_1):QPF X K (.Name x pos) (tC (.ref y)) (qC (.k ws)) :=
 (vV hg hm hd,t8 λdl H=>.k g)
abbrev Q2:=T->T->(T->Prop)->Prop
def UL(K:BT)(r:R2)(rq:Q2):Prop:=∀(dl:Dl)(H:Hp)(x y:V)(t u:T)(F G:List J)(Q:T->Prop)(R:V->Hp->Prop),Dls dl H->Rp K dl H x t F->Rp K dl H y u G->rq t u Q ->
 (∀v z F' H',Evo dl H H'->Rp K dl H' v z F'->Q z->R v H')->r x y H R
def gK(K:BT)(r:R2)(rq:Q2):Prop:=∀(dl:Dl)(H:Hp)(x y:V)(t u:T)(F G:List J)(Q:T->Prop)(R:V->Hp->Prop),Dls dl H->Rp K dl H x t F->Rp K dl H y u G->rq t u Q ->
 (∀v z F' H',Evo dl H H'->Rp K dl H' v z F'->(∀b∈F',H b=Y)->F'.Nodup->Q z->R v H')->r x y H R
variable{rq:Q2}
def gK.w{r:R2}(h:gK K r rq):UL K r rq:=λdl H x y t u F G Q R d a b q k=>h dl H x y t u F G Q R d a b q λv z F' H' e r _ _ g=>k v z F' H' e r g
def qOp(rq:Q2)(qa qb:QE):QE:=λq Q=>qa q λt=>qb q λu=>rq t u Q
def JI{r:R2}(ho:UL K r rq)(ha:kN K ta qa)(hb:kN K tb qb):kN K (tOp r ta tb) (qOp rq qa qb):=by
 intro dl H σ q Q R rd hq k;exact ha dl H σ q _ _ rd hq λv t F H1 e1 r1 P=>(hb dl H1 σ q _ _ (rd.evo e1) P λw u G H2 V r2 g=>(ho dl H2 v w t u F G Q R V.d (r1.evo e1.d V) r2 g λv' z F' H3 e3 r3 hz=>k v' z F' H3 ((e1.trans V).trans e3) r3 hz))
def za{r:R2}(ho:gK K r rq)(ha:kN K ta qa)(hb:kN K tb qb):kM K (tOp r ta tb) (qOp rq qa qb):=by
 intro dl H σ q Q R rd hq k;exact ha dl H σ q _ _ rd hq λv t F H1 P r1 ah=>(hb dl H1 σ q _ _ (rd.evo P) ah λw u G H2 g r2 V=>(ho dl H2 v w t u F G Q R g.d (r1.evo P.d g) r2 V λv' z F' H3 e3 r3 f3 n3 hz=>k v' z F' H3 ((P.trans g).trans e3) r3 (λb hb=>(P.trans g).free (f3 b hb)) n3 hz))
def zm{op:Operator}{r:R2}(ho:OpR X (binaryOp op) r)(hs:gK K r rq)(ha:QPE X K a ta qa)(g:QPE X K b tb qb):QPF X K (.BinOp a op b pos) (tOp r ta tb) (qOp rq qa qb):=(fh ho ha.h g.h,za hs ha.s g.s)
end
end L2
namespace L2
open PySem PySem.Spec PyProof.Rows
variable{x:Str}{a:J}{C:J}{ns:List Str}{i:Nat}{G:List J}
section
variable{X:Cx}{K:BT}{dl:Dl}{H:Hp}{v:V}{F:List J}
def YE(K:BT)(dl:Dl)(H:Hp)(v:V)(F:List J):T->Prop
 |.n=>v=.non/\F=[]
 |.b x=>v=.bl x/\F=[]
 |.i x=>v=.int x/\F=[]
 |.s x=>v=.str x/\F=[]
 |.ty x=>v=.ty x
 |.t ts=>∃a vs,v=.ref a/\H a=Z (.tup vs)/\aA K dl H vs ts F
 |.l ts=>∃a vs G,v=.ref a/\F=a::G/\H a=Z (.lst vs)/\aA K dl H vs ts G
 |.d ts=>∃a vs G,v=.ref a/\F=a::G/\H a=Z (.dK vs)/\hU K dl H vs ts G
 |.gj=>∃a l,v=.ref a/\(a,l)∈dl/\F=[]
 |.z ns=>∃a,v=.ref a/\FzL K H a (ns.map V.int)/\F=[]
 |.k ws=>∃a,v=.ref a/\(∀H',SqT K H' a (ws.map V.str))/\F=[]
 |.xc C ns ts=>∃a b vs,v=.ref a/\F=[]/\ExH H a C b (ns.zip vs)/\aA K dl H vs ts []
 |.q=>True
 |.fd _ _ _=>True
 |.rm u=>∃a x,v=.ref a/\H a=Z (.room x)/\x<=u/\F=[]
 |.ob C ns ts=>∃a vs,v=.ref a/\F=[]/\ObH H a C (ns.zip vs)/\aA K dl H vs ts []
 |.dp a ts=>∃vs G,v=.ref a/\F=a::G/\H a=Z (.dK vs)/\hU K dl H vs ts G
 |.lp a ts=>∃vs G,v=.ref a/\F=a::G/\H a=Z (.lst vs)/\aA K dl H vs ts G
 |.zl ts=>∃a o vs,v=.ref a/\F=[]/\H a=Z (.frz o (.lst vs))/\aA K dl H vs ts []
 |.rf a=>v=.ref a/\F=[]
 |.om a C ns ts=>∃dx vs G,v=.ref a/\F=a::dx::G/\H a=Z (.ins C dx (ns.zip vs))/\H dx=Z (.own a)/\ns.length=ts.length/\aA K dl H vs ts G
 |.fz u=>∃a o,v=.ref a/\F=[]/\H a=Z (.frz o u)
def aI.inv{t:T}(h:aI K dl H v t F):YE K dl H v F t :=
 aI.rec (motive_2:=λ_ _ _ _=>True) (motive_3:=λ_ _ _ _=>True) (U,U) (λ_=>(U,U)) (λ_=>(U,U)) (λ_=>(U,U)) (λ_=>rfl)
  (λh r _=>(_,_,U,h,r)) (λh r _=>(_,_,_,U,U,h,r)) (λh r _=>(_,_,_,U,U,h,r)) (λh=>(_,_,U,h,U)) (λh=>(_,U,h,U)) (λ_=>trivial) (λ_ _ _=>trivial) (λh=>(_,U,h,U)) (λh r _=>(_,_,_,U,U,h,r)) (λh hx=>(_,_,U,h,hx,U)) (λh r _=>(_,_,U,U,h,r)) (λh r _=>(_,_,U,U,h,r)) (λh r _=>(_,_,U,U,h,r)) (λh r _=>(_,_,_,U,U,h,r)) (λ_=>(U,U)) (λh1 h2 h3 r _=>(_,_,_,U,U,h1,h2,h3,r)) (λh=>(_,_,U,U,h))
  trivial (λ_ _ _ _=>trivial) trivial (λ_ _ _ _=>trivial) h
theorem aI.int{x:Int}(h:aI K dl H v (.i x) F):v=.int x/\F=[]:=h.inv
theorem aI.str(h:aI K dl H v (.s x) F):v=.str x/\F=[]:=h.inv
theorem aI.bl{x:Bool}(h:aI K dl H v (.b x) F):v=.bl x/\F=[]:=h.inv
theorem aI.non(h:aI K dl H v .n F):v=.non/\F=[]:=h.inv
def aI.tyy{x:String}(h:aI K dl H v (.ty x) F):v=.ty x:=h.inv
theorem aI.tup{ts:List T}(h:aI K dl H v (.t ts) F):∃a vs,v=.ref a/\H a=Z (.tup vs)/\aA K dl H vs ts F:=h.inv
theorem aI.lst{ts:List T}(h:aI K dl H v (.l ts) F):∃a vs G,v=.ref a/\F=a::G/\H a=Z (.lst vs)/\aA K dl H vs ts G:=h.inv
def aI.dic{ts:List (Key×T)}(h:aI K dl H v (.d ts) F):∃a vs G,v=.ref a/\F=a::G/\H a=Z (.dK vs)/\hU K dl H vs ts G:=h.inv
def aI.dpp{ts:List (Key×T)}(h:aI K dl H v (.dp a ts) F):∃vs G,v=.ref a/\F=a::G/\H a=Z (.dK vs)/\hU K dl H vs ts G:=h.inv
def aI.lpp{ts:List T}(h:aI K dl H v (.lp a ts) F):∃vs G,v=.ref a/\F=a::G/\H a=Z (.lst vs)/\aA K dl H vs ts G:=h.inv
def aI.zls{ts:List T}(h:aI K dl H v (.zl ts) F):∃a o vs,v=.ref a/\F=[]/\H a=Z (.frz o (.lst vs))/\aA K dl H vs ts []:=h.inv
def aI.omm{ts:List T}(h:aI K dl H v (.om a C ns ts) F):∃dx vs G,v=.ref a/\F=a::dx::G/\H a=Z (.ins C dx (ns.zip vs))/\H dx=Z (.own a)/\ns.length=ts.length/\aA K dl H vs ts G:=h.inv
def aI.dea(h:aI K dl H v .gj F):∃a l,v=.ref a/\(a,l)∈dl/\F=[]:=h.inv
def aI.scr{ns:List Int}(h:aI K dl H v (.z ns) F):∃a,v=.ref a/\FzL K H a (ns.map V.int)/\F=[]:=h.inv
def aI.kst{ws:List Str}(h:aI K dl H v (.k ws) F):∃a,v=.ref a/\(∀H',SqT K H' a (ws.map V.str))/\F=[]:=h.inv
def aA.len{vs:List V}{ts:List T}{F:List J}(h:aA K dl H vs ts F):vs.length=ts.length:=h.ind U λ_ _ _ _ _ _ _ _ g=>congrArg (· + 1) g
def hU.len{vs:List (Key×V)}{ts:List (Key×T)}{F:List J}(h:hU K dl H vs ts F):vs.length=ts.length:=h.ind U λ_ _ _ _ _ _ _ _ _ g=>congrArg (· + 1) g
def aA.Ul{vs:List V}{ts:List T}{F:List J}{t:T}(h:aA K dl H vs ts F)(e:ts[i]?=Z t):∃v G,vs[i]?=Z v/\aI K dl H v t G/\G.Sublist F :=
 h.ind (λ_ _ e=>nomatch e) (λv x vs ts F G h _ g i t e=>by
  cases i with
  |zero=>cases e;exact(v,F,U,h,List.sublist_append_left _ _)
  |succ i =>
   let(w,q,h1,h2,h3):=g i t e;exact(w,q,h1,h2,h3.trans (ZO _ _))) i t e
def aA.get{vs:List V}{ts:List T}{F:List J}{t:T}(h:aA K dl H vs ts F)(e:ts[i]?=Z t):∃v G,vs[i]?=Z v/\aI K dl H v t G/\∀b∈G,b∈F :=
 Exists.elim (h.Ul e) λv z=>Exists.elim z λG z=>(v,G,z.1,z.2.1,λ_ g=>z.2.2.subset g)
def aA.append{vs ws:List V}{ts us:List T}{F:List J}(h:aA K dl H vs ts F)(h2:aA K dl H ws us G):aA K dl H (vs++ws) (ts++us) (F++G) :=
 h.ind h2 λ_ _ _ _ _ _ h _ g=>by rw[Ay];exact .cons h g
def aA.lC{vs:List V}{ts:List T}(h:aA K dl H vs ts F):vs=[] ↔ ts=[]:=by
 cases h with
 |nil=>simp
 |cons _ _=>simp
theorem aA.drop:∀{vs:List V}{ts:List T}{F:List J}(n:Nat),aA K dl H vs ts F->∃G,aA K dl H (vs.drop n) (ts.drop n) G/\G.Sublist F
 |_,_,F,0,h=>(F,h,List.Sublist.refl _)
 |_,_,_,_+1,.nil=>([],.nil,List.Sublist.refl _)
 |_,_,_,n+1,.cons h r=>by
  let(G,h1,h2):=aA.drop n r;exact(G,h1,h2.trans (ZO _ _))
theorem aA.take:∀{vs:List V}{ts:List T}{F:List J}(n:Nat),aA K dl H vs ts F->∃G,aA K dl H (vs.take n) (ts.take n) G/\G.Sublist F
 |_,_,F,0,h=>([],.nil,List.nil_sublist _)
 |_,_,_,_+1,.nil=>([],.nil,List.Sublist.refl _)
 |_,_,_,n+1,.cons h r=>by
  let(G,h1,h2):=aA.take n r;exact(_,.cons h h1,h2.append_left _)
def Rp.sub{t:T}{F:List J}(r:aI K dl H v t G)(n:∀b∈F,Nd dl b)(h:∀b∈G,b∈F):Rp K dl H v t G:=(r,λb g=>n b (h b g))
def Rp.c{t:T}(r:aI K dl H v t []):Rp K dl H v t []:=(r,λ_ z=>nomatch z)
theorem Rps.tup{vs:List V}{ts:List T}{p:J}(h:Rps K dl H vs ts F)(D:Dls dl H)(hp:H p=Y):Rp K dl (upd H p (.tup vs)) (.ref p) (.t ts) F :=
 have h2:=h.evo D ((Evo.refl D).new hp)
 (.t aC h2.r,h2.n)
theorem Rps.lst{vs:List V}{ts:List T}{p:J}(h:Rps K dl H vs ts F)(D:Dls dl H)(hp:H p=Y):Rp K dl (upd H p (.lst vs)) (.ref p) (.l ts) (p::F) :=
 have h2:=h.evo D ((Evo.refl D).new hp)
 (.l aC h2.r,λb g=>by
  obtain e|g:=fx.mp g
  ·rw[e];exact D.nd0 hp
  ·exact h2.n b g)
theorem Rps.fresh{vs:List V}{ts:List T}{p:J}(h:Rps K dl H vs ts F)(hp:H p=Y)(hn:F.Nodup):(p::F).Nodup:=xj.mpr (λz=>(h.r.there p z).no hp,hn)
def qII(C:Int->Int->Prop)(g:Int->Int->T):Q2:=λt u Q=>match t with
 |.i a=>match u with|.i b=>C a b/\Q (g a b)|_=>False
 |_=>False
def Vf{C:Int->Int->Prop}{g:Int->Int->V}{g':Int->Int->T}(hg:∀a b dl H,aI K dl H (g a b) (g' a b) []):gK K (rI C g) (qII C g'):=by
 intro dl H x y t u F G Q R D r1 P q k;unfold qII at q
 split at q
 ·split at q
  ·let(U,U):=r1.r.int;let(U,U):=P.r.int;exact(_,_,U,U,q.1,k _ _ [] H (.refl D) (.c (hg _ _ _ _)) (λ_ z=>nomatch z) mz q.2)
  ·exact q.elim
 ·exact q.elim
def qI0(g:Int->Int->T):Q2:=λt u Q=>match t with
 |.i a=>match u with|.i b=>Q (g a b)|_=>False
 |_=>False
def mF{g:Int->Int->V}{g':Int->Int->T}(hg:∀a b dl H,aI K dl H (g a b) (g' a b) []):gK K (rI0 g) (qI0 g'):=by
 intro dl H x y t u F G Q R D r1 P q k;unfold qI0 at q
 split at q
 ·split at q
  ·let(U,U):=r1.r.int;let(U,U):=P.r.int;exact(_,_,U,U,k _ _ [] H (.refl D) (.c (hg _ _ _ _)) (λ_ z=>nomatch z) mz q)
  ·exact q.elim
 ·exact q.elim
def OH:OpR X (binaryOp .Add) (λx y H Q=>∃a b xs ys,x=.ref a/\y=.ref b/\SqT X.K H a xs/\SqT X.K H b ys/\xs.length+ys.length<=ot /\
  (xs=[]->Q (.ref b) H)/\(xs ≠ []->ys=[]->Q (.ref a) H)/\(xs ≠ []->ys ≠ []->∀p,H p=Y->Q (.ref p) (upd H p (.tup (xs++ys))))):=by
 intro gd s σ H x y v u Q I rx V h;let(a,b,xs,ys,U,U,ha,hb,hz,q0,q1,q2):=h;by_cases hx:xs=[]
 ·cases rx;cases V;let(its,r1,p1,_):=I.tuple ha;let(gb,r2,p2,_):=I.tuple hb;have e:=r1.lC.mpr hx;subst e;let((cls,dd,data,sl),ho,hc,n,hd):=id p1;let((Yu,P,data2,q),g,z,n2,hd2):=id p2;subst hc hd z hd2;exact concat_meets (_,ho,U) (_,g,U) noFill_tuple_add seq_tuple_add PySem.F.slot_tuple_add PySem.F.entry_tuple_add (PySem.F.args_tuple_add_2 _ _)
   (tuple_addW0 a b ([]).toArray gb.toArray n n2 dd P sl q (by simp)) (ho,g,(.ref b,H,I,U,q0 hx))
 ·exact OI gd s σ H _ _ v u Q I rx V (a,b,xs,ys,U,U,ha,hb,hx,hz,q1 hx,q2 hx)
def Ka(K:BT):R2:=λx y H Q=>rI0 (λi j=>.int (i+j)) x y H Q\/(∃i j,x=.str i/\y=.str j/\i.length+j.length<=ot/\Q (.str (i++j)) H)\/Vv x y H Q \/
 (∃a b xs ys,x=.ref a/\y=.ref b/\SqT K H a xs/\SqT K H b ys/\xs.length+ys.length<=ot /\
  (xs=[]->Q (.ref b) H)/\(xs ≠ []->ys=[]->Q (.ref a) H)/\(xs ≠ []->ys ≠ []->∀p,H p=Y->Q (.ref p) (upd H p (.tup (xs++ys)))))
def OL(g:X.K=K):OpR X (binaryOp .Add) (Ka K):=by subst g;exact sR.or (D3.or (S1.or OH))
def Bf:Q2:=λt u Q=>match t with
 |.i a=>match u with|.i b=>Q (.i (a+b))|_=>False
 |.s a=>match u with|.s b=>a.length+b.length<=ot/\Q (.s (a++b))|_=>False
 |.l a=>match u with|.l b=>a.length+b.length<=ot/\T.ims a=O/\T.ims b=O/\Q (.l (a++b))|_=>False
 |.t a=>match u with|.t b=>a.length+b.length<=ot/\T.ims a=O/\T.ims b=O/\Q (.t (a++b))|_=>False
 |_=>False
def Ny:gK K (Ka K) Bf:=by
 intro dl H x y t u F G Q R D P q g k;have no:∀b,b∈([])->H b=none:=λ_ z=>nomatch z
 cases t with
 |i a =>
  dsimp only[Bf]at g
  split at g
  ·let(U,U):=P.r.int;let(U,U):=q.r.int;exact .inl (_,_,U,U,k _ _ [] H (.refl D) (.c (.i _)) no mz g)
  ·exact g.elim
 |s a =>
  dsimp only[Bf]at g
  split at g
  ·let(U,U):=P.r.str;let(U,U):=q.r.str;exact .inr (.inl (_,_,U,U,g.1,k _ _ [] H (.refl D) (.c (.s _)) no mz g.2))
  ·exact g.elim
 |l a =>
  dsimp only[Bf]at g
  split at g
  ·let(a,vs,F1,U,U,h1,s1):=P.r.lst;let(b,ws,G1,U,U,h2,s2):=q.r.lst;obtain rfl:=s1.im g.2.1;obtain rfl:=s2.im g.2.2.1;refine .inr (.inr (.inl (a,b,vs,ws,U,U,h1,h2,by rw[s1.len,s2.len];exact g.1,λp hp=>?_)))
   have rs:Rps K dl H (vs++ws) _ ([] ++ []):=(s1.append s2,λc hc=>nomatch hc)
   exact k _ _ _ _ ((Evo.refl D).new hp) (rs.lst D hp) (λb hb=>by rw[aB.mp hb];exact hp) (by simp) g.2.2.2
  ·exact g.elim
 |t a =>
  dsimp only[Bf]at g
  split at g
  ·let(a,vs,U,h1,s1):=P.r.tup;let(b,ws,U,h2,s2):=q.r.tup;obtain rfl:=s1.im g.2.1;obtain rfl:=s2.im g.2.2.1;refine .inr (.inr (.inr (a,b,vs,ws,U,U,SqT.of h1,SqT.of h2,by rw[s1.len,s2.len];exact g.1,λe=>?_,λe1 e2=>?_,λ_ _ p hp=>?_)))
   ·refine k _ _ [] H (.refl D) q no mz ?_;have z:=s1.lC.mp e;subst z;exact g.2.2.2
   ·refine k _ _ [] H (.refl D) P no mz ?_;have z:=s2.lC.mp e2;subst z;have V:=g.2.2.2;rw[qp]at V;exact V
   ·have rs:Rps K dl H (vs++ws) _ ([] ++ []):=(s1.append s2,λc hc=>nomatch hc)
    exact k _ _ _ _ ((Evo.refl D).new hp) (rs.tup D hp) no mz g.2.2.2
  ·exact g.elim
 |_=>exact g.elim
def N4:Q2:=λt u Q=>match t with
 |.i a=>match u with|.i b=>MY a b/\Q (.i (a*b))|_=>False
 |.s a=>match u with|.i b=>0<=b/\b<=1000/\a.length<=1000/\Q (.s (pb a b.toNat))|_=>False
 |_=>False
def J6:R2:=λx y H Q=>rI MY (λi j=>.int (i*j)) x y H Q\/(∃z n,x=.str z/\y=.int n/\0<=n/\n<=1000/\z.length<=1000/\Q (.str (pb z n.toNat)) H)
def OG:OpR X (binaryOp .Mult) J6:=pB.or DZ
def Nu:gK K J6 N4:=by
 intro dl H x y t u F G Q R D P q g k;cases t with
 |i a =>
  dsimp only[N4]at g
  split at g
  ·let(U,U):=P.r.int;let(U,U):=q.r.int;exact .inl (_,_,U,U,g.1,k _ _ [] H (.refl D) (.c (.i _)) (λ_ z=>nomatch z) mz g.2)
  ·exact g.elim
 |s a =>
  dsimp only[N4]at g
  split at g
  ·let(U,U):=P.r.str;let(U,U):=q.r.int;exact .inr (_,_,U,U,g.1,g.2.1,g.2.2.1,k _ _ [] H (.refl D) (.c (.s _)) (λ_ z=>nomatch z) mz g.2.2.2)
  ·exact g.elim
 |_=>exact g.elim
end
section
variable{X:Cx}{K:BT}{a b:EQ}{ta tb:TE}{qa qb:QE}{pos:Pos}
def ag(ha:QPE X K a ta qa)(g:QPE X K b tb qb)(q:‹X.K=K›):QPF X K (.BinOp a .Add b pos) (tOp (Ka K) ta tb) (qOp Bf qa qb):=zm (OL q) Ny ha g
def zk(ha:QPE X K a ta qa)(g:QPE X K b tb qb):QPF X K (.BinOp a .Sub b pos) (tOp (rI0 λi j=>.int (i - j)) ta tb) (qOp (qI0 λi j=>.i (i - j)) qa qb):=zm Lc (mF λ_ _ _ _=>.i _) ha g
def Km(ha:QPE X K a ta qa)(g:QPE X K b tb qb):QPF X K (.BinOp a .Mult b pos) (tOp J6 ta tb) (qOp N4 qa qb):=zm OG Nu ha g
def RX(ha:QPE X K a ta qa)(g:QPE X K b tb qb):QPF X K (.BinOp a .Mod b pos) (tOp (rI (λ_ j=>0<j) λi j=>.int (i % j)) ta tb) (qOp (qII (λ_ j=>0<j) λi j=>.i (i % j)) qa qb):=zm lz (Vf λ_ _ _ _=>.i _) ha g
end
variable{dl:Dl}{H:Hp}{op:CmpOp}{rq:Q2}{j:Nat}
section
variable{X:Cx}{K:BT}{a b c e:EQ}{es rest:List EQ}{ta tb te:TE}{qa qb qe:QE}{tA tB:TT}{qA qB:QT}{tl:TA}{ql:QA}{pos:Pos}
def T.v:T->V
 |.n=>.non|.b x=>.bl x|.i x=>.int x|.s x=>.str x|_=>.ty ""
def T.fl:T->Bool
 |.n=>O|.b _=>O|.i _=>O|.s _=>O|_=>ϊ
theorem aI.v{dl:Dl}{H:Hp}{v:V}{t:T}{F:List J}(h:aI K dl H v t F)(f:t.fl=O):v=t.v/\F=[]:=by
 cases h <;> first|exact(U,U)|exact absurd (f) rZ
def qEq:Q2:=λt u Q=>(t.fl&&u.fl&&NA t.v u.v)=O/\Q (.b (decide (t.v=u.v)))
def qNe:Q2:=λt u Q=>(t.fl&&u.fl&&NA t.v u.v)=O/\Q (.b (!decide (t.v=u.v)))
def RH:gK K rEq qEq:=by
 intro dl H x y t u F G Q R D P q g k;let(h,g):=g;rw[ti,ti]at h;let(U,U):=P.r.v h.1.1;let(U,U):=q.r.v h.1.2;exact(h.2,k _ _ [] H (.refl D) (.c (.b _)) (λ_ z=>nomatch z) mz g)
def dU:gK K rNe qNe:=by
 intro dl H x y t u F G Q R D P q g k;let(h,g):=g;rw[ti,ti]at h;let(U,U):=P.r.v h.1.1;let(U,U):=q.r.v h.1.2;exact(h.2,k _ _ [] H (.refl D) (.c (.b _)) (λ_ z=>nomatch z) mz g)
def VO(neg:Bool):Q2:=λt u Q=>match u with
 |.n=>Q (.b (match t with|.n=>!neg|_=>neg))
 |_=>False
def aI.X2{v:V}{t:T}{F:List J}(h:aI K dl H v t F):(!decide (v=.non))=match(generalizing:=false) t with|.n=>!true|_=>true:=by cases h <;> rfl
def A0:gK K (λx y H Q=>y=.non/\Q (.bl (!decide (x=.non))) H) (VO O):=by
 intro dl H x y t u F G Q R D P q g k;unfold VO at g
 split at g
 ·let(U,U):=q.r.non;refine(U,k _ _ [] H (.refl D) (.c (.b _)) (λ_ z=>nomatch z) mz ?_)
  rw[P.r.X2];exact g
 ·exact g.elim
def inT(x:T)(xs:List T):Bool:=xs.any λy=>eqV y.v x.v
def fls(xs:List T):Bool:=xs.all T.fl
theorem aA.vs{dl:Dl}{H:Hp}{vs:List V}{ts:List T}{F:List J}(h:aA K dl H vs ts F):fls ts=O->vs=ts.map T.v/\F=[] :=
 h.ind (λ_=>(U,U)) λ_ _ _ _ _ _ h _ g f=>by
  have f:(_&&_)=true:=f;rw[ti]at f;let(U,U):=h.v f.1;let(U,U):=g f.2;exact(U,U)
def wC{ts:List T}(f:fls ts=O):(ts.map T.v).all jG=true:=by
 rw[Av];intro x hx;let(t,g,U):=YY.mp hx
 have:=Av.mp f t g
 cases t <;> first|rfl|exact absurd this rZ
def Pk{t:T}(f:t.fl=O):jG t.v=true:=by cases t <;> first|rfl|exact absurd f rZ
def NM(K:BT)(neg:Bool):R2:=λx y H Q=>rIn K neg x y H Q\/∃i j,x=.str i/\y=.str j/\Q (.bl (if neg then !(!(Builtin.Str.occurrences j i 0 j.length 1).isEmpty)else !(Builtin.Str.occurrences j i 0 j.length 1).isEmpty)) H
def pC(g:X.K=K):OpR X (compareOp .In) (NM K ϊ):=by subst g;exact HG.or HF
def sQ(g:X.K=K):OpR X (compareOp .NotIn) (NM K O):=by subst g;exact zB.or zA
def qIn(neg:Bool):Q2:=λt u Q=>match u with
 |.l xs=>(t.fl&&fls xs)=O/\Q (.b (if neg then !inT t xs else inT t xs))
 |.t xs=>(t.fl&&fls xs)=O/\Q (.b (if neg then !inT t xs else inT t xs))
 |.k ws=>match t with
  |.s y=>Q (.b (if neg then !inT (.s y) (ws.map T.s)else inT (.s y) (ws.map T.s)))
  |_=>False
 |.s z=>match t with
  |.s y=>Q (.b (if neg then !(!(Builtin.Str.occurrences z y 0 z.length 1).isEmpty)else !(Builtin.Str.occurrences z y 0 z.length 1).isEmpty))
  |_=>False
 |_=>False
def jU{neg:Bool}:gK K (NM K neg) (qIn neg):=by
 intro dl H x y t u F G Q R D P q g k;have go:∀xs p vs,y=.ref p->(SqL K H p vs\/SqT K H p vs)->(∃G,aA K dl H vs xs G)->(t.fl&&fls xs)=O/\Q (.b (if neg then !inT t xs else inT t xs))->NM K neg x y H R:=by
  rintro xs p vs rfl hs ⟨G,rs⟩ ⟨f,g⟩
  rw[ti]at f;let(U,U):=P.r.v f.1;let(U,_):=rs.vs f.2;refine .inl (p,_,U,hs,Pk f.1,wC f.2,k _ (.b _) [] H (.refl D) (.c (.b _)) (λ_ z=>nomatch z) mz ?_)
  have e:inV t.v (xs.map T.v)=inT t xs:=by unfold inV inT;rw[Z1];rfl
  rw[e];exact g
 cases u with
 |l xs =>
  let(p,vs,G,U,_,h1,h2):=q.r.lst;exact go _ p vs U (.inl (SqL.of h1)) (_,h2) g
 |t xs =>
  let(p,vs,U,h1,h2):=q.r.tup;exact go _ p vs U (.inr (SqT.of h1)) (_,h2) g
 |k ws =>
  dsimp only[qIn]at g
  split at g
  ·let(p,U,h1,_):=q.r.kst;refine go _ p _ U (.inr (h1 H)) (_,pe _) (?_,g);rw[ti];refine(U,?_);unfold fls;rw[ZL,Av];exact λ_ _=>rfl
  ·exact g.elim
 |s z =>
  dsimp only[qIn]at g
  split at g
  ·let(U,U):=P.r.str;let(U,U):=q.r.str;exact .inr (_,_,U,U,k _ _ [] H (.refl D) (.c (.b _)) (λ_ z=>nomatch z) mz g)
  ·exact g.elim
 |_=>exact g.elim
def cS{r:R2}(ho:OpR X (compareOp op) r)(hs:gK K r rq)(hm:behindInMarks op b=ϊ)(ha:QPE X K a ta qa)(g:QPE X K b tb qb):QPF X K (.Compare a [op] [b] pos) (tOp r ta tb) (qOp rq qa qb) :=
 (OC ho ha.h g.h hm,za hs ha.s g.s)
def jB(qe:QE):QT:=λq Q=>qe q λt=>match t with
 |.b x=>Q x
 |_=>False
def JG(h:kN K te qe):pR K (AQ te) (jB qe):=by
 intro dl H σ q Q R rd z k;refine h dl H σ q _ _ rd z λv t F H' e r g=>?_
 split at g
 ·let(U,U):=r.r.bl;exact(_,U,k _ H' e g)
 ·exact g.elim
def bO{r:R2}(ho:OpR X (compareOp op) r)(hs:gK K r rq)(hm:behindInMarks op b=ϊ)(ha:QPE X K a ta qa)(g:QPE X K b tb qb):QPT X K (.Compare a [op] [b] pos) (AQ (tOp r ta tb)) (jB (qOp rq qa qb)) :=
 (nP ho ha.h g.h hm,JG (JI hs.w ha.s g.s))
def Ks(qe:QE):QT:=λq Q=>qe q λt=>match t with
 |.b x=>Q x
 |.n=>Q ϊ
 |.i x=>Q (x != 0)
 |.s x=>x.length<=ot/\Q ((x.length:Int) != 0)
 |.l xs=>Q (!xs.isEmpty)
 |.t xs=>Q (!xs.isEmpty)
 |.d xs=>Q (!xs.isEmpty)
 |_=>False
def Np(h:kN K te qe):pR K (λσ H Q=>te σ H λx H'=>∃k,PJ K x H' k/\Q k H') (Ks qe):=by
 intro dl H σ q Q R rd z k;refine h dl H σ q _ _ rd z λv t F H' e r g=>?_
 have emp:∀{α β:Type}{xs:List α}{ys:List β},xs.length=ys.length->(!xs.isEmpty) = !ys.isEmpty:=λ{α β xs ys} h=>by
  cases xs <;> cases ys <;> first|rfl|(simp at h)
 cases t with
 |b x =>
  let(U,U):=r.r.bl;exact(_,U,k _ H' e g)
 |n =>
  let(U,U):=r.r.non;exact(_,U,k _ H' e g)
 |i x =>
  let(U,U):=r.r.int;exact(_,U,k _ H' e g)
 |s x =>
  let(U,U):=r.r.str;exact(_,(g.1,U),k _ H' e g.2)
 |l xs =>
  let(p,vs,G,U,_,h1,h2):=r.r.lst;exact(_,.inl (vs,SqL.of h1,U),k _ H' e (by rw[emp h2.len];exact g))
 |t xs =>
  let(p,vs,U,h1,h2):=r.r.tup;exact(_,.inr (.inl (vs,SqT.of h1,U)),k _ H' e (by rw[emp h2.len];exact g))
 |d xs =>
  let(p,vs,G,U,_,h1,h2):=r.r.dic;exact(_,.inr (.inr (vs,h1,U)),k _ H' e (by rw[emp h2.len];exact g))
 |_=>exact g.elim
def br(h:QPE X K e te qe)(he:∀whole,isTrue e X.env whole=(do let v <- whole;standAt e.pos;holding [v] (truthy v)):=by intro _;rfl)(g:‹X.K=K›):
  QPT X K e (λσ H Q=>te σ H λx H'=>∃k,PJ K x H' k/\Q k H') (Ks qe):=(by subst g;exact KG h.h he,Np h.s)
def Ku(t:QT):QT:=λq Q=>t q λc=>Q (!c)
def DO(t u:QT):QT:=λq Q=>t q λc=>if c=O then u q Q else Q ϊ
def qOr(t u:QT):QT:=λq Q=>t q λc=>if c=O then Q O else u q Q
def Nt(h:pR K tA qA):pR K (Rq tA) (Ku qA):=λdl H σ q _ R rd z k=>h dl H σ q _ _ rd z λb H' e g=>k _ H' e g
def Nx(h:pR K tA qA)(h2:pR K tB qB):pR K (Rv tA tB) (DO qA qB):=λdl H σ q Q R rd P k=>h dl H σ q _ _ rd P λb H' e g=>by
 cases b with
 |false=>exact k _ H' e g
 |true=>exact h2 dl H' σ q Q R (rd.evo e) g λc H2 V z=>k c H2 (e.trans V) z
def RE(h:pR K tA qA)(h2:pR K tB qB):pR K (tOr tA tB) (qOr qA qB):=λdl H σ q Q R rd P k=>h dl H σ q _ _ rd P λb H' e g=>by
 cases b with
 |true=>exact k _ H' e g
 |false=>exact h2 dl H' σ q Q R (rd.evo e) g λc H2 V z=>k c H2 (e.trans V) z
def gE(h:QPT X K a tA qA):QPT X K (.UnaryOp .Not a pos) (Rq tA) (Ku qA):=(Sj h.h,Nt h.s)
def k9(h:QPT X K a tA qA):QPW X K (.BoolOp .And [a] pos) tA qA:=(FH h.h,h.s)
def j6(h:QPT X K a tA qA):QPW X K (.BoolOp .Or [a] pos) tA qA:=(Sf h.h,h.s)
def mQ(h:QPT X K a tA qA)(h2:QPW X K (.BoolOp .And (b::rest) pos) tB qB):QPW X K (.BoolOp .And (a::b::rest) pos) (Rv tA tB) (DO qA qB):=(KA h.h h2.h,Nx h.s h2.s)
def kz(h:QPT X K a tA qA)(h2:QPW X K (.BoolOp .Or (b::rest) pos) tB qB):QPW X K (.BoolOp .Or (a::b::rest) pos) (tOr tA tB) (qOr qA qB):=(VX h.h h2.h,RE h.s h2.s)
theorem QPW.pt(h:QPW X K e tA qA):QPT X K e tA qA:=(h.h.pt,h.s)
def Qa(qa qb:QE):QE:=λq Q=>qa q λt=>match t with
 |.b c=>if c=O then qb q Q else Q (.b ϊ)
 |_=>False
def VJ(qa qb:QE):QE:=λq Q=>qa q λt=>match t with
 |.b c=>if c=O then Q (.b O)else qb q Q
 |_=>False
def JP(h:kN K ta qa)(h2:kM K tb qb):kM K (Jy ta tb) (Qa qa qb):=λdl H σ q Q R rd hq k=>h dl H σ q _ _ rd hq λv t F H' e r g=>by
 split at g
 ·rename_i c;let(U,U):=r.r.bl;refine(c,U,?_);cases c with
  |false=>exact k _ _ [] H' e r (λ_ z=>nomatch z) mz g
  |true=>exact h2 dl H' σ q Q R (rd.evo e) g λw u G H2 e2 P f2 V z=>k w u G H2 (e.trans e2) P (λb hb=>e.free (f2 b hb)) V z
 ·exact g.elim
def Nr(h:kN K ta qa)(h2:kM K tb qb):kM K (Ro ta tb) (VJ qa qb):=λdl H σ q Q R rd hq k=>h dl H σ q _ _ rd hq λv t F H' e r g=>by
 split at g
 ·rename_i c;let(U,U):=r.r.bl;refine(c,U,?_);cases c with
  |true=>exact k _ _ [] H' e r (λ_ z=>nomatch z) mz g
  |false=>exact h2 dl H' σ q Q R (rd.evo e) g λw u G H2 e2 P f2 V z=>k w u G H2 (e.trans e2) P (λb hb=>e.free (f2 b hb)) V z
 ·exact g.elim
def pf{op}(h:QPF X K a ta qa):QPF X K (.BoolOp op [a] pos) ta qa:=(SU h.h,h.s)
def sL(ha:QPE X K a ta qa)(g:QPF X K (.BoolOp .And (b::rest) pos) tb qb):QPF X K (.BoolOp .And (a::b::rest) pos) (Jy ta tb) (Qa qa qb):=(SW ha.h g.h,JP ha.s g.s)
def VD(ha:QPE X K a ta qa)(g:QPF X K (.BoolOp .Or (b::rest) pos) tb qb):QPF X K (.BoolOp .Or (a::b::rest) pos) (Ro ta tb) (VJ qa qb):=(V3 ha.h g.h,Nr ha.s g.s)
def qIf(t:QT)(qa qb:QE):QE:=λq Q=>t q λc=>if c=O then qa q Q else qb q Q
def P2(hc:QPT X K c tA qA)(ha:QPF X K a ta qa)(g:QPF X K b tb qb):QPF X K (.IfExp c a b pos) (tIf tA ta tb) (qIf qA qa qb):=(K6 hc.h ha.h g.h,λdl H σ q Q R rd hq k=>hc.s dl H σ q _ _ rd hq λd H' e hz=>by
 cases d with
 |true=>exact ha.s dl H' σ q Q R (rd.evo e) hz λw u G H2 e2 P f2 V z=>k w u G H2 (e.trans e2) P (λb g=>e.free (f2 b g)) V z
 |false=>exact g.s dl H' σ q Q R (rd.evo e) hz λw u G H2 e2 P f2 V z=>k w u G H2 (e.trans e2) P (λb g=>e.free (f2 b g)) V z)
def iS(ha:QPE X K a ta qa):QPF X K (.UnaryOp .USub a pos) (tUn (rU λi=>.int (-i)) ta) (λq Q=>qa q λt=>match t with|.i x=>Q (.i (-x))|_=>False):=(FQ yZ ha.h,λdl H σ q Q R rd P k=>ha.s dl H σ q _ _ rd P λv t F H' e r g=>by
 split at g
 ·let(U,U):=r.r.int;exact(_,U,k _ _ [] H' e (.c (.i _)) (λ_ z=>nomatch z) mz g)
 ·exact g.elim)
def N3:QA:=λ_ Q=>Q []
def FG(qa:QE)(ql:QA):QA:=λq Q=>qa q λt=>ql q λts=>Q (t::ts)
def aF:Ap X K [] fK N3:=(dC,λdl H σ q Q R rd g k=>k [] [] [] H (.refl rd.d) (.nil,λ_ z=>nomatch z) U (λ_ z=>nomatch z) mz g)
def Ap.w(h:Ap X K es tl ql):QPA X K es tl ql:=(h.h,λdl H σ q Q R rd g k=>h.s dl H σ q Q R rd g λvs ts F H' e r l _ _ z=>k vs ts F H' e r l z)
theorem Rps.cons{dl:Dl}{H:Hp}{v:V}{t:T}{vs:List V}{ts:List T}{F G:List J}(h:Rp K dl H v t F)(r:Rps K dl H vs ts G):Rps K dl H (v::vs) (t::ts) (F++G):=(.cons h.r r.r,λb g=>(mu.mp g).elim (h.n b) (r.n b))
def ae(ha:QPE X K e te qe)(hr:QPA X K es tl ql)(hs:‹AC X e es›):QPA X K (e::es) (bH te tl) (FG qe ql) :=
 (bh ha.h hr.h hs,λdl H σ q Q R rd hq k=>ha.s dl H σ q _ _ rd hq λv t F H1 g r1 hz=>hr.s dl H1 σ q _ _ (rd.evo g) hz λvs ts G H2 P V l2 z=>k _ _ _ H2 (g.trans P) (.cons (r1.evo g.d P) V) (by simp[l2]) z)
def af(ha:QPF X K e te qe)(hr:Ap X K es tl ql)(hs:‹AC X e es›):Ap X K (e::es) (bH te tl) (FG qe ql) :=
 (bh ha.h hr.h hs,λdl H σ q Q R rd hq k=>ha.s dl H σ q _ _ rd hq λv t F H1 g r1 f1 n1 hz=>hr.s dl H1 σ q _ _ (rd.evo g) hz λvs ts G H2 e2 r2 l2 f2 n2 z =>
  k _ _ _ H2 (g.trans e2) (.cons (r1.evo g.d e2) r2) (by simp[l2]) (λb P=>(mu.mp P).elim (f1 b) λP=>g.free (f2 b P)) (x2.mpr (n1,n2,λx hx y hy V=>by
   subst V;exact(r1.r.there x hx).no (f2 x hy))) z)
def XQ(ql:QA):QE:=λq Q=>ql q λts=>Q (.t ts)
def R4(ql:QA):QE:=λq Q=>ql q λts=>Q (.l ts)
def b6{P}(h:Ap X K es tl ql)(hz:autoParam (es.length<=1000) zdc._auto_1):QPF X K (.Tuple es P pos) (Jt tl) (XQ ql):=(DU h.h,λdl H σ q Q R rd hq k=>h.s dl H σ q _ _ rd hq λvs ts F H1 g V l1 f1 n1 z =>
 (wh (bo (by lia)),λp hp=>k _ _ F _ (g.new hp) (V.tup g.d hp) f1 n1 z))
def aR(h:Ap X K es tl ql)(hz:autoParam (es.length<=1000) zdc._auto_1):QPF X K (.List es pos) (Rr tl) (R4 ql):=(K5 h.h,λdl H σ q Q R rd hq k=>h.s dl H σ q _ _ rd hq λvs ts F H1 P V l1 f1 n1 z =>
 (wh (bo (by omega)),λp hp=>k _ _ (p::F) _ (P.new hp) (V.lst P.d hp) (λb g=>by
  obtain e|g:=fx.mp g
  ·rw[e];exact P.free hp
  ·exact f1 b g) (V.fresh hp n1) z))
def dZ{ws:List Str}(h:strsOf es=Z ws)(hl:‹es.length=ws.length›):Ap X K es (λ_ H Q=>Q (ws.map V.str) H) (λ_ Q=>Q (ws.map T.s)) :=
 (OE h,λdl H σ q Q R rd g k=>k _ _ [] H (.refl rd.d) (pe ws,λ_ z=>nomatch z) (by rw[gV];exact hl.symm) (λ_ z=>nomatch z) mz g)
def qIx:Q2:=λt u Q=>match u with
 |.i k=>match t with
  |.l xs=>Ex2 (λx=>atI xs k=Z x) Q
  |.t xs=>Ex2 (λx=>atI xs k=Z x) Q
  |.z ns=>Ex3 (λx=>atI ns k=Z x) (λx=>(.i x)) Q
  |.zl xs=>Ex2 (λx=>atI xs k=Z x) Q
  |.s z=>z.length<=ot/\Ex3 (λc=>atI z.cps.toList k=Z c) (λc=>(.s ⟨#[c]⟩)) Q
  |_=>False
 |_=>False
def rP{α β:Type}{xs:List α}{ys:List β}{k:Int}{x:α}(h:atI xs k=Z x)(hl:xs.length=ys.length):∃j:Nat,xs[j]?=Z x/\ixN ys.length k=Z j:=by
 unfold atI at h;cases e:ixN xs.length k with
 |none=>rw[e]at h;cases h
 |some j=>rw[e]at h;exact(j,h,by rw[<- hl];exact e)
def pQ{α:Type}{xs:List α}{k:Int}{x:α}(h:ixN xs.length k=Z j)(hx:xs[j]?=Z x):atI xs k=Z x:=by unfold atI;rw[h];exact hx
def RF:UL K (rIx K) qIx:=by
 intro dl H x y t u F G Q R D q r2 g k;unfold qIx at g
 split at g
 ·rename_i k0;let(U,U):=r2.r.int;cases t with
  |l xs =>
   let(p,vs,G,U,U,h1,h2):=q.r.lst;let(z,P,g):=g;let(j,hj,hi):=rP P h2.len.symm;let(v,G',hv,rv,hs):=h2.get hj;exact .inl (p,vs,k0,v,U,U,SqL.of h1,pQ hi hv,k v z G' H (.refl D) (Rp.sub rv q.n λb hb=>aJ _ (hs b hb)) g)
  |t xs =>
   let(p,vs,U,h1,h2):=q.r.tup;let(z,P,g):=g;let(j,hj,hi):=rP P h2.len.symm;let(v,G',hv,rv,hs):=h2.get hj;exact .inr (.inl (p,vs,k0,v,U,U,SqT.of h1,pQ hi hv,k v z G' H (.refl D) (Rp.sub rv q.n hs) g))
  |z ns =>
   let(p,U,h1,_):=q.r.scr;let(z,P,g):=g;refine .inl (p,_,k0,.int z,U,U,h1.sq,?_,k _ _ [] H (.refl D) (.c (.i _)) g);let(j,hj,hi):=rP (ys:=(_:List Int).map V.int) P (by rw[gV])
   exact pQ hi (by rw[tW,hj];rfl)
  |zl xs =>
   let(p,o,vs,U,U,h1,h2):=q.r.zls;let(z,P,g):=g;let(j,hj,hi):=rP P h2.len.symm;let(v,G',hv,rv,hs):=h2.get hj;exact .inl (p,vs,k0,v,U,U,.inl (.inr (o,h1)),pQ hi hv,k v z G' H (.refl D) (Rp.sub rv q.n hs) g)
  |s z =>
   let(U,U):=q.r.str;let(hl,c,hc,g):=g;exact .inr (.inr (_,k0,c,U,U,hl,hc,k _ _ [] H (.refl D) (.c (.s _)) g))
  |_=>exact g.elim
 ·exact g.elim
def bQ(ha:QPE X K a ta qa)(g:QPE X K b tb qb)(hs:rW b:=by intro _ _;rfl)(q:‹X.K=K›):QPE X K (.Subscript a b pos) (tOp (rIx K) ta tb) (qOp qIx qa qb):=(by subst q;exact FT zT ha.h g.h hs,JI RF ha.s g.s)
end
variable{A:Do}{E:B->ϋ->Prop}{s:ϋ}{items:Array B}{Q:B->ϋ->Prop}{n:Nat}{g:Int->Int->Int}
section
variable{X:Cx}{K:BT}{a b c e:EQ}{es:List EQ}{te:TE}{qe:QE}{tl:TA}{ql:QA}{pos p:Pos}
abbrev QO:=Sq->(Option Int->Prop)->Prop
def YA(K:BT)(t:TO)(tq:QO):Prop:=∀(dl:Dl)(H:Hp)(σ:St)(q:Sq)(Q:Option Int->Prop)(R:Option Int->Hp->Prop),RdR K dl H σ q->tq q Q->(∀o H',Evo dl H H'->Q o->R o H')->t σ H R
structure QPO(X:Cx)(K:BT)(e:Option EQ)(t:TO)(tq:QO):Prop where
 h:PO X e t
 s:YA K t tq
def cY:QPO X K Y E8 (λ_ Q=>Q Y):=(Ow,λ_ _ _ _ _ _ rd g k=>k Y _ (.refl rd.d) g)
def cM(h:QPE X K e te qe):QPO X K (Z e) (PR te) (λq Q=>qe q λt=>match t with|.i x=>Q (Z x)|_=>False):=(zu h.h,λdl H σ q Q R rd z k=>h.s dl H σ q _ _ rd z λv t F H' e r g=>by
 split at g
 ·let(U,U):=r.r.int;exact(_,U,k _ H' e g)
 ·exact g.elim)
def dq{α:Type}(xs:List α)(lo hi:Option Int):List α:=(xs.drop (HT.sIx xs.length 0 lo)).take (HT.sIx xs.length xs.length hi - HT.sIx xs.length 0 lo)
def aA.cut{vs:List V}{ts:List T}{F:List J}(lo hi:Option Int)(h:aA K dl H vs ts F):∃G,aA K dl H (rG vs lo hi) (dq ts lo hi) G/\G.Sublist F:=by
 unfold rG dq;rw[h.len];let(G,h1,s1):=h.drop (HT.sIx ts.length 0 lo);let(g,h2,s2):=h1.take (HT.sIx ts.length ts.length hi - HT.sIx ts.length 0 lo);exact(g,h2,s2.trans s1)
def oh{prog:Db}{w:Da}{t sl:J}{V P:B}{lo hi:Option Int}(g:IsTup s.heap t items)(hs:s.heap.IsSliceOf sl V P .none)(pl:IsPart V lo)(pu:IsPart P hi)
  (hw:HT.sIx items.size 0 lo=0/\HT.sIx items.size items.size hi=items.size)
  (h:Q (.ref t) s):wpAny (model prog w) A (getItem (.ref t) (.ref sl)) Q E s:=by
 let(os,q,z,ah):=id hs;have K:s.TypeIs (.ref sl) "slice":=(os,q,z);have hT:=g.typeIs;unfold getItem
 try with_reducible refine Zc ?_
 refine fH (wpAny_sequenceKey g.typeIs (by decide) ?_)
 refine fH (wpAny_callSpecial?_slot g.typeIs PyProof.Rows.slot_tuple_getitem
  (Y8 PyProof.Rows.slot_tuple_getitem g.typeIs entry_tuple_getitem ?_ (args_tuple_getitem _ _)))
 show wpAny _ _ (Builtin.Tuple.tupleItemsOf (.ref t) >>= _) _ _ s;refine fH (tupleItemsOf_ g (fH (ZM K ?_)));refine fH (HT.km hs pl pu ?_);have hy:(((HT.sIx items.size 0 lo):Int)==0&&(1:Int)==1&&(HT.sIx items.size items.size hi - HT.sIx items.size 0 lo)==items.size)=true:=by
  rw[hw.1,hw.2];simp
 show wpAny _ _ (if(((HT.sIx items.size 0 lo):Int)==0&&(1)==1&&(HT.sIx items.size items.size hi - HT.sIx items.size 0 lo)==items.size)=O then _ else _) _ _ s
 rw[if_pos hy];exact fH (fH (ZM hT (u7 (by rw[if_pos (by decide)];exact fH (Z4 (u7 (_,U,u7 h)))))))
inductive Vk(K:BT)(x:V)(lo:Option Int)(hi:Option Int)(H:Hp)(Q:VK):Prop
 |mk(a xs:_)(h1:x=.ref a)(h2:SqT K H a xs)(h3:((HT.sIx xs.length 0 lo=0/\HT.sIx xs.length xs.length hi=xs.length)->Q (.ref a) H))(h4:(¬(HT.sIx xs.length 0 lo=0/\HT.sIx xs.length xs.length hi=xs.length)->∀p,H p=Y->Q (.ref p) (upd H p (.tup (rG xs lo hi)))))
def Nm:SlR X (Vk X.K):=by
 intro gd s σ H x v P z lo hi sl Q I g hs pl pu h;let(a,xs,U,hx,q1,V):=h;by_cases hw:HT.sIx xs.length 0 lo=0/\HT.sIx xs.length xs.length hi=xs.length
 ·cases g;let(its,r,q,hz):=I.tuple hx;have hlen:its.toArray.size=xs.length:=by exact r.length.symm
  exact("tuple",_,PyProof.Rows.slot_tuple_getitem.lookup,q.typeIs,oh q hs pl pu (by rw[hlen];exact hw) (.ref a,H,I,U,q1 hw))
 ·exact RC gd s σ H _ v P z lo hi sl Q I g hs pl pu (a,xs,U,hx,hw,V hw)
def IE{α:Type}{xs:List α}{lo hi:Option Int}(h:HT.sIx xs.length 0 lo=0/\HT.sIx xs.length xs.length hi=xs.length):dq xs lo hi=xs:=by
 unfold dq;rw[h.1,h.2];simp
def Vn(K:BT):V->Option Int->Option Int->Hp->VK->Prop:=λx lo hi H Q=>Vm K x lo hi H Q\/Vk K x lo hi H Q\/Vl x lo hi H Q
def XI(g:X.K=K):SlR X (Vn K):=by subst g;exact Fj.or (Nm.or RD)
def qSl(qe:QE)(l u:QO):QE:=λq Q=>qe q λt=>l q λlo=>u q λhi=>match t with
 |.l xs=>T.ims xs=O/\Q (.l (dq xs lo hi))
 |.t xs=>T.ims xs=O/\Q (.t (dq xs lo hi))
 |.z ns=>Q (.l ((dq ns lo hi).map T.i))
 |.zl xs=>Q (.l (dq xs lo hi))
 |.s z=>z.length<=ot/\Q (.s (Txt.slice z lo hi))
 |_=>False
def bT{l u:Option EQ}{ah ak:TO}{au aw:QO}(he:QPE X K e te qe)(hl:QPO X K l ah au)(hu:QPO X K u ak aw)(hK:‹X.K=K›):QPF X K (.Subscript e (.Slice l u Y p2) pos) (tSl (Vn K) te ah ak) (qSl qe au aw) :=
 (Bj (XI hK) he.h hl.h hu.h,λdl H σ q Q R rd hq k=>he.s dl H σ q _ _ rd hq λv t F H1 e1 r1 g=>hl.s dl H1 σ q _ _ (rd.evo e1) g λlo H2 e2 g=>hu.s dl H2 σ q _ _ ((rd.evo e1).evo e2) g λhi H3 e3 g=>by
  have r3:=(r1.evo e1.d e2).evo e2.d e3;have P:=(e1.trans e2).trans e3;have no:∀b,b∈([])->H b=none:=λ_ z=>nomatch z
  cases t with
  |l xs =>
   let(p,vs,G,U,U,h1,h2):=r3.r.lst;obtain rfl:=h2.im g.1;let(G,h3,s3):=h2.cut lo hi;obtain rfl:=Zz.mp s3;refine .inl (p,vs,U,SqL.of h1,λp hp=>?_)
   have rs:Rps K dl H3 (rG vs lo hi) _ []:=(h3,λc hc=>nomatch hc)
   exact k _ _ _ _ (P.new hp) (rs.lst e3.d hp) (λb hb=>by rw[aB.mp hb];exact P.free hp) (by simp) g.2
  |t xs =>
   let(p,vs,U,h1,h2):=r3.r.tup;obtain rfl:=h2.im g.1;let(G,h3,s3):=h2.cut lo hi;obtain rfl:=Zz.mp s3;refine .inr (.inl (p,vs,U,SqT.of h1,λhw=>?_,λ_ p hp=>?_))
   ·refine k _ _ _ _ P r3 no mz ?_;rw[h2.len]at hw;have aD:=g.2;rw[IE hw]at aD;exact aD
   ·have rs:Rps K dl H3 (rG vs lo hi) _ []:=(h3,λc hc=>nomatch hc)
    exact k _ _ _ _ (P.new hp) (rs.tup e3.d hp) no mz g.2
  |z ns =>
   let(p,U,h1,_):=r3.r.scr;refine .inl (p,_,U,h1.sq,λp hp=>?_)
   have e:rG (ns.map V.int) lo hi=(dq ns lo hi).map V.int:=by unfold rG dq;rw[gV,<- ab0,<- ab1]
   rw[e];have rs:Rps K dl H3 ((dq ns lo hi).map V.int) ((dq ns lo hi).map T.i) []:=(vJ _,λc hc=>nomatch hc)
   exact k _ _ _ _ (P.new hp) (rs.lst e3.d hp) (λb hb=>by rw[aB.mp hb];exact P.free hp) (by simp) g
  |zl xs =>
   let(p,o,vs,U,U,h1,h2):=r3.r.zls;let(G,h3,s3):=h2.cut lo hi;obtain rfl:=Zz.mp s3;refine .inl (p,vs,U,.inl (.inr (o,h1)),λp hp=>?_)
   have rs:Rps K dl H3 (rG vs lo hi) _ []:=(h3,λc hc=>nomatch hc)
   exact k _ _ _ _ (P.new hp) (rs.lst e3.d hp) (λb hb=>by rw[aB.mp hb];exact P.free hp) (by simp) g
  |s z =>
   let(U,U):=r3.r.str;exact .inr (.inr (_,U,g.1,k _ _ [] H3 P (.c (.s _)) no mz g.2))
  |_=>exact g.elim)
abbrev QC:=List T->(T->Prop)->Prop
def rR(K:BT)(r:List V->Hp->VK->Prop)(rq:QC):Prop:=∀(dl:Dl)(H:Hp)(vs:List V)(ts:List T)(F:List J)(Q:T->Prop)(R:V->Hp->Prop),Dls dl H->Rps K dl H vs ts F->rq ts Q ->
 (∀v z F' H',Evo dl H H'->Rp K dl H' v z F'->(∀b∈F',H b=Y)->F'.Nodup->Q z->R v H')->r vs H R
def qCB(rq:QC)(ql:QA):QE:=λq Q=>ql q λts=>rq ts Q
def JM{r:List V->Hp->VK->Prop}{rq:QC}(h:rR K r rq)(hl:An K n tl ql):kM K (tCB r tl) (qCB rq ql):=λdl H σ q Q R rd hq k=>hl dl H σ q _ _ rd hq λvs ts F H1 P r1 _ g =>
 h dl H1 vs ts F Q R P.d r1 g λv z F' H2 e2 r2 f2 n2 g=>k v z F' H2 (P.trans e2) r2 (λb hb=>P.free (f2 b hb)) n2 g
def gU{id:String}{r:List V->Hp->VK->Prop}{rq:QC}(z:de X (.builtin id) r)(hs:rR K r rq)(hg:Gl X x)(hm:X.mg x=Y)(hv:bootBuiltins x=Z (.builtin id))(ha:QPA X K (e::es) tl ql)(hn:autoParam (x ≠ "__name__") zdc._auto_1)(q:autoParam (AS x) zdc._auto_1)
  (he:‹AC X e es›) (g:‹AM X pos es›):QPF X K (.Call (.Name x p) (e::es) [] pos) (tCB r tl) (qCB rq ql):=(kB z hg hm hv ha.h hn q he g,JM hs ha.s)
def aU{id:String}{r:List V->Hp->VK->Prop}{rq:QC}(z:de X (.type id) r)(hs:rR K r rq)(hg:Gl X x)(hm:X.mg x=Y)(hv:bootBuiltins x=Z (.type id))(ha:QPA X K (e::es) tl ql)(hn:autoParam (x ≠ "__name__") zdc._auto_1)(q:autoParam (AS x) zdc._auto_1)
  (he:‹AC X e es›) (g:‹AM X pos es›):QPF X K (.Call (.Name x p) (e::es) [] pos) (tCB r tl) (qCB rq ql):=(HE z hg hm hv ha.h hn q he g,JM hs ha.s)
def Rps.one{vs:List V}{t:T}{F:List J}(h:Rps K dl H vs [t] F):∃v,vs=[v]/\Rp K dl H v t F:=by
 let(r,n):=h;cases r with
 |cons q g =>
  cases g;rw[qp]at n;rw[qp];exact(_,U,q,n)
def Rps.two{vs:List V}{t u:T}{F:List J}(h:Rps K dl H vs [t,u] F):∃v w Q P,vs=[v,w]/\Rp K dl H v t Q/\Rp K dl H w u P:=by
 let(r,n):=h;cases r with
 |cons z q =>
  let(w,U,h2):=Rps.one (q,λb g=>n b (lO _ g))
  exact(_,w,_,_,U,(z,λb g=>n b (px _ g)),h2)
def J7(K:BT):List V->Hp->VK->Prop:=λxs H Q=>(∃p ys,xs=[.ref p]/\(SqL K H p ys\/SqT K H p ys)/\Q (.int ys.length) H)\/(∃z,xs=[.str z]/\z.length<=ot/\Q (.int z.length) H)\/∃a kvs,xs=[V.ref a]/\H a=Z (.dK kvs)/\Q (.int kvs.length) H
def IP(g:X.K=K):de X (.builtin "len") (J7 K):=by subst g;exact rL.or (Af.or IM)
def VL:QC:=λts Q=>on1 ts λt=>match t with
 |.l xs=>Q (.i xs.length)
 |.t xs=>Q (.i xs.length)
 |.z xs=>Q (.i xs.length)
 |.zl xs=>Q (.i xs.length)
 |.d xs=>Q (.i xs.length)
 |.s x=>x.length<=ot/\Q (.i x.length)
 |_=>False
def Nv:rR K (J7 K) VL:=by
 intro dl H vs ts F Q R D r g k;have fin:∀n,Q (.i n)->R (.int n) H:=λn g=>k _ _ [] H (.refl D) (.c (.i _)) (λ_ z=>nomatch z) mz g
 replace g:=on1.inv g
 let(t,U,g):=g;let(v,U,r'):=r.one;cases t with
 |l xs =>
  let(p,vs,G,U,_,h1,h2):=r'.r.lst;exact .inl (p,vs,U,.inl (SqL.of h1),fin _ (by rw[h2.len];exact g))
 |t xs =>
  let(p,vs,U,h1,h2):=r'.r.tup;exact .inl (p,vs,U,.inr (SqT.of h1),fin _ (by rw[h2.len];exact g))
 |z xs =>
  let(p,U,h1,_):=r'.r.scr;exact .inl (p,_,U,.inl h1.sq,fin _ (by rw[gV];exact g))
 |zl xs =>
  let(p,o,vs,U,_,h1,h2):=r'.r.zls;exact .inl (p,vs,U,.inl (.inl (.inr (o,h1))),fin _ (by rw[h2.len];exact g))
 |d xs =>
  let(p,vs,G,U,_,h1,h2):=r'.r.dic;exact .inr (.inr (p,vs,U,h1,fin _ (by rw[h2.len];exact g)))
 |s x =>
  let(U,_):=r'.r.str;exact .inr (.inl (_,U,g.1,fin _ g.2))
 |_=>exact g.elim
def qI2(g:Int->Int->Int):QC:=λts Q=>on2 ts λt u=>match t with
 |.i a=>match u with
  |.i b=>Q (.i (g a b))
  |_=>False
 |_=>False
def RG:rR K (λxs H Q=>∃i j,xs=[.int i,.int j]/\Q (.int (g i j)) H) (qI2 g):=by
 intro dl H vs ts F Q R D r q k
 replace q:=on2.inv q
 let(t,u,U,q):=q
 split at q
 ·split at q
  ·let(v,w,F1,F2,U,V,P):=r.two;let(U,_):=V.r.int;let(U,_):=P.r.int;exact(_,_,U,k _ _ [] H (.refl D) (.c (.i _)) (λ_ z=>nomatch z) mz q)
  ·exact q.elim
 ·exact q.elim
def XT:QC:=λts Q=>on1 ts λt=>match t with
 |.i a=>Q (.i a)
 |.b k=>Q (.i (if k then 1 else 0))
 |_=>False
def gP:rR K (λxs H Q=>(∃i,xs=[.int i]/\Q (.int i) H)\/∃k,xs=[.bl k]/\Q (.int (if k then 1 else 0)) H) XT:=by
 intro dl H vs ts F Q R D r g k
 replace g:=on1.inv g
 let(t,U,g):=g;cases t with
 |i a =>
  let(v,U,r'):=r.one;let(U,_):=r'.r.int;exact .inl (_,U,k _ _ [] H (.refl D) (.c (.i _)) (λ_ z=>nomatch z) mz g)
 |b c =>
  let(v,U,r'):=r.one;let(U,_):=r'.r.bl;exact .inr (_,U,k _ _ [] H (.refl D) (.c (.i _)) (λ_ z=>nomatch z) mz g)
 |_=>exact g.elim
def R0:QC:=λts Q=>on1 ts λt=>match t with
 |.l xs=>T.ims xs=O/\Q (.t xs)
 |.t xs=>T.ims xs=O/\Q (.t xs)
 |_=>False
def cD(g:X.K=K):de X (.type "tuple") (λxs H Q=>∃p ys,xs=[.ref p]/\((SqL K H p ys/\∀l,H l=Y->Q (.ref l) (upd H l (.tup ys)))\/(SqT K H p ys/\Q (.ref p) H))):=by subst g;exact xK
def cA:rR K (λxs H Q=>∃p ys,xs=[.ref p]/\((SqL K H p ys/\∀l,H l=Y->Q (.ref l) (upd H l (.tup ys)))\/(SqT K H p ys/\Q (.ref p) H))) R0:=by
 intro dl H vs ts F Q R D r g k;have no:∀b,b∈([])->H b=none:=λ_ z=>nomatch z
 replace g:=on1.inv g
 let(t,U,g):=g;cases t with
 |l xs =>
  let(v,U,r'):=r.one;let(p,vs,G,U,U,h1,h2):=r'.r.lst;obtain rfl:=h2.im g.1;refine(p,vs,U,.inl (SqL.of h1,λl hl=>?_))
  have rs:Rps K dl H vs _ []:=(h2,λc q=>nomatch q)
  exact k _ _ _ _ ((Evo.refl D).new hl) (rs.tup D hl) no mz g.2
 |t xs =>
  let(v,U,r'):=r.one;let(p,vs,U,h1,h2):=r'.r.tup;obtain rfl:=h2.im g.1;exact(p,vs,U,.inr (SqT.of h1,k _ _ [] H (.refl D) r' no mz g.2))
 |_=>exact g.elim
def R3:QC:=λts Q=>on1 ts λt=>match t with
 |.l xs=>T.ims xs=O/\Q (.l xs)
 |.t xs=>T.ims xs=O/\Q (.l xs)
 |_=>False
def kK(g:X.K=K):de X (.type "list") (λxs H Q=>∃p ys,xs=[.ref p]/\(SqL K H p ys\/SqT K H p ys)/\∀l,H l=Y->Q (.ref l) (upd H l (.lst ys))):=by subst g;exact Ae
def nK:rR K (λxs H Q=>∃p ys,xs=[.ref p]/\(SqL K H p ys\/SqT K H p ys)/\∀l,H l=Y->Q (.ref l) (upd H l (.lst ys))) R3:=by
 intro dl H vs ts F Q R D r g k
 replace g:=on1.inv g
 let(t,U,g):=g;cases t with
 |l xs =>
  let(v,U,r'):=r.one;let(p,vs,G,U,U,h1,h2):=r'.r.lst;obtain rfl:=h2.im g.1;refine(p,vs,U,.inl (SqL.of h1),λl hl=>?_)
  have rs:Rps K dl H vs _ []:=(h2,λc q=>nomatch q)
  exact k _ _ _ _ ((Evo.refl D).new hl) (rs.lst D hl) (λb z=>by rw[aB.mp z];exact hl) (by simp) g.2
 |t xs =>
  let(v,U,r'):=r.one;let(p,vs,U,h1,h2):=r'.r.tup;obtain rfl:=h2.im g.1;refine(p,vs,U,.inr (SqT.of h1),λl hl=>?_)
  have rs:Rps K dl H vs _ []:=(h2,λc q=>nomatch q)
  exact k _ _ _ _ ((Evo.refl D).new hl) (rs.lst D hl) (λb z=>by rw[aB.mp z];exact hl) (by simp) g.2
 |_=>exact g.elim
def picks{α:Type}(f:T->Option α):List T->Option (List α)
 |[]=>Z []
 |t::r=>(f t).bind λa=>(picks f r).map (a :: ·)
theorem aA.picks{dl:Dl}{H:Hp}{α:Type}{f:T->Option α}{g:α->V}(hf:∀(v:V)(t:T)(F:List J)(a:α),aI K dl H v t F->f t=Z a->v=g a){vs:List V}{ts:List T}{F:List J}(h:aA K dl H vs ts F):∀{bs:List α},L2.picks f ts=Z bs->vs=bs.map g :=
 h.ind (M:=λvs ts F=>∀{bs:List α},L2.picks f ts=Z bs->vs=bs.map g) (λe=>by cases e;rfl) λv t vs ts F G h _ q bs e=>by
  let(a,Q,P):=ZV.mp e;let(as,z,U):=kg.mp P;rw[hf v t F a h Q,q z];rfl
def asB:T->Option Bool
 |.b x=>Z x
 |_=>Y
abbrev bls:List T->Option (List Bool):=picks asB
theorem aA.bls{dl:Dl}{H:Hp}{vs:List V}{ts:List T}{F:List J}{bs:List Bool}(h:aA K dl H vs ts F)(e:L2.bls ts=Z bs):vs=bs.map V.bl :=
 h.picks (λv t F a h e=>by cases t <;> first|(cases e;exact h.bl.1)|cases e) e
def lM(bs:List Bool):bls (bs.map T.b)=Z bs:=by
 induction bs with
 |nil=>rfl
 |cons b r g=>show(bls (r.map T.b)).map (b :: ·)=_;rw[g];rfl
def XX:QC:=λts Q=>on1 ts λt=>match t with
 |.l xs=>Ex3 (λbs=>bls xs=Z bs) (λbs=>(.b (bs.all id))) Q
 |_=>False
def tL(q:X.K=K)(g:X.calm=O):de X (.builtin "all") (λxs H Q=>∃(l:J)(bs:List Bool),xs=[.ref l]/\SqL K H l (bs.map V.bl)/\Q (.bl (bs.all id)) H):=by subst q;exact Mz g
def zc:rR K (λxs H Q=>∃(l:J)(bs:List Bool),xs=[.ref l]/\SqL K H l (bs.map V.bl)/\Q (.bl (bs.all id)) H) XX:=by
 intro dl H vs ts F Q R D r g k
 replace g:=on1.inv g
 let(t,U,g):=g
 split at g
 ·let(v,U,r'):=r.one;let(p,vs,G,U,U,h1,h2):=r'.r.lst;let(bs,q,g):=g;have e:=h2.bls q;subst e;exact(p,bs,U,SqL.of h1,k _ _ [] H (.refl D) (.c (.b _)) (λ_ z=>nomatch z) mz g)
 ·exact g.elim
def T.tyN:T->Option String
 |.n=>Z "NoneType" |.b _=>Z "bool" |.i _=>Z "int" |.s _=>Z "str" |.l _=>Z "list" |.q=>Z "list" |.t _=>Z "tuple" |.d _=>Z "dict" |_=>Y
def aI.XA{v:V}{t:T}{F:List J}{n:String}(h:aI K dl H v t F)(e:t.tyN=Z n):oq K H v (.type n):=by
 cases h <;> first|(cases e;constructor;assumption)|(cases e;constructor)|(cases e)
theorem yA(g:X.K=K):de X (.builtin "isinstance") (λxs H Q=>∃x T t b,xs=[x,.ty T]/\oq K H x t/\W.kitOne K t (.type T)=Z b/\Q (.bl b) H):=by subst g;exact Mx
def WA(a b:String):Bool:=a==b ||(a == "bool" && b == "int")
def VN:QC:=λts Q=>match ts with
 |[t,.ty n]=>match t.tyN with
  |some m=>(n == "tuple" || n == "list" || n == "str" || n == "int" || n == "bool" || n == "dict")=O/\Q (.b (WA m n))
  |none=>False
 |_=>False
theorem O3{n m:String}(h:(n == "tuple" || n == "list" || n == "str" || n == "int" || n == "bool" || n == "dict")=O)(hm:m ∈ ["NoneType","bool","int","str","list","tuple","dict"]):W.kitOne K (.type m) (.type n)=Z (WA m n):=by
 simp only[Bool.or_eq_true,beq_iff_eq]at h;simp only[fx,UR,or_false]at hm;obtain((((rfl|rfl)|rfl)|rfl)|rfl)|rfl:=h <;> obtain rfl|rfl|rfl|rfl|rfl|rfl|rfl:=hm <;> rfl
def Nh{t:T}{m:String}(h:t.tyN=Z m):m ∈ ["NoneType","bool","int","str","list","tuple","dict"]:=by
 cases t <;> cases h <;> decide
theorem Fm:rR K (λxs H Q=>∃x T t b,xs=[x,.ty T]/\oq K H x t/\W.kitOne K t (.type T)=Z b/\Q (.bl b) H) VN:=by
 intro dl H vs ts F Q R D r g k;unfold VN at g
 split at g
 ·let(v,w,F1,V,U,P,q):=r.two;have e:=q.r.tyy;subst e
  split at g
  ·rename_i m em;exact(v,_,_,_,U,P.r.XA em,O3 g.1 (Nh em),k _ _ [] H (.refl D) (.c (.b _)) (λ_ z=>nomatch z) mz g.2)
  ·exact g.elim
 ·exact g.elim
end
structure dP where
 nx:Sq->Prop
 rt:T->Prop
 bk:Sq->Prop:=λ_=>False
 ct:Sq->Prop:=λ_=>False
 ru:Sq->T->Prop:=λ_ _=>False
abbrev QS:=dP->Sq->Prop
def dP.lp(D:dP)(N:Sq->Prop):dP:={D with nx:=N,ct:=N,bk:=D.nx}
def dP.fn(Q:T->Prop):dP:={nx:=λ_=>Q .n,rt:=Q}
structure Frm(dl:Dl)(H₀ H:Hp):Prop where
 k:∀b o,H₀ b=Z o->Nd dl b->NR o->H b=Z o
 r:∀a x,H₀ a=Z (.room x)->∃y,y<=x/\H a=Z (.room y)
variable{H₀:Hp}
def Frm.evo(f:Frm dl H₀ H)(D:Dls dl H):Evo dl H₀ H:=(f.k,D,f.r)
def Frm.refl:Frm dl H H:=(λ_ _ h _ _=>h,λ_ x h=>(x,Zi _,h))
variable{H':Hp}
def Frm.trans(f:Frm dl H₀ H)(e:Evo dl H H'):Frm dl H₀ H':=(λb o h n r=>e.k b o (f.k b o h n r) n r,λa x h=>let(y,q,h1):=f.r a x h;let(z,g,h2):=e.r a y h1;(z,Za g q,h2))
structure Rel(K:BT)(dl:Dl)(H₀:Hp)(hs:List (V×T))(H:Hp)(σ:St)(q:Sq)(F:Nat->List J):Prop where
 d:Dls dl H
 g:∀(i:Nat)(x:Sl)(t:T),q[i]?=Z x->x.get=Z t->∃v,σ[i]?=Z (Z v)/\Rp K dl H v t (F i)
 n:∀(i:Nat)(x:Sl),q[i]?=Z x->x.get=Y->F i=[]
 z:∀(i:Nat),q.length<=i->F i=[]
 o:∀(i:Nat)(t:T),q[i]?=Z (.o t)->(F i).Nodup/\(∀b∈F i,H₀ b=Y)/\(∀j,j≠i->∀b∈F i,b ∉ F j)
 h:∀p∈hs,∃Fp,Rp K dl H p.1 p.2 Fp/\∀(i:Nat)(t:T),q[i]?=Z (.o t)->∀b∈F i,b ∉ Fp
 f:Frm dl H₀ H
 l:q.length=σ.length
def cJ(K:BT)(dl:Dl)(H₀:Hp)(hs:List (V×T))(H:Hp)(σ:St)(q:Sq):Prop:=∃F,Rel K dl H₀ hs H σ q F
variable{F':List J}
section
variable{K:BT}{hs:List (V×T)}{σ:St}{q:Sq}{F:Nat->List J}
def Rel.rd(r:Rel K dl H₀ hs H σ q F):RdR K dl H σ q:=(r.d,λi x t h1 h2=>let(v,e,p):=r.g i x t h1 h2;(v,F i,e,p))
def Rel.fz(r:Rel K dl H₀ hs H σ q F){b:J}(h:H b=Y):H₀ b=none:=(r.f.evo r.d).free h
def Rel.bM(r:Rel K dl H₀ hs H σ q F){b:J}(P:b∈F i):gJ H b:=by
 by_cases hi:i<q.length
 ·have e:q[i]?=Z q[i]:=by simp[hi]
  cases ex:q[i].get with
  |none=>rw[r.n i _ e ex]at P;cases P
  |some t =>
   let(v,_,p):=r.g i _ t e ex;exact p.r.there b P
 ·rw[r.z i (by lia)]at P;cases P
theorem Rel.evo(r:Rel K dl H₀ hs H σ q F)(e:Evo dl H H'):Rel K dl H₀ hs H' σ q F where
 d:=e.d
 g:=λi x t h1 h2=>let(v,P,p):=r.g i x t h1 h2;(v,P,p.evo r.d e)
 n:=r.n
 z:=r.z
 o:=r.o
 h:=λp hp=>let(Fp,h1,h2):=r.h p hp;(Fp,h1.evo r.d e,h2)
 f:=r.f.trans e
 l:=r.l
def A2(F:Nat->List J)(i:Nat)(x:List J):Nat->List Addr:=λj=>if j=i then x else F j
def bI{x:List J}:A2 F i x i=x:=if_pos U
def bg{x:List J}(h:j≠i):A2 F i x j=F j:=if_neg h
def get_set{α:Type}{xs:List α}{x y:α}(h:(xs.set i x)[j]?=Z y):(j=i/\y=x/\i<xs.length)\/(j≠i/\xs[j]?=Z y):=by
 by_cases e:j=i
 ·subst e;rw[List.getElem?_set_self']at h;by_cases hl:j<xs.length
  ·rw[rY hl]at h;exact .inl (U,(Option.some.inj h).symm,hl)
  ·rw[Zd (by lia)]at h;cases h
 ·rw[ui (λz=>e z.symm)]at h
  exact .inr (e,h)
def Rel.put{v:V}{t:T}(r:Rel K dl H₀ hs H σ q F)(hi:i<q.length)(e:Evo dl H H')(hv:Rp K dl H' v t F')(hf:∀b∈F',H b=Y)(hn:F'.Nodup):Rel K dl H₀ hs H' (σ.set i (Z v)) (q.set i (.o t)) (A2 F i F'):=by
 have r':=r.evo e;have out:∀j,∀b∈F',b ∉ F j:=λj b P Q=>(r.bM Q).no (hf b P)
 refine(e.d,λj x u h1 h2=>?_,λj x h1 h2=>?_,λj Q=>?_,λj u h1=>?_,λp hp=>?_,r'.f,by simp[r.l])
 ·obtain⟨rfl,rfl,_⟩|⟨ne,h1⟩:=get_set h1
  ·cases h2;exact(v,by rw[u6 (by rw[<- r.l];exact hi)],by rw[bI];exact hv)
  ·let(w,h3,h4):=r'.g j x u h1 h2;exact(w,by rw[ui (λz=>ne z.symm)];exact h3,by rw[bg ne];exact h4)
 ·obtain⟨rfl,rfl,_⟩|⟨ne,h1⟩:=get_set h1
  ·cases h2
  ·rw[bg ne];exact r.n j x h1 h2
 ·rw[Az]at Q;rw[bg (by lia)]
  exact r.z j Q
 ·obtain⟨rfl,_,_⟩|⟨ne,h1⟩:=get_set h1
  ·rw[bI];exact(hn,λb P=>r.fz (hf b P),λk hk b P=>by rw[bg hk];exact out k b P)
  ·rw[bg ne];let(o1,o2,o3):=r.o j u h1;refine(o1,o2,λk hk b P=>?_)
   by_cases ek:k=i
   ·subst ek;rw[bI];exact λz=>out j b z P
   ·rw[bg ek];exact o3 k hk b P
 ·let(Fp,h1,h2):=r.h p hp;refine(Fp,h1.evo r.d e,λj u Q b P z=>?_)
  obtain⟨rfl,_,_⟩|⟨ne,Q⟩:=get_set Q
  ·rw[bI]at P;exact gJ.no (h1.r.there b z) (hf b P)
  ·rw[bg ne]at P;exact h2 j u Q b P z
def Rel.Si{v:V}{t:T}(r:Rel K dl H₀ hs H σ q F)(hi:i<q.length)(hv:Rp K dl H v t F')(hf:∀(j:Nat)(u:T),q[j]?=Z (.o u)->j≠i->∀b∈F j,b ∉ F'):Rel K dl H₀ hs H (σ.set i (Z v)) (q.set i (.r t)) (A2 F i F'):=by
 refine(r.d,λj x u h1 h2=>?_,λj x h1 h2=>?_,λj P=>?_,λj u h1=>?_,λp hp=>?_,r.f,by simp[r.l])
 ·obtain⟨rfl,rfl,_⟩|⟨ne,h1⟩:=get_set h1
  ·cases h2;exact(v,by rw[u6 (by rw[<- r.l];exact hi)],by rw[bI];exact hv)
  ·let(w,h3,h4):=r.g j x u h1 h2;exact(w,by rw[ui (λz=>ne z.symm)];exact h3,by rw[bg ne];exact h4)
 ·obtain⟨rfl,rfl,_⟩|⟨ne,h1⟩:=get_set h1
  ·cases h2
  ·rw[bg ne];exact r.n j x h1 h2
 ·rw[Az]at P;rw[bg (by omega)]
  exact r.z j P
 ·obtain⟨rfl,e,_⟩|⟨ne,h1⟩:=get_set h1
  ·cases e
  ·rw[bg ne];let(o1,o2,o3):=r.o j u h1;refine(o1,o2,λk hk b Q=>?_)
   have z:=hf j u h1 ne b Q;by_cases ek:k=i
   ·subst ek;rw[bI];exact z
   ·rw[bg ek];exact o3 k hk b Q
 ·let(Fp,h1,h2):=r.h p hp;refine(Fp,h1,λj u P b Q z=>?_)
  obtain⟨rfl,e,_⟩|⟨ne,P⟩:=get_set P
  ·cases e
  ·rw[bg ne]at Q;exact h2 j u P b Q z
def Rel.hold{v:V}{t:T}(r:Rel K dl H₀ hs H σ q F)(hv:Rp K dl H v t F')(hf:∀(j:Nat)(u:T),q[j]?=Z (.o u)->∀b∈F j,b ∉ F'):Rel K dl H₀ ((v,t)::hs) H σ q F :=
 (r.d,r.g,r.n,r.z,r.o,λp hp=>by
  obtain e|hp:=fx.mp hp
  ·subst e;exact(F',hv,hf)
  ·exact r.h p hp,r.f,r.l)
def Rel.down{t:T}(r:Rel K dl H₀ hs H σ q F)(hi:q[i]?=Z (.o t)):Rel K dl H₀ hs H σ (q.set i (.r t)) F:=by
 refine(r.d,λj x u h1 h2=>?_,λj x h1 h2=>?_,λj P=>r.z j (by rw[Az]at P;exact P),λj u h1=>?_,λp hp=>?_,r.f,by simp[r.l])
 ·obtain⟨rfl,rfl,_⟩|⟨ne,h1⟩:=get_set h1
  ·cases h2;exact r.g j _ t hi U
  ·exact r.g j x u h1 h2
 ·obtain⟨rfl,rfl,_⟩|⟨ne,h1⟩:=get_set h1
  ·cases h2
  ·exact r.n j x h1 h2
 ·obtain⟨rfl,e,_⟩|⟨ne,h1⟩:=get_set h1
  ·cases e
  ·exact r.o j u h1
 ·let(Fp,h1,h2):=r.h p hp;refine(Fp,h1,λj u P=>?_)
  obtain⟨rfl,e,_⟩|⟨ne,P⟩:=get_set P
  ·cases e
  ·exact h2 j u P
def Rel.write{v:V}{t t':T}{p:J}{o:HO}(r:Rel K dl H₀ hs H σ q F)(hi:q[i]?=Z (.o t))(hv:σ[i]?=Z (Z v))(hp:p∈F i)(ho:∀xs,H p=Z (.lst xs)->∃ys,o=.lst ys)(hr:Rp K dl (upd H p o) v t' F')(hn:F'.Nodup)
  (hf:∀b∈F',b∈F i\/(H₀ b=Y/\(∀j,b ∉ F j)/\∀w u Fp,Rp K dl H w u Fp->(w,u)∈hs->b ∉ Fp)):Rel K dl H₀ hs (upd H p o) σ (q.set i (.o t')) (A2 F i F'):=by
 let(o1,o2,o3):=r.o i t hi;have ak:=(kf.mp hi).1;let(v',ah,rp):=r.g i _ t hi U;have pn:=rp.n p hp;have Q:=r.bM hp;have tf:TF H (upd H p o):=(λa vs h=>(by
  rw[ax];exact h;intro z;subst z;let(_,e,m):=Q;rw[h]at e;cases e;cases m),λa ob u h=>(by
  rw[ax];exact h;intro z;subst z;let(_,e,m):=Q;rw[h]at e;cases e;cases m),λa φ h=>(by
  rw[ax];exact h;intro z;subst z;let(_,e,m):=Q;rw[h]at e;cases e;cases m),λa xs h=>(by
  by_cases z:a=p
  ·subst z;let(ys,e):=ho xs h;exact(ys,by rw[aC,e])
  ·exact(xs,by rw[ax z];exact h)),λa x h=>(x,Zi _,by
  rw[ax];exact h;intro z;subst z;let(_,e,m):=Q;rw[h]at e;cases e;cases m))
 have st:∀{w:V}{u:T}{Fw:List J},Rp K dl H w u Fw->p ∉ Fw->Rp K dl (upd H p o) w u Fw:=λ{w u Fw} h np =>
  (h.r.eC tf (λ_ z=>z) λb P ob e=>(by
   have ne:b≠p:=by
    intro z;subst z;exact np P
   rw[ax ne];exact e),h.n)
 refine(λd hd=>(r.d d hd).other (pn d hd).1 (pn d hd).2,λj x u h1 h2=>?_,λj x h1 h2=>?_,λj hj=>?_,λj u h1=>?_,λw hw=>?_,(λb ob P nb nr=>?_,λb x P=>?_),by simp[r.l])
 ·obtain⟨rfl,rfl,_⟩|⟨ne,h1⟩:=get_set h1
  ·cases h2;exact(v,hv,by rw[bI];exact hr)
  ·let(w,h3,h4):=r.g j x u h1 h2;exact(w,h3,by rw[bg ne];exact st h4 (o3 j ne p hp))
 ·obtain⟨rfl,rfl,_⟩|⟨ne,h1⟩:=get_set h1
  ·cases h2
  ·rw[bg ne];exact r.n j x h1 h2
 ·rw[Az]at hj;rw[bg (by omega)]
  exact r.z j hj
 ·obtain⟨rfl,e,_⟩|⟨ne,h1⟩:=get_set h1
  ·rw[bI];refine(hn,λb P=>?_,λk hk b P=>?_)
   ·obtain z|z:=hf b P
    ·exact o2 b z
    ·exact z.1
   ·rw[bg hk];obtain z|z:=hf b P
    ·exact o3 k hk b z
    ·exact z.2.1 k
  ·rw[bg ne];let(p1,p2,p3):=r.o j u h1;refine(p1,p2,λk hk b P=>?_)
   by_cases ek:k=i
   ·subst ek;rw[bI];intro z;obtain z|z:=hf b z
    ·exact o3 j ne b z P
    ·exact z.2.1 j P
   ·rw[bg ek];exact p3 k hk b P
 ·let(Fp,h1,h2):=r.h w hw;refine(Fp,st h1 (h2 i t hi p hp),λj u hj b P z=>?_)
  obtain⟨rfl,e,_⟩|⟨ne,hj⟩:=get_set hj
  ·rw[bI]at P;obtain y|y:=hf b P
   ·exact h2 j t hi b y z
   ·exact y.2.2 w.1 w.2 Fp h1 hw z
  ·rw[bg ne]at P;exact h2 j u hj b P z
 ·rw[ax]
  ·exact r.f.k b ob P nb nr
  ·intro z;subst z;rw[o2 b hp]at P;cases P
 ·let(y,hy,e):=r.f.r b x P;refine(y,hy,?_);rw[ax]
  ·exact e
  ·intro z;subst z;rw[o2 b hp]at P;cases P
end
structure EY(K:BT)(dl:Dl)(H₀:Hp)(hs:List (V×T))(Dq:dP)(D:Ends):Prop where
 nx:∀H σ q,cJ K dl H₀ hs H σ q->Dq.nx q->D.nx σ H
 bk:∀H σ q,cJ K dl H₀ hs H σ q->Dq.bk q->D.bk σ H
 ct:∀H σ q,cJ K dl H₀ hs H σ q->Dq.ct q->D.ct σ H
 rt:∀v t F H,Dls dl H->Rp K dl H v t F->(∀b∈F,H₀ b=Y)->F.Nodup->Frm dl H₀ H->Dq.rt t->D.rt v H
 ru:∀H σ q F0 v t F,Rel K dl H₀ hs H σ q F0->Rp K dl H v t F->(∀b∈F,H₀ b=Y)->F.Nodup->(∀j,∀b∈F,b ∉ F0 j)->Dq.ru q t->D.rt v H
def ES(K:BT)(ts:TS)(qs:QS):Prop:=∀(dl:Dl)(H₀:Hp)(hs:List (V×T))(H:Hp)(σ:St)(q:Sq)(Dq:dP)(D:Ends),cJ K dl H₀ hs H σ q->qs Dq q->EY K dl H₀ hs Dq D->ts D σ H
structure QPS(X:Cx)(K:BT)(st:Fk)(ts:TS)(qs:QS):Prop where
 h:PS X st ts
 s:ES K ts qs
structure rV(X:Cx)(K:BT)(st:List Fk)(ts:TS)(qs:QS):Prop where
 h:PSs X st ts
 s:ES K ts qs
variable{q:Sq}
section
variable{X:Cx}{K:BT}{st:Fk}{rest sa sb:List Fk}{t u:TS}{qt qu:QS}{e c:EQ}{te:TE}{qe:QE}{tc:TT}{qc:QT}{pos:Pos}
def P6:QS:=λD q=>D.nx q
def dP.seq(D:dP)(u:QS):dP:={D with nx:=u D}
def N2(t u:QS):QS:=λD q=>t (D.seq u) q
def aP:rV X K [] PU P6:=(FJ,λ_ _ _ H σ q _ _ r g E=>E.nx H σ q r g)
def ai(h1:QPS X K st t qt)(h2:rV X K rest u qu):rV X K (st::rest) (Rm t u) (N2 qt qu):=(dB h1.h h2.h,λdl H₀ hs H σ q Dq D r z E =>
 h1.s dl H₀ hs H σ q _ _ r z (λH σ q r' g=>h2.s dl H₀ hs H σ q _ _ r' g E,E.bk,E.ct,E.rt,E.ru))
def ay(h1:QPS X K st t qt):rV X K [st] t qt:=(jC h1.h,h1.s)
def Ba:QPS X K (.Continue pos) PX (λD q=>D.ct q):=(Bi,λ_ _ _ H σ q _ _ r g E=>E.ct H σ q r g)
def aN(he:QPF X K e te qe):QPS X K (.Return (Z e) pos) (Ju te) (λD q=>qe q D.rt):=(pj he.h,λdl H₀ hs H σ q Dq D (F,r) V E =>
 he.s dl H σ q _ _ r.rd V λv t F' H' g z f1 P Q=>E.rt v t F' H' g.d z (λb hb=>r.fz (f1 b hb)) P (r.evo g).f Q)
def zh(he:PE X e (cc i)):QPS X K (.Return (Z e) pos) (Ju (cc i)) (λD q=>match q[i]? with|some (.o t)=>D.rt t|_=>False):=(pj he,λdl H₀ hs H σ q Dq D (F,r) z E=>by
 split at z
 ·rename_i t P;let(v,hv,Q):=r.g i _ t P U;let(o1,o2,V):=r.o i t P;exact(v,hv,E.rt v t (F i) H r.d Q o2 o1 r.f z)
 ·exact z.elim)
def XU(c:QT)(t u:QS):QS:=λD q=>c q λb=>if b=O then t D q else u D q
def bN(z:QPT X K c tc qc)(ha:rV X K sa t qt)(P:rV X K sb u qu):QPS X K (.If c sa sb pos) (Ni tc t u) (XU qc qt qu):=(FK z.h ha.h P.h,λdl H₀ hs H σ q Dq D (F,r) V E =>
 z.s dl H σ q _ _ r.rd V λb H' Q g=>by
  cases b with
  |true=>exact ha.s dl H₀ hs H' σ q Dq D (F,r.evo Q) g E
  |false=>exact P.s dl H₀ hs H' σ q Dq D (F,r.evo Q) g E)
def DK(i:Nat)(qe:QE):QS:=λD q=>qe q λt=>D.nx (q.set i (.o t))
def Rel.f9{hs:List (V×T)}{σ:St}{F:Nat->List J}{v:V}{t:T}(r:Rel K dl H₀ hs H σ q F)(e:Evo dl H H')(hv:Rp K dl H' v t F')(hf:∀b∈F',H b=Y)(hn:F'.Nodup):cJ K dl H₀ hs H' (σ.set i (Z v)) (q.set i (.o t)):=by
 by_cases hi:i<q.length
 ·exact(_,r.put hi e hv hf hn)
 ·have hl:=r.l;rw[Y2 (by lia),Y2 (by lia)]
  exact(F,r.evo e)
def Fl(he:kM K te qe):ES K (uM te (jF i)) (DK i qe):=λdl H₀ hs H σ q Dq D (F,r) Q E=>he dl H σ q _ _ r.rd Q λv t F' H' V g f1 z P=>E.nx H' _ _ (r.f9 V g f1 z) P
def RR(g:X.N.Nodup)(hi:X.N[i]?=Z x)(hx:Loc X.env.scope x)(he:QPF X K e te qe)(hs:‹swapsWith e (Z (.Name x pos')) pos.line X.env=pure false›)(hf:AT X x:=by first|exact .inl rfl|exact .inr rfl|assumption):
  QPS X K (.Assign [.Name x pos'] e pos) (uM te (jF i)) (DK i qe):=(lj g hi hx he.h hs hf,Fl he.s)
inductive Xl(tb:QS)(D:dP)(W:Nat->Sq->Prop)(m:Nat)(q:Sq):Prop
 |mk(N:Sq->Prop)(less:∀q',N q'->∃m',m'<m/\W m' q')(body:tb (D.lp N) q)
inductive WhileI(c:QT)(tb:QS)(D:dP)(q:Sq):Prop
 |mk (W:Nat->Sq->Prop) (h0:∃m,W m q) (turn:∀m q,W m q->c q λb=>if b=O then Xl tb D W m q else D.nx q)
def Kr(c:QT)(tb:QS):QS:=λD q=>WhileI c tb D q
def mR(hp:ZY (model X.prog X.w) X.A X.env X.xe)(P:QPT X K c tc qc)(Q:rV X K rest t qt):QPS X K (.While c rest [] pos) (y4 tc t) (Kr qc qt):=(vO hp P.h Q.h,λdl H₀ hs H σ q Dq D r hq E=>by
 let(W,(m0,w0),turn):=hq;refine(λm σ H=>∃q,cJ K dl H₀ hs H σ q/\W m q,(m0,q,r,w0),?_)
 rintro m σ H ⟨q,⟨F,r⟩,w⟩
 refine P.s dl H σ q _ _ r.rd (turn m q w) λb H1 V z=>?_
 cases b with
 |false=>exact E.nx H1 σ q (F,r.evo V) z
 |true =>
  let(N,hN,z):=z;refine(λg H'=>∃q',cJ K dl H₀ hs H' g q'/\N q',λg H' (q',r',n')=>?_,?_)
  ·let(m',hm,w'):=hN q' n';exact(m',hm,q',r',w')
  ·exact Q.s dl H₀ hs H1 σ q _ _ (F,r.evo V) z (λH σ q r n=>(q,r,n),λH σ q r n=>E.nx H σ q r n,λH σ q r n=>(q,r,n),E.rt,E.ru))
end
abbrev PSp:=List T->(T->Prop)->Prop
inductive spQ(K:BT)(ps:PSp)(vs:List V)(H:Hp)(Q:VK)(_:XK):Prop
 |mk(dl:Dl)(ts:List T)(F:List J)(Qp:T->Prop)(h1:Dls dl H)(h2:Rps K dl H vs ts F)(h3:ps ts Qp)(h4:∀v t F' H',Evo dl H H'->Rp K dl H' v t F'->(∀b∈F',H b=Y)->F'.Nodup->Qp t->Q v H')
section
variable{X:Cx}{K:BT}{e:EQ}{es:List EQ}{tl:TA}{ql:QA}{pos p:Pos}{k:Nat}{f:J}{fd:Ch}{prs:List Str}{ps:PSp}
def Ky(ps:PSp)(ql:QA):QE:=λq Q=>ql q λts=>ps ts Q
def JO(ha:An K n tl ql):kM K (AR (spQ K ps) [] E0 tl) (Ky ps ql):=λdl H σ q Q R rd V k=>ha dl H σ q _ _ rd V λvs ts F H1 z P _ g=>by
 rw[qp];exact(dl,ts,F,Q,z.d,P,g,λv t F' H' e r f n g=>k v t F' H' (z.trans e) r (λb hb=>z.free (f b hb)) n g)
theorem NZ(F:aV X.prog X.w X.K X.mg X.base CX0 k f fd prs (spQ K ps))(hr:bP k X.A)(hg:Gl X x)(hm:X.mg x=Z (.ref f))(z:W.keepIn X.K (.ref f)=O)(P:Binds X.K fd prs [])(ha:QPA X K (e::es) tl ql)
  (q:autoParam (AS x) zdc._auto_1) (he:‹AC X e es›) (g:‹AM X pos es›):
  QPF X K (.Call (.Name x p) (e::es) [] pos) (AR (spQ K ps) [] E0 tl) (Ky ps ql):=(zz F hr hg hm z P .nil ub ha.h q he g,JO ha.s)
end
theorem sJ{K:BT}{vs:List V}{ts:List T}{F:List J}(D:Dls dl H)(r:Rps K dl H vs ts F)(hn:vs.length<=n):cJ K dl H [] H (vs.map Z++xV (n - vs.length) Y) (ts.map Sl.r++xV (n - vs.length) .no):=by
 have hl:=r.r.len;have main:∀{vs:List V}{ts:List T}{F:List J},aA K dl H vs ts F->(∀b∈F,Nd dl b)->∃g:Nat->List J,(∀i t,ts[i]?=Z t->∃v,vs[i]?=Z v/\Rp K dl H v t (g i))/\∀i,ts.length<=i->g i=[]:=by
  intro vs ts F h
  induction ts generalizing vs F with
  |nil=>intro _;exact(λ_=>[],λi t e=>by simp at e,λ_ _=>rfl)
  |cons t ts ih =>
   cases h with
   |@cons v0 _ ah _ F1 G1 h1 h2 =>
    intro hn;let(g,g1,g2):=ih h2 λb P=>hn b (lO _ P)
    refine(λi=>match i with | 0=>F1|i+1=>g i,λi u e=>?_,λi hi=>?_)
    ·cases i with
     |zero =>
      simp at e;subst e;exact(_,by simp,h1,λb P=>hn b (px _ P))
     |succ i =>
      let(v,q,Q):=g1 i u (by simpa using e)
      exact(v,by simpa using q,Q)
    ·cases i with
     |zero=>simp at hi
     |succ i=>exact g2 i (by simpa using hi)
 let(g,g1,g2):=main r.r r.n;have lk:∀i y,(ts.map Sl.r++xV (n - vs.length) Sl.no)[i]?=Z y->(∃t,ts[i]?=Z t/\y=.r t)\/(ts.length<=i/\y=.no):=λi y h=>by
  by_cases hi:i<ts.length
  ·rw[CJ (by simpa using hi),tW,rY hi]at h
   exact .inl (ts[i],by simp,(Option.some.inj h).symm)
  ·rw[CF (by simpa using hi),Y5]at h
   split at h
   ·exact .inr (by lia,(Option.some.inj h).symm)
   ·cases h
 refine(g,D,λi y t h1 h2=>?_,λi y h1 h2=>?_,λi hi=>?_,λi t h1=>?_,λp hp=>(by cases hp),.refl,by simp[hl])
 ·obtain⟨u,e,rfl⟩|⟨_,rfl⟩:=lk i y h1
  ·cases h2;let(v,q,Q):=g1 i t e;refine(v,?_,Q);have hi:=(kf.mp q).1;rw[CJ (by simpa using hi),tW,q]
   rfl
  ·cases h2
 ·obtain⟨u,e,rfl⟩|⟨hi,rfl⟩:=lk i y h1
  ·cases h2
  ·exact g2 i hi
 ·refine g2 i ?_;simp at hi
  lia
 ·obtain⟨u,e,z⟩|⟨_,z⟩:=lk i _ h1 <;> cases z
variable{P:Db}{mg:Str->Option B}{base:Ev}{qual:Str}{st:Fk}{fd:Ch}{N:List Str}{ps:List Str}
theorem Fun.okQ{w:Da}{K:BT}{f:J}{k:Nat}{g:PSp}(F:Fun K x qual st f fd)(S:aE N ps (av st))(len:∀ts Q,g ts Q->ts.length=ps.length)
  (jv:∀(cdv:B)(A:Do)(outer:List Env)(s:ϋ)(H:Hp)(E:XK),bP k (A.deeper (envOfC qual (av st) s.heap.objs.size f cdv)) ->
   ∃t qs,rV (pP CX0 P w K mg base N qual (av st) f cdv A outer s H E).nox K (cz st) t qs/\∀ts Q,g ts Q->qs (.fn Q) (ts.map Sl.r++xV (N.length - ts.length) .no)):aV P w K mg base CX0 (k+1) f fd ps (spQ K g):=by
 have ah:=by have:=congrArg YH S.pre;rw[xU]at this;omega
 refine F.ok S (λvs H Q E h=>?_) (λcdv A outer s H vs Q E hr h=>?_)
 ·let(dl,ts,F,Qp,_,r,h,_):=h;rw[r.r.len];exact len ts Qp h
 ·let(dl,ts,Fp,Qp,D,r,h,fin):=h;let(t,qs,hb,hq):=jv cdv A outer s H E hr;refine(t,hb.h,?_);have hlen:=len ts Qp h;have hl:=r.r.len;have z:=hq ts Qp h;have R:=sJ (n:=N.length) D r (by lia)
  rw[<- hl]at z;refine hb.s dl H [] H _ _ _ _ R z (λH' σ q (F,r') V=>?_,λ_ _ _ _ V=>V.elim,λ_ _ _ _ V=>V.elim,λv t F H' D' r' f' n' fr V=>?_,λ_ _ _ _ _ _ _ _ _ _ _ _ z=>z.elim)
  ·exact fin .non .n [] H' (r'.f.evo r'.d) (.n,λ_ z=>nomatch z) (λ_ z=>nomatch z) mz V
  ·exact fin v t F H' (fr.evo D') r' f' n' V
structure As(K:BT)(dl:Dl)(ύ:It)(xs:List T)(hv:List (V×T)):Prop where
 go:∀(H:Hp)(i:Nat),Dls dl H->(∀p∈hv,∃F,Rp K dl H p.1 p.2 F)->i<xs.length->ύ.go i H
 yld:∀(H:Hp)(i:Nat)(x:T)(fp:V×T->List J)(v:V)(H':Hp),Dls dl H->(∀p∈hv,Rp K dl H p.1 p.2 (fp p))->xs[i]?=Z x->ύ.yld i H v H'->Evo dl H H'/\∃F,Rp K dl H' v x F/\∀b∈F,H b=Y\/∃p∈hv,b∈fp p
 stop:∀(H:Hp),Dls dl H->(∀p∈hv,∃F,Rp K dl H p.1 p.2 F)->ύ.stop xs.length H
variable{lo:Int}{q':Sq}
section
variable{X:Cx}{K:BT}
def O6{xs:List T}:As K dl (Itl K a) xs [(.ref a,.l xs)] where
 go:=λH i D h hi=>by
  let(F,r):=h _ (aB.mpr U);let(p,vs,G,e,_,h1,h2):=r.r.lst;cases e;exact(vs,vs[i]'(by rw[h2.len];exact hi),SqL.of h1,by simp[hi])
 yld:=λH i x fp v H' D h hx y=>by
  have r:=h _ (aB.mpr U);let(p,vs,G,e,Q,h1,h2):=r.r.lst;cases e;let(U,y):=y;let(w,P,hw,q,hs):=h2.get hx;have z:=y vs (SqL.of h1);rw[hw]at z;cases z;have sub:∀b∈P,b∈fp (V.ref a,T.l xs):=λb g=>by
   rw[Q];exact aJ _ (hs b g)
  exact(.refl D,P,(q,λb g=>r.n b (sub b g)),λb g=>.inr (_,aB.mpr U,sub b g))
 stop:=λH D h=>by
  let(F,r):=h _ (aB.mpr U);let(p,vs,G,e,_,h1,h2):=r.r.lst;cases e;exact(vs,SqL.of h1,by rw[h2.len];exact oa _)
def Wz{xs:List T}:As K dl (Itl K a) xs [(.ref a,.zl xs)] where
 go:=λH i D h hi=>by
  let(F,r):=h _ (aB.mpr U);let(p,o,vs,e,_,h1,h2):=r.r.zls;cases e;exact(vs,vs[i]'(by rw[h2.len];exact hi),.inl (.inr (o,h1)),by simp[hi])
 yld:=λH i x fp v H' D h hx y=>by
  have r:=h _ (aB.mpr U);let(p,o,vs,e,Q,h1,h2):=r.r.zls;cases e;let(U,y):=y;let(w,P,hw,g,hs):=h2.get hx;have z:=y vs (.inl (.inr (o,h1)));rw[hw]at z;cases z;exact(.refl D,P,(g,λb q=>nomatch hs b q),λb q=>nomatch hs b q)
 stop:=λH D h=>by
  let(F,r):=h _ (aB.mpr U);let(p,o,vs,e,_,h1,h2):=r.r.zls;cases e;exact(vs,.inl (.inr (o,h1)),by rw[h2.len];exact oa _)
def LB{xs:List T}:As K dl (Itt K a) xs [(.ref a,.t xs)] where
 go:=λH i D h hi=>by
  let(F,r):=h _ (aB.mpr U);let(p,vs,e,h1,h2):=r.r.tup;cases e;exact(vs,vs[i]'(by rw[h2.len];exact hi),SqT.of h1,by simp[hi])
 yld:=λH i x fp v H' D h hx y=>by
  have r:=h _ (aB.mpr U);let(p,vs,e,h1,h2):=r.r.tup;cases e;let(U,y):=y;let(w,P,hw,g,hs):=h2.get hx;have z:=y vs (SqT.of h1);rw[hw]at z;cases z;exact(.refl D,P,(g,λb q=>r.n b (hs b q)),λb q=>.inr (_,aB.mpr U,hs b q))
 stop:=λH D h=>by
  let(F,r):=h _ (aB.mpr U);let(p,vs,e,h1,h2):=r.r.tup;cases e;exact(vs,SqT.of h1,by rw[h2.len];exact oa _)
def LC:As K dl (Itr lo n) ((Ww n).map λi=>.i (lo+(i:Nat))) [] where
 go:=λH i D h hi=>by
  show i<n;simpa using hi
 yld:=λH i x fp v H' D h hx y=>by
  let(U,U):=y;rw[tW]at hx;cases e:(Ww n)[i]? with
  |none=>rw[e]at hx;cases hx
  |some j =>
   rw[e]at hx;have g:j=i:=by
    have:=kf.mp e
    let(h1,h2):=this;simp at h2;exact h2.symm
   subst g;cases hx;exact(.refl D,[],.c (.i _),λ_ z=>nomatch z)
 stop:=λH D h=>by show n<=_;simp
abbrev QI:=Sq->(List T->Prop)->Prop
def Xm(K:BT)(wi:TI)(iq:QI):Prop:=∀(dl:Dl)(H:Hp)(σ:St)(q:Sq)(Q:List T->Prop)(R:It->Hp->Prop),RdR K dl H σ q->iq q Q ->
 (∀xs ύ hv H',Evo dl H H'->As K dl ύ xs hv->(∀p∈hv,∃F,Rp K dl H' p.1 p.2 F)->Q xs->R ύ H')->wi σ H R
structure QPI(X:Cx)(K:BT)(tg iter:EQ)(wi:TI)(iq:QI):Prop where
 h:PI X tg iter wi
 s:Xm K wi iq
abbrev QJ:=Sq->(List T->Sq->Prop)->Prop
def YB(K:BT)(wi:TI)(iq:QJ):Prop:=∀(dl:Dl)(H₀:Hp)(hs:List (V×T))(H:Hp)(σ:St)(q:Sq)(Q:List T->Sq->Prop)(R:It->Hp->Prop),cJ K dl H₀ hs H σ q->iq q Q ->
 (∀xs ύ hv H' q',cJ K dl H₀ (hv++hs) H' σ q'->As K dl ύ xs hv->Q xs q'->R ύ H')->wi σ H R
structure QPJ(X:Cx)(K:BT)(tg iter:EQ)(wi:TI)(iq:QJ):Prop where
 h:PI X tg iter wi
 s:YB K wi iq
variable{tg e a b:EQ}{te:TE}{qe:QE}{tl:TA}{ql:QA}{pos p:Pos}
def KY(g:X.K=K)(h:PE X e te):PI X tg e (LG K te):=by subst g;exact vg h
def FO(g:X.K=K)(h:PE X e te):PI X tg e (O8 K te):=by subst g;exact SO h
def asL(qe:QE):QI:=λq Q=>qe q λt=>match t with|.l xs=>Q xs|.zl xs=>Q xs|_=>False
def asT(qe:QE):QI:=λq Q=>qe q λt=>match t with|.t xs=>Q xs|_=>False
def NV(h:QPE X K e te qe)(V:‹X.K=K›):QPI X K tg e (LG K te) (asL qe):=(KY V h.h,λdl H σ q Q R rd P k=>h.s dl H σ q _ _ rd P λv t F H' z r g=>by
 split at g
 ·let(p,vs,G,U,U,h1,h2):=r.r.lst;exact(p,U,(vs,SqL.of h1),k _ _ _ H' z O6 (λp hp=>by rw[aB.mp hp];exact(_,r)) g)
 ·let(p,o,vs,U,U,h1,h2):=r.r.zls;exact(p,U,(vs,.inl (.inr (o,h1))),k _ _ _ H' z Wz (λp hp=>by rw[aB.mp hp];exact(_,r)) g)
 ·exact g.elim)
def RV(h:QPE X K e te qe)(P:‹X.K=K›):QPI X K tg e (O8 K te) (asT qe):=(FO P h.h,λdl H σ q Q R rd z k=>h.s dl H σ q _ _ rd z λv t F H' V r g=>by
 split at g
 ·let(p,vs,U,h1,h2):=r.r.tup;exact(p,U,(vs,SqT.of h1),k _ _ _ H' V LB (λp hp=>by rw[aB.mp hp];exact(_,r)) g)
 ·exact g.elim)
def JZ(lo:Int)(n:Nat):List T:=(Ww n).map λi=>.i (lo+(i:Nat))
def k7{x:T}(h:(JZ lo n)[i]?=Z x):x=.i (lo+(i:Nat))/\i<n:=by
 unfold JZ at h;rw[tW]at h;let(j,g,U):=kg.mp h;let(h1,h2):=kf.mp g;simp at h1 h2;subst h2;exact(U,h1)
def fe:(JZ lo n).length=n:=by simp[JZ]
def Xg(ql:QA):QI:=λq Q=>ql q λts=>on1 ts λt=>match t with|.i n=>-(2 ^ 62)<=n/\n<2 ^ 62/\Q (JZ 0 n.toNat)|_=>False
def nO(hg:Gl X "range")(hm:X.mg "range"=Y)(ha:QPA X K [a] tl ql)(hs:‹AD X a›):QPI X K tg (.Call (.Name "range" p) [a] [] pos) (LF tl) (Xg ql):=(yd hg hm ha.h hs,λdl H σ q Q R rd P k=>ha.s dl H σ q _ _ rd P λvs ts F H' V r _ g=>by
 replace g:=on1.inv g
 let(t,U,g):=g
 split at g
 ·let(v,U,r'):=r.one;let(U,_):=r'.r.int;exact(_,U,g.1,g.2.1,k _ _ [] H' V LC (λ_ z=>nomatch z) g.2.2)
 ·exact g.elim)
def asJ(iq:QI):QJ:=λq Q=>iq q λxs=>Q xs q
def jf(hg:Gl X "range")(hm:X.mg "range"=Y)(ha:QPA X K [a] tl ql)(hs:‹AD X a›):QPJ X K tg (.Call (.Name "range" p) [a] [] pos) (LF tl) (asJ (Xg ql)):=(yd hg hm ha.h hs,λdl H₀ hs H σ q Q R (F0,z) P k=>ha.s dl H σ q _ _ z.rd P λvs ts F H' V r _ g=>by
 replace g:=on1.inv g
 let(t,U,g):=g
 split at g
 ·let(v,U,r'):=r.one;let(U,_):=r'.r.int;exact(_,U,g.1,g.2.1,k _ _ [] H' q (F0,z.evo V) LC g.2.2)
 ·exact g.elim)
def zj(h:QPF X K e te qe)(hK:‹X.K=K›):QPJ X K tg e (O8 K te) (asJ (asT qe)):=(FO hK h.h,λdl H₀ hs H σ q Q R (F0,g) hq k=>h.s dl H σ q _ _ g.rd hq λv t F H' e1 r f n P=>by
 split at P
 ·have V:=(g.evo e1).hold r λj u hj b hb z=>(g.bM hb).no (f b z)
  let(p,vs,U,h1,h2):=r.r.tup;exact(p,U,(vs,SqT.of h1),k _ _ _ H' q (F0,V) LB P)
 ·exact P.elim)
inductive Tg where
 |nm(i:Nat)|tp (is:List Nat)
def xu(q:Sq):List Nat->List T->Option Sq
 |[],[]=>Z q
 |i::is,x::xs=>if i<q.length then xu (q.set i (.r x)) is xs else Y
 |_,_=>Y
def Tg.put(g:Tg)(x:T)(q:Sq):Option Sq:=match g with
 |.nm i=>if i<q.length then Z (q.set i (.r x))else Y
 |.tp is=>match x with|.t xs=>xu q is xs|_=>Y
def zX:List Nat->TGs
 |[]=>Pe
 |i::is=>yl (jF i) (zX is)
def Tg.h(K:BT):Tg->TG
 |.nm i=>jF i
 |.tp is=>LR K is.length (zX is)
def Hu{hs:List (V×T)}{is:List Nat}:∀{vs:List V}{xs:List T}{G:List J}{σ:St}{q q':Sq}{F:Nat->List J}{R:St->Hp->Prop},Rel K dl H₀ hs H σ q F->aA K dl H vs xs G->(∀b∈G,Nd dl b) ->
  (∀(j:Nat)(u:T),q[j]?=Z (.o u)->∀b∈F j,b ∉ G)->xu q is xs=Z q'->(∀P,cJ K dl H₀ hs H P q'->R P H)->zX is vs σ H R:=by
 induction is with
 |nil =>
  intro vs xs G σ q q' F R r rs _ _ hp k;cases xs with
  |cons _ _=>cases hp
  |nil =>
   cases rs;cases hp;exact(U,k σ (F,r))
 |cons i is ih =>
  intro vs xs G σ q q' F R r rs hn ho hp k;cases xs with
  |nil=>cases hp
  |cons x xs =>
   cases rs with
   |cons r1 r2 =>
    unfold xu at hp;by_cases hi:i<q.length
    ·rw[if_pos hi]at hp;refine(_,_,U,?_);have r':=r.Si hi (r1,λb g=>hn b (px _ g)) λj u Q _ b g z=>ho j u Q b g (px _ z)
     refine ih r' r2 (λb g=>hn b (lO _ g)) (λj u Q b g z=>?_) hp k
     obtain⟨_,z',_⟩|⟨ne,Q⟩:=get_set Q
     ·cases z'
     ·rw[bg ne]at g;exact ho j u Q b g (lO _ z)
    ·rw[if_neg hi]at hp;cases hp
def J1{hs:List (V×T)}{g:Tg}{v:V}{x:T}{σ:St}{F:Nat->List J}{R:St->Hp->Prop}(r:Rel K dl H₀ hs H σ q F)(P:Rp K dl H v x G)
  (ho:∀(j:Nat)(u:T),q[j]?=Z (.o u)->∀b∈F j,b ∉ G) (hp:g.put x q=Z q') (k:∀z,cJ K dl H₀ hs H z q'->R z H):g.h K v σ H R:=by
 cases g with
 |nm i =>
  replace hp:(if i<q.length then Z (q.set i (.r x))else Y)=Z q':=hp
  by_cases hi:i<q.length
  ·rw[if_pos hi]at hp;cases hp;exact k _ (_,r.Si hi P λj u hj _=>ho j u hj)
  ·rw[if_neg hi]at hp;cases hp
 |tp is =>
  cases x with
  |t xs =>
   let(p,vs,U,h1,h2):=P.r.tup;have hl:∀{is:List Nat}{xs:List T}{q q':Sq},xu q is xs=Z q'->xs.length=is.length:=λ{is}=>by
    induction is with
    |nil=>intro xs q q' h;cases xs with
     |nil=>rfl
     |cons _ _=>cases h
    |cons i is Q=>intro xs q q' h;cases xs with
     |nil=>cases h
     |cons x xs =>
      unfold xu at h;by_cases hi:i<q.length
      ·rw[if_pos hi]at h;simp[Q h]
      ·rw[if_neg hi]at h;cases h
   exact(p,vs,U,SqT.of h1,by rw[h2.len];exact hl hp,Hu r h2 P.n ho hp k)
  |_=>cases hp
end
variable{tg:EQ}{iter:EQ}{body:List Fk}{wi:TI}{cap:List (Option Nat)}{iq:QI}{tst:TT}{xt:QT}{te:TE}{qe:QE}{N':List Str}{sc:Scope}{elt:EQ}{ifs:List EQ}
section
variable{X:Cx}{K:BT}{hs:List (V×T)}{σ:St}{F:Nat->List J}
def Rel.jy{hv:List (V×T)}(r:Rel K dl H₀ (hv++hs) H σ q F):Rel K dl H₀ hs H σ q F:=(r.d,r.g,r.n,r.z,r.o,λp hp=>r.h p (lO _ hp),r.f,r.l)
def Rel.fps{hv:List (V×T)}(r:Rel K dl H₀ (hv++hs) H σ q F):∃fp:V×T->List J,∀p∈hv,Rp K dl H p.1 p.2 (fp p)/\∀(i:Nat)(t:T),q[i]?=Z (.o t)->∀b∈F i,b ∉ fp p:=by
 classical
 refine(λp=>if h:p∈hv then(r.h p (px _ h)).choose else [],λp hp=>?_)
 have z:=(r.h p (px _ hp)).choose_spec;simp only[dif_pos hp];exact z
inductive YF(g:Tg)(qb:QS)(D:dP)(xs:List T)(q0:Sq):Prop
 |mk(I:Nat->Sq->Prop)(h0:I 0 q0)(step:∀i x q,xs[i]?=Z x->I i q->∃q',g.put x q=Z q'/\qb (D.lp (I (i+1))) q')(fin:∀q,I xs.length q->D.nx q)
def VR(iq:QJ)(g:Tg)(qb:QS):QS:=λD q=>iq q λxs q0=>YF g qb D xs q0
def j7{iq:QJ}{g:Tg}{tb:TS}{qb:QS}{pos:Pos}(hp:ZY (model X.prog X.w) X.A X.env X.xe)(hc:X.calm=O)(hi:QPJ X K tg iter wi iq)(hg:PG X tg (g.h K))(hb:rV X K body tb qb)
  (hs:∀x,foldedSetIterable iter X.env x=pure x:=by intro _;rfl):QPS X K (.For tg iter body [] pos) (Rt wi (g.h K) tb) (VR iq g qb):=(DQ hp hc hi.h hg hb.h hs,λdl H₀ hs H σ q Dq D r hq E=>by
 refine hi.s dl H₀ hs H σ q _ _ r hq λxs ύ hv H1 q1 r1 it hz=>?_
 let(I,i0,turn,fin):=hz;refine(λi m σ H=>m=xs.length - i/\i<=xs.length/\∃q,cJ K dl H₀ (hv++hs) H σ q/\I i q,(xs.length,by simp,Je _,q1,r1,i0),?_)
 rintro i m σ H ⟨rfl,au,q,⟨F,r⟩,hI⟩
 have held:∀p∈hv,∃F,Rp K dl H p.1 p.2 F:=λp hp=>let(Fp,h,_):=r.h p (px _ hp);(Fp,h)
 by_cases P:i<xs.length
 ·refine .inr (it.go H i r.d held P,λQ H'=>∃q,cJ K dl H₀ (hv++hs) H' Q q/\I (i+1) q,λQ H' h=>(xs.length - (i+1),by omega,U,P,h),λv H' y=>?_)
  let(fp,V):=r.fps;have hx:xs[i]?=Z xs[i]:=by simp[P]
  let(e1,G,rx,hG):=it.yld H i xs[i] fp v H' r.d (λp hp=>(V p hp).1) hx y
  let(q',ak,hz):=turn i xs[i] q hx hI;refine J1 (r.evo e1) rx (λj u hj b hb z=>?_) ak λah r2=>hb.s dl H₀ (hv++hs) H' ah q' _ _ r2 hz (λH σ q r n=>(q,r,n),λH σ q (F,r) n=>E.nx H σ q (F,r.jy) n,λH σ q r n=>(q,r,n),E.rt,λH σ q F0 v t F r=>E.ru H σ q F0 v t F r.jy)
  obtain h |⟨p,hp,h⟩:=hG b z
  ·exact(r.bM hb).no h
  ·exact(V p hp).2 j u hj b hb h
 ·have e:i=xs.length:=by lia
  subst e;exact .inl (it.stop H r.d held,E.nx H σ q (F,r.jy) (fin q hI)))
def nj(cap:List (Option Nat))(q:Sq):Sq:=cap.map λo=>match o with
 |none=>.no
 |some i=>match q[i]? with
  |some (.o t)=>.r t
  |some (.r t)=>.r t
  |_=>.no
def NK(r:RdR K dl H σ q):RdR K dl H (rK cap σ) (nj cap q):=(r.d,λj x t h1 h2=>by
 unfold nj at h1;rw[tW]at h1;cases e:cap[j]? with
 |none=>rw[e]at h1;cases h1
 |some o =>
  rw[e]at h1;cases o with
  |none=>cases h1;cases h2
  |some i =>
   have go:∀y,q[i]?=Z y->y.get=Z t->∃v F,(rK cap σ)[j]?=Z (Z v)/\Rp K dl H v t F:=λy z P=>by
    let(v,F,h3,h4):=r.g i y t z P;refine(v,F,?_,h4);unfold rK;rw[tW,e];show Z ((σ[i]?).join)=_;rw[h3];rfl
   replace h1:(match q[i]? with|some (.o t)=>Sl.r t|some (.r t)=>.r t|_=>.no)=x:=Option.some.inj h1
   split at h1
   ·rename_i u eq;subst h1;cases h2;exact go _ eq U
   ·rename_i u eq;subst h1;cases h2;exact go _ eq U
   ·subst h1;cases h2)
theorem RdR.set{i:Nat}{v:V}{x:T}{G:List J}(r:RdR K dl H σ q)(hl:i < σ.length)(P:Rp K dl H v x G):RdR K dl H (σ.set i (Z v)) (q.set i (.r x)):=(r.d,λj y t h1 h2=>by
 obtain⟨rfl,rfl,_⟩|⟨ne,h1⟩:=get_set h1
 ·cases h2;exact(v,G,by rw[u6 hl],P)
 ·let(w,F,h3,h4):=r.g j y t h1 h2;exact(w,F,by rw[ui (λz=>ne z.symm)];exact h3,h4))
def RdR.any{o:Option V}(r:RdR K dl H σ q)(hn:q[i]?=Z .no):RdR K dl H (σ.set i o) q:=(r.d,λj y t h1 h2=>by
 let(w,F,h3,h4):=r.g j y t h1 h2;refine(w,F,?_,h4);rw[ui]
 ·exact h3
 ·intro z;subst z;rw[hn]at h1;cases h1;cases h2)
def Tg.ixs:Tg->List Nat
 |.nm i=>[i]
 |.tp is=>is
def J3{is:List Nat}:∀{vs:List V}{xs:List T}{G:List J}{σ:St}{q q0 q':Sq}{R:St->Hp->Prop},RdR K dl H σ q->RdR K dl H σ q0->σ.length=q.length->aA K dl H vs xs G->(∀b∈G,Nd dl b)->(∀i∈is,q0[i]?=Z .no)->xu q is xs=Z q' ->
  (∀g,RdR K dl H g q'->RdR K dl H g q0->g.length=σ.length->R g H)->zX is vs σ H R:=by
 induction is with
 |nil =>
  intro vs xs G σ q q0 q' R r z _ rs _ _ hp k;cases xs with
  |cons _ _=>cases hp
  |nil =>
   cases rs;cases hp;exact(U,k σ r z U)
 |cons i is ih =>
  intro vs xs G σ q q0 q' R r z hl rs hn hf hp k;cases xs with
  |nil=>cases hp
  |cons x xs =>
   cases rs with
   |cons r1 Q =>
    unfold xu at hp;by_cases hi:i<q.length
    ·rw[if_pos hi]at hp;refine(_,_,U,(ih (r.set (by omega) (r1,λb P=>hn b (px _ P))) (z.any (hf i di)) (by simp[hl]) Q (λb P=>hn b (lO _ P)) (λj hj=>hf j (aJ _ hj)) hp λg a b c=>k g a b (by simpa using c)))
    ·rw[if_neg hi]at hp;cases hp
theorem Bh:∀{is:List Nat}{xs:List T}{q q':Sq},xu q is xs=Z q'->xs.length=is.length
 |[],[],_,_,_=>rfl
 |[],_::_,_,_,h=>by cases h
 |_::_,[],_,_,h=>by cases h
 |i::is,x::xs,q,q',h=>by
  unfold xu at h;by_cases hi:i<q.length
  ·rw[if_pos hi]at h;simp[Bh h]
  ·rw[if_neg hi]at h;cases h
def Vj{g:Tg}{v:V}{x:T}{R:St->Hp->Prop}(r:RdR K dl H σ q)(hl:σ.length=q.length)(P:Rp K dl H v x G)(hf:∀i∈g.ixs,q[i]?=Z .no)(hp:g.put x q=Z q')
  (k:∀z,RdR K dl H z q'->RdR K dl H z q->z.length=σ.length->R z H):g.h K v σ H R:=by
 cases g with
 |nm i =>
  replace hp:(if i<q.length then Z (q.set i (.r x))else Y)=Z q':=hp
  by_cases hi:i<q.length
  ·rw[if_pos hi]at hp;cases hp;exact k _ (r.set (by lia) P) (r.any (hf i (aB.mpr U))) (by simp)
  ·rw[if_neg hi]at hp;cases hp
 |tp is =>
  cases x with
  |t xs =>
   let(p,vs,U,h1,h2):=P.r.tup;exact(p,vs,U,SqT.of h1,by rw[h2.len];exact Bh hp,J3 r r hl h2 P.n hf hp k)
  |_=>cases hp
def P5:QT:=λ_ Q=>Q O
def JF:pR K E7 P5:=λdl H σ q Q R rd g k=>k O H (.refl rd.d) g
inductive CompI(cap:List (Option Nat))(g:Tg)(tst:QT)(qe:QE)(q:Sq)(Q:T->Prop)(xs:List T):Prop
 |mk (hl:xs.length<ot) (I:Nat->List T->Prop) (h0:I 0 []) (step:∀i x ys,xs[i]?=Z x->I i ys->∃q',g.put x (nj cap q)=Z q'/\tst q' λb=>if b=O then qe q' λy=>I (i+1) (ys ++ [y])else I (i+1) ys) (fin:∀ys,I xs.length ys->Q (.l ys))
def Kx(cap:List (Option Nat))(iq:QI)(g:Tg)(tst:QT)(qe:QE):QE:=λq Q=>iq q λxs=>CompI cap g tst qe q Q xs
theorem A1{g:Tg}(hi:Xm K wi iq)(ht:pR K tst xt)(he:kM K te qe)(hf:(g.ixs.all λi=>cap[i]? == Z Y)=O):kM K (x3 cap wi (g.h K) tst te) (Kx cap iq g xt qe):=by
 intro dl H σ q Q R rd hq k;refine hi dl H σ q _ _ rd hq λxs ύ hv H1 e1 it held hz=>?_
 let(hlen,I,i0,turn,fin):=hz;have a4:=NK (cap:=cap) (rd.evo e1);have a6:∀i∈g.ixs,(nj cap q)[i]?=Z .no:=λi hi=>by
  have z:=Av.mp hf i hi;have z:=by simpa using z
  unfold nj;rw[tW,z];rfl
 have bf:(rK cap σ).length=(nj cap q).length:=by simp[rK,nj]
 refine(λi m vs au H'=>m=xs.length - i/\i<=xs.length/\∃ts F,Evo dl H1 H'/\RdR K dl H' au (nj cap q)/\au.length=(nj cap q).length/\(∀p∈hv,∃F,Rp K dl H' p.1 p.2 F)/\Rps K dl H' vs ts F/\(∀b∈F,H b=Y)/\F.Nodup/\vs.length<=i/\I i ts,
  (xs.length,by simp,Je _,[],[],.refl e1.d,a4,bf,held,(.nil,λ_ z=>nomatch z),(λ_ z=>nomatch z),mz,oa _,i0),?_)
 rintro i m vs au H' ⟨rfl,bt,ts,F,e2,a3,a9,B7,rs,fr,nd,bp,hI⟩
 by_cases ah:i<xs.length
 ·refine .inr (it.go H' i e2.d B7 ah,by lia,λaw ak H2=>∃ts F,Evo dl H1 H2/\RdR K dl H2 ak (nj cap q)/\ak.length=(nj cap q).length/\(∀p∈hv,∃F,Rp K dl H2 p.1 p.2 F)/\Rps K dl H2 aw ts F/\(∀b∈F,H b=Y)/\F.Nodup/\aw.length<=i+1/\I (i+1) ts,
   λaw ak H2 h=>(xs.length - (i+1),Nat.sub_succ_lt_self _ _ ah,U,ah,h),λv H2 y=>?_)
  have hx:xs[i]?=Z xs[i]:=by simp[ah]
  obtain⟨fp,bb⟩:∃fp:V×T->List J,∀p∈hv,Rp K dl H' p.1 p.2 (fp p):=by
   classical
   refine(λp=>if h:p∈hv then(B7 p h).choose else [],λp hp=>?_)
   simp only[dif_pos hp];exact(B7 p hp).choose_spec
  let(e3,G,rx,hG):=it.yld H' i xs[i] fp v H2 e2.d bb hx y;let(q',a5,hz):=turn i xs[i] ts hx hI;have QM:∀{H3:Hp},Evo dl H' H3->∀p∈hv,∃F,Rp K dl H3 p.1 p.2 F:=λ{H3} e p hp=>let(F,r):=B7 p hp;(F,r.evo e2.d e)
  refine Vj (a3.evo e3) a9 rx a6 a5 λaD r3 aL l3=>(ht dl H2 aD q' _ _ r3 hz λb H4 e4 hz=>?_)
  cases b with
  |false=>exact(ts,F,(e2.trans e3).trans e4,aL.evo e4,by omega,QM (e3.trans e4),(rs.evo e2.d e3).evo e3.d e4,fr,nd,by lia,hz)
  |true =>
   refine he dl H4 aD q' _ _ (r3.evo e4) hz λw t G' H5 e5 aH f5 n5 hz=>?_
   have E:=(e2.trans e3).trans (e4.trans e5);have aX:=((rs.evo e2.d e3).evo e3.d (e4.trans e5));refine(ts ++ [t],F++(G' ++ []),E,aL.evo (e4.trans e5),by omega,QM (e3.trans (e4.trans e5)),(aX.r.append (.cons aH.r .nil),λb P=>?_),λb P=>?_,?_,by simp;omega,hz)
   ·obtain P|P:=mu.mp P
    ·exact rs.n b P
    ·rw[qp]at P;exact aH.n b P
   ·obtain P|P:=mu.mp P
    ·exact fr b P
    ·rw[qp]at P;exact((e1.trans e2).trans (e3.trans e4)).free (f5 b P)
   ·rw[qp];refine x2.mpr (nd,n5,λx hx y hy bj=>?_)
    subst bj;have a0:=(rs.evo e2.d e3).evo e3.d e4;exact gJ.no (a0.r.there x hx) (f5 x hy)
 ·have e:i=xs.length:=by lia
  subst e;refine .inl (it.stop H' e2.d B7,by lia,λD hD=>?_)
  exact k _ _ _ _ ((e1.trans e2).new hD) (rs.lst e2.d hD) (λb P=>by
   obtain e|P:=fx.mp P
   ·rw[e];exact(e1.trans e2).free hD
   ·exact fr b P) (rs.fresh hD nd) (fin ts hI)
structure QB(X:Cx)(K:BT)(N':List Str)(sc:Scope)(tg:EQ)(g:Tg)(ifs:List EQ)(tst:TT)(xt:QT)(elt:EQ)(te:TE)(qe:QE):Prop where
 b:∀cl C s₂ H₂ fp,PG (blk X N' sc cl C s₂ H₂ fp) tg (g.h K)/\PTs (blk X N' sc cl C s₂ H₂ fp) ifs tst/\PE (blk X N' sc cl C s₂ H₂ fp) elt te
 t:pR K tst xt
 e:kM K te qe
def j8{g:Tg}(h:∀cl C s₂ H₂ fp,PG (blk X N' sc cl C s₂ H₂ fp) tg (g.h K)/\QPF (blk X N' sc cl C s₂ H₂ fp) K elt te qe):QB X K N' sc tg g [] E7 P5 elt te qe :=
 (λcl C s₂ H₂ fp=>((h cl C s₂ H₂ fp).1,FI,(h cl C s₂ H₂ fp).2.h),JF,(h [] 0 X.s₀ (λ_=>Y) []).2.s)
def lh{pos:Pos}{g:Tg}(hc:X.calm=O)(hi:QPI X K tg iter wi iq)(z:sj X sc N' cap)(q:QB X K N' sc tg g ifs tst xt elt te qe)
  (hf:‹(g.ixs.all λi=>cap[i]? == Z Y)=true›)
  (kH:‹sc.kind=.function›) (V:autoParam (∀y∈sc.names,y.2 ≠ .cell) zdc._auto_1) (Q:autoParam (∀y∈sc.names,y.2=.local->sc.names.lookup y.1=Z .local) zdc._auto_1)
  (P:‹(sc.names.all λy=>y.2 != .free ||(X.env.kindOf y.1==Z .cell||X.env.kindOf y.1==Z .free))=true›)
  (hs:∀x,foldedSetIterable iter X.env x=pure x:=by intro _;rfl):QPF X K (.ListComp elt [(tg,iter,ifs,0)] sc pos) (x3 cap wi (g.h K) tst te) (Kx cap iq g xt qe) :=
 (FU hc hi.h z q.b kH V Q P hs,A1 hi.s q.t q.e hf)
def zi{y:Str}{pos gh py:Pos}{g:Tg}(hN:X.N.Nodup)(z:X.N[i]?=Z y)(hy:Loc X.env.scope y)
  (hc:X.calm=O) (hi:QPI X K tg iter wi iq) (V:sj X sc N' cap) (Q:QB X K N' sc tg g ifs tst xt elt te qe)
  (P:‹(g.ixs.all λi=>cap[i]? == Z Y)=true›)
  (q:‹swapsWith (.ListComp elt [(tg,iter,ifs,0)] sc pos) (Z (.Name y py)) gh.line X.env=pure true›)
  (hf:AT X y:=by first|exact .inl rfl|exact .inr rfl|assumption)
  (kH:‹sc.kind=.function›) (kI:autoParam (∀y∈sc.names,y.2 ≠ .cell) zdc._auto_1) (lF:autoParam (∀y∈sc.names,y.2=.local->sc.names.lookup y.1=Z .local) zdc._auto_1)
  (lU:‹(sc.names.all λy=>y.2 != .free ||(X.env.kindOf y.1==Z .cell||X.env.kindOf y.1==Z .free))=true›)
  (hs:∀x,foldedSetIterable iter X.env x=pure x:=by intro _;rfl):QPS X K (.Assign [.Name y py] (.ListComp elt [(tg,iter,ifs,0)] sc pos) gh) (uM (x3 cap wi (g.h K) tst te) (jF i)) (DK i (Kx cap iq g xt qe)) :=
 (FL hN z hy hc hi.h V Q.b q hf kH kI lF lU hs,Fl (A1 hi.s Q.t Q.e P))
end
section
variable{X:Cx}{K:BT}{hs:List (V×T)}{σ:St}{F:Nat->List J}{e o:EQ}{apos a5:Pos}
def zip_inj:∀{vs us:List V},vs.length=ns.length->us.length=ns.length->ns.zip vs=ns.zip us->vs=us:=by
 induction ns with
 |nil=>intro vs us h1 h2 _;rw[Y6.mp h1,Y6.mp h2]
 |cons n r q =>
  intro vs us h1 h2 e;cases vs with
  |nil=>cases h1
  |cons v vs=>cases us with
   |nil=>cases h2
   |cons u us =>
    injection e with g z
    injection g with _ g
    rw[g,q (Nat.succ.inj h1) (Nat.succ.inj h2) z]
def aI.uniq{v:V}{t:T}{F:List J}(h:aI K dl H v t F):∀{F':List J},aI K dl H v t F'->F=F' :=
 aI.rec (motive_1:=λv t F _=>∀{F'},aI K dl H v t F'->F=F') (motive_2:=λv t F _=>∀{F'},aA K dl H v t F'->F=F') (motive_3:=λv t F _=>∀{F'},hU K dl H v t F'->F=F')
  (λh=>(h.im U).symm) (λ_ _ h=>(h.im U).symm) (λ_ _ h=>(h.im U).symm) (λ_ _ h=>(h.im U).symm) (λ_ _ h=>(h.im U).symm)
  (λh1 _ g _ h=>by let(a,vs,e,h2,r):=h.tup;cases e;rw[h1]at h2;cases h2;exact g r)
  (λh1 _ g _ h=>by let(a,vs,G,e,U,h2,r):=h.lst;cases e;rw[h1]at h2;cases h2;rw[g r])
  (λh1 _ g _ h=>by let(a,vs,G,e,U,h2,r):=h.dic;cases e;rw[h1]at h2;cases h2;rw[g r])
  (λ_ _ h=>(h.im U).symm) (λ_ _ h=>(h.im U).symm) (λ_ _ h=>(h.im U).symm) (λ_ _ _ _ h=>(h.im U).symm) (λ_ _ h=>(h.im U).symm) (λ_ _ _ _ h=>(h.im U).symm)
  (λ_ _ _ h=>(h.im U).symm) (λ_ _ _ _ h=>(h.im U).symm) (λh1 _ g _ h=>by let(vs,G,e,U,h2,r):=h.dpp;rw[h1]at h2;cases h2;rw[g r]) (λh1 _ g _ h=>by let(vs,G,e,U,h2,r):=h.lpp;rw[h1]at h2;cases h2;rw[g r]) (λ_ _ _ _ h=>(h.im U).symm) (λ_ _ h=>(h.im U).symm) (λh1 _ h4 hr g _ h=>by
   let(dx,vs,G,e,U,h2,_,h3,r):=h.omm;rw[h1]at h2;injection h2 with h2
   injection h2 with _ e1 e2
   subst e1;have Q:=zip_inj (hr.len.trans h4.symm) (r.len.trans h3.symm) e2;subst Q;rw[g r]) (λ_ _ h=>(h.im U).symm)
  (λh=>by cases h;rfl) (λ_ _ P z _ h=>by cases h with|cons h2 q=>rw[P h2,z q])
  (λh=>by cases h;rfl) (λ_ _ P z _ h=>by cases h with|cons h2 q=>rw[P h2,z q]) h
def Rel.Pa(r:Rel K dl H₀ hs H σ q F)(e:Evo dl H H'){p:V×T}(hp:p∈hs){Fp:List J}(h:Rp K dl H' p.1 p.2 Fp){b:J}(g:H b=Y):b ∉ Fp:=λz=>by
 let(Q,h1,_):=r.h p hp;have P:=(h1.evo r.d e).r.uniq h.r;subst P;exact gJ.no (h1.r.there b z) g
def Rel.vK{p:J}{ws:List V}{xs ys:List T}{G':List J}(r:Rel K dl H₀ hs H σ q F)(hi:q[i]?=Z (.o (.l xs)))(hv:σ[i]?=Z (Z (.ref p)))(Q:F i=p::G)(e:Evo dl H H')
  (rs:aA K dl H' ws ys G') (hn:G'.Nodup) (hG:∀b∈G',b∈G\/(H b=Y/\Nd dl b)):cJ K dl H₀ hs (upd H' p (.lst ws)) σ (q.set i (.o (.l ys))):=by
 have r':=r.evo e;let(o1,o2,o3):=r.o i _ hi;let(v',aw,rp):=r'.g i _ _ hi U;rw[hv]at aw;let(p2,aD,G2,e2,eF,h1,h2):=rp.r.lst;rw[Q]at eF;cases eF;rw[Q]at o1;have pG:=(xj.mp o1).1;have au:=r.bM (by rw[Q];exact di)
 have ah:p ∉ G':=λz=>by
  obtain z|z:=hG p z
  ·exact pG z
  ·exact au.no z.1
 have pn:=rp.n p (by rw[Q];exact di)
 have tf:TF H' (upd H' p (.lst ws)):=(λa us h=>(by
  rw[ax];exact h;intro z;subst z;rw[h]at h1;cases h1),λa ob u h=>(by
  rw[ax];exact h;intro z;subst z;rw[h]at h1;cases h1),λa φ h=>(by
  rw[ax];exact h;intro z;subst z;rw[h]at h1;cases h1),λa xs' h=>(by
  by_cases z:a=p
  ·subst z;exact(_,aC)
  ·exact(xs',by rw[ax z];exact h)),λa x h=>(x,Zi _,by
  rw[ax];exact h;intro z;subst z;rw[h]at h1;cases h1))
 have ak:=rs.eC tf (λ_ z=>z) λb P ob eb=>by
  have ne:b≠p:=by
   intro z;subst z;exact ah P
  rw[ax ne];exact eb
 refine(_,r'.write hi hv (by rw[Q];exact di) (λ_ _=>(_,U)) (.l aC ak,λb P=>?_) (xj.mpr (ah,hn)) λb P=>?_)
 ·obtain z|P:=fx.mp P
  ·rw[z];exact pn
  ·obtain z|z:=hG b P
   ·exact rp.n b (by rw[Q];exact aJ _ z)
   ·exact z.2
 ·obtain z|P:=fx.mp P
  ·rw[z,Q];exact .inl di
  ·obtain z|z:=hG b P
   ·rw[Q];exact .inl (aJ _ z)
   ·exact .inr (r.fz z.1,λj hj=>(r.bM hj).no z.1,λw u Fp h1 h2=>r.Pa e h2 h1 z.1)
def zq(i:Nat)(qe:QE):QS:=λD q=>match q[i]? with
 |some (.o (.l xs))=>xs.length<ot/\qe q λt=>D.nx (q.set i (.o (.l (xs ++ [t]))))
 |_=>False
abbrev At(X:Cx)(p:Pos)(e:List EQ):Prop:=((backTo p (dO e X.env)).all (λx=>!x.1)&&(backToKw p (keywordEach [] X.env)).all (λx=>x.1.isSome)&&decide (e.length+([]:List Keyword).length+(if([]:List Keyword).isEmpty then 0 else 1)<30))=true
def pH(q:X.K=K)(ho:PE X o (cc i))(he:PE X e te)(z:‹attributeBase o "append" X.env (eval o X.env)=eval o X.env›)
  (g:‹At X a5 [e]›)
  (P:‹(apos.endLine==a5.line)=true›) (hs:‹AC X e []›) (Q:‹(backTo a5 (dO [] X.env)).any (·.1)=false›):
  PE X (.Call (.Attribute o "append" apos) [e] [] a5) (tBM K "list" k8 (cc i) (bH te fK)):=by
 subst q;exact ye PySem.F.plainAttrs_list PySem.F.slot_list_append PySem.F.type_list_append yf ho (bh he dC hs) z g P hs Q
def Dr(he:kM K te qe):ES K (mD (tBM K "list" k8 (cc i) (bH te fK))) (zq i qe):=λdl H₀ hs H σ q Dq D (F,r) Q E=>by
 unfold zq at Q
 split at Q
 ·rename_i xs ei;let(hz,Q):=Q;let(v,hv,rp):=r.g i _ _ ei U;let(o1,o2,o3):=r.o i _ ei;let(p,vs,G,U,V,h1,h2):=rp.r.lst;refine(_,hv,.inl (U,vs,SqL.of h1),he dl H σ q _ _ r.rd Q λw t F' H' e1 r1 f1 n1 ak=>?_)
  have pn:=rp.n p (by rw[V];exact di)
  refine(p,vs,w,U,U,e1.k p _ h1 pn (λ_ z=>nomatch z),by rw[h2.len];exact hz,?_)
  have hG:=λb P=>rp.n b (by rw[V];exact aJ _ P)
  have ah:=h2.eC (e1.tf r.d) (λ_ z=>z) λb P o eo=>e1.k b o eo (hG b P) (.of (h2.there b P) eo)
  refine E.nx _ σ _ (r.vK ei hv V e1 (ah.append (.cons r1.r .nil)) ?_ λb P=>?_) ak
  ·rw[qp];rw[V]at o1;refine x2.mpr ((xj.mp o1).2,n1,λx hx y hy au=>?_)
   subst au;exact gJ.no (h2.there x hx) (f1 x hy)
  ·obtain P|P:=mu.mp P
   ·exact .inl P
   ·rw[qp]at P;exact .inr (f1 b P,r1.n b P)
 ·exact Q.elim
def ik{gh:Pos}(ho:PE X o (cc i))(he:QPF X K e te qe)(z:‹X.K=K›)(P:‹attributeBase o "append" X.env (eval o X.env)=eval o X.env›)
  (q:‹At X a5 [e]›)
  (Q:‹(apos.endLine==a5.line)=true›) (hs:‹AC X e []›) (V:‹(backTo a5 (dO [] X.env)).any (·.1)=false›)
  (g:‹swapsWith (.Call (.Attribute o "append" apos) [e] [] a5) Y gh.line X.env=pure false›):
  QPS X K (.Expr (.Call (.Attribute o "append" apos) [e] [] a5) gh) (mD (tBM K "list" k8 (cc i) (bH te fK))) (zq i qe):=(jD (pH z ho he.h P q Q hs V) g,Dr he.s)
def zp(i:Nat)(qe:QE):QS:=λD q=>match q[i]? with
 |some (.o (.l xs))=>qe q λt=>match t with
  |.l ys=>xs.length+ys.length<=ot/\D.nx (q.set i (.o (.l (xs++ys))))
  |_=>False
 |_=>False
def Ec(q:X.K=K)(ho:PE X o (cc i))(he:PE X e te)(z:‹attributeBase o "extend" X.env (eval o X.env)=eval o X.env›)
  (g:‹At X a5 [e]›)
  (P:‹(apos.endLine==a5.line)=true›) (hs:‹AC X e []›) (Q:‹(backTo a5 (dO [] X.env)).any (·.1)=false›):
  PE X (.Call (.Attribute o "extend" apos) [e] [] a5) (tBM K "list" ve (cc i) (bH te fK)):=by
 subst q;exact ye PySem.F.plainAttrs_list PySem.F.slot_list_extend PySem.F.type_list_extend HQ ho (bh he dC hs) z g P hs Q
def Dp(he:kM K te qe):ES K (mD (tBM K "list" ve (cc i) (bH te fK))) (zp i qe):=λdl H₀ hs H σ q Dq D (F,r) V E=>by
 unfold zp at V
 split at V
 ·rename_i xs ei;let(v,hv,rp):=r.g i _ _ ei U;let(o1,o2,o3):=r.o i _ ei;let(p,vs,G,U,eF,h1,h2):=rp.r.lst;refine(_,hv,.inl (U,vs,SqL.of h1),he dl H σ q _ _ r.rd V λw t F' H' e1 r1 f1 n1 Q=>?_)
  split at Q
  ·let(p2,ws,G2,U,U,h3,h4):=r1.r.lst;have pn:=rp.n p (by rw[eF];exact di)
   refine(p,p2,vs,ws,U,U,e1.k p _ h1 pn (λ_ z=>nomatch z),h3,by rw[h2.len,h4.len];exact Q.1,?_)
   have hG:=λb P=>rp.n b (by rw[eF];exact aJ _ P)
   have ah:=h2.eC (e1.tf r.d) (λ_ z=>z) λb P o eo=>e1.k b o eo (hG b P) (.of (h2.there b P) eo)
   refine E.nx _ σ _ (r.vK ei hv eF e1 (ah.append h4) ?_ λb P=>?_) Q.2
   ·rw[eF]at o1;refine x2.mpr ((xj.mp o1).2,(xj.mp n1).2,λx hx y hy ak=>?_)
    subst ak;exact gJ.no (h2.there x hx) (f1 x (aJ _ hy))
   ·obtain P|P:=mu.mp P
    ·exact .inl P
    ·exact .inr (f1 b (aJ _ P),r1.n b (aJ _ P))
  ·exact Q.elim
 ·exact V.elim
def Hw{gh:Pos}(ho:PE X o (cc i))(he:QPF X K e te qe)(z:‹X.K=K›)(P:‹attributeBase o "extend" X.env (eval o X.env)=eval o X.env›)
  (q:‹At X a5 [e]›)
  (Q:‹(apos.endLine==a5.line)=true›) (hs:‹AC X e []›) (V:‹(backTo a5 (dO [] X.env)).any (·.1)=false›)
  (g:‹swapsWith (.Call (.Attribute o "extend" apos) [e] [] a5) Y gh.line X.env=pure false›):
  QPS X K (.Expr (.Call (.Attribute o "extend" apos) [e] [] a5) gh) (mD (tBM K "list" ve (cc i) (bH te fK))) (zp i qe):=(jD (Ec z ho he.h P q Q hs V) g,Dp he.s)
end
variable{qo:QE}{to:TE}
section
variable{X:Cx}{K:BT}{hs:List (V×T)}{σ:St}{F:Nat->List J}{a b e o c:EQ}{ta tb:TE}{qa qb:QE}{apos a5:Pos}
def ju{xs ys:List T}:T.ims (xs++ys)=(T.ims xs&&T.ims ys):=by
 induction xs with
 |nil=>rfl
 |cons x r g=>show(x.im&&T.ims (r++ys))=((x.im&&T.ims r)&&T.ims ys);rw[g,Bool.and_assoc]
def VI(i j:Nat)(qa qb:QE):QS:=λD q=>qa q λt=>t.im=O/\qb q λu=>u.im=O/\D.nx ((q.set i (.o t)).set j (.o u))
def Nq(ha:kN K ta qa)(hb:kN K tb qb):ES K (Rn i j (bH ta (bH tb fK))) (VI i j qa qb):=λdl H₀ hs H σ q Dq D (F,r) g E=>by
 refine ha dl H σ q _ _ r.rd g λv t F1 H1 Q r1 (m1,g)=>hb dl H1 σ q _ _ (r.rd.evo Q) g λw u F2 H2 e2 V P=>?_
 let(m2,g):=P;obtain rfl:=r1.r.im m1;obtain rfl:=V.r.im m2;refine(v,w,U,?_);let(F1,R1):=r.f9 (Q.trans e2) (r1.evo Q.d e2) (λ_ z=>nomatch z) mz
 exact E.nx _ _ _ (R1.f9 (.refl R1.d) V (λ_ z=>nomatch z) mz) g
def Yw:T->Option Str
 |.s x=>Z x
 |_=>Y
abbrev txs:List T->Option (List Str):=picks Yw
theorem aA.txs{vs:List V}{ts:List T}{F:List J}{bs:List Str}(h:aA K dl H vs ts F)(e:L2.txs ts=Z bs):vs=bs.map V.str :=
 h.picks (λv t F a h e=>by cases t <;> first|(cases e;exact h.str.1)|cases e) e
def cW(bs:List Str):txs (bs.map T.s)=Z bs:=by
 induction bs with
 |nil=>rfl
 |cons b r g=>show(txs (r.map T.s)).map (b :: ·)=_;rw[g];rfl
def VM(qo qe:QE):QE:=λq Q=>qo q λs=>match s with
 |.s sep=>qe q λt=>match t with
  |.l xs=>Ex4 (λys=>txs xs=Z ys) (λys=>(ys.map (·.length)).sum+ys.length*sep.length<=16777216) (λys=>(.s (Txt.join sep ys))) Q
  |_=>False
 |_=>False
def fM(ho:QPE X K o to qo)(he:QPE X K e te qe)(hK:‹X.K=K›)(eI:‹attributeBase o "join" X.env (eval o X.env)=eval o X.env›)
  (kb:‹At X a5 [e]›)
  (eD:‹(apos.endLine==a5.line)=true›) (hs:‹AC X e []›) (dg:‹(backTo a5 (dO [] X.env)).any (·.1)=false›):
  QPF X K (.Call (.Attribute o "join" apos) [e] [] a5) (tBM K "str" (rJoin K) to (bH te fK)) (VM qo qe):=(by
 subst hK;exact ye PySem.F.plainAttrs_str PySem.F.slot_str_join PySem.F.type_str_join F9 ho.h (bh he.h dC hs) eI kb eD hs dg,λdl H σ q Q R rd g k=>ho.s dl H σ q _ _ rd g λv t F H1 P r1 g=>by
  split at g
  ·let(U,_):=r1.r.str;refine(U,he.s dl H1 σ q _ _ (rd.evo P) g λw u F2 H2 e2 V g=>?_)
   split at g
   ·let(ys,hy,hz,g):=g;let(p,vs,G,U,eF,h1,h2):=V.r.lst;have ev:=h2.txs hy;subst ev;exact(_,p,ys,U,U,SqL.of h1,hz,k _ _ [] H2 (P.trans e2) (.c (.s _)) (λ_ z=>nomatch z) mz g)
   ·exact g.elim
  ·exact g.elim)
end
def Ac(vs ws:List V):Bool:=vs.length==ws.length&&(Ww vs.length).all λj=>match vs[j]?,ws[j]? with|some x,Z y=>eqV x y|_,_=>ϊ
variable{its:List B}
section
variable{X:Cx}{K:BT}
def Vals.at'{vs:List V}(r:Vals vs its)(h:j<its.toArray.size):∃v,vs[j]?=Z v/\RelV v its.toArray[j]:=by
 have hl:=r.length;have g:=by simpa using h
 have hv:j<vs.length:=by lia
 let(u,h1,h2):=r.get (i:=j) (x:=vs[j]) (by simp[hv])
 have:its[j]?=Z its[j]:=by simp[g]
 rw[this]at h1;cases h1;exact(vs[j],by simp[hv],by simpa using h2)
def vn{vs:List V}{v:V}(h:vs.all jG=O)(e:vs[j]?=Z v):jG v=true:=Av.mp h v (Au e)
inductive Vt(K:BT)(x:V)(y:V)(H:Hp)(Q:VK):Prop
 |mk(p q vs ws:_)(h1:x=.ref p)(h2:y=.ref q)(h3:((SqL K H p vs/\SqL K H q ws)\/(SqT K H p vs/\SqT K H q ws)))(h4:vs.all jG=O)(h5:ws.all jG=O)(h6:Q (.bl (Ac vs ws)) H)
def S0(hu:X.A.units+1<cLine):OpR X (compareOp .Eq) (Vt X.K):=by
 intro gd s σ H x y v u Q I rx ry h;let(p,q,vs,ws,U,U,hs,f1,f2,k):=h;cases rx;cases ry;obtain⟨h1,h2⟩|⟨h1,h2⟩:=hs
 ·let(its,z,p1,_):=I.list h1;let(gb,g,p2,_):=I.list h2;have l1:=z.length;have l2:=g.length;by_cases hl:its.length=gb.length
  ·refine SeqAt.eq_listAt (e:=λj=>match vs[j]?,ws[j]? with|some x,Z y=>eqV x y|_,_=>ϊ) p1.isList p2.isList (by simpa using hl) (by omega) (λj g1 g2=>?_) (.bl _,H,I,U,?_)
   ·let(a,V,ra):=z.at' g1;let(b,P,rb):=g.at' g2;simp only[V,P];exact wL ra rb (vn f1 V) (vn f2 P)
   ·have e:Ac vs ws=(Ww its.toArray.size).all λj=>match vs[j]?,ws[j]? with|some x,Z y=>eqV x y|_,_=>false:=by
     unfold Ac;rw[show(vs.length==ws.length)=O from by simp;lia,Y3,uZ,l1]
    rw[<- e];exact k
  ·refine SeqAt.eq_list_lengthsAt p1.isList p2.isList (by simpa using hl) (by omega) (.bl _,H,I,U,?_)
   have e:Ac vs ws=false:=by
    unfold Ac;rw[show(vs.length==ws.length)=ϊ from by simp;lia,aa2]
   rw[<- e];exact k
 ·let(its,z,p1,_):=I.tuple h1;let(gb,g,p2,_):=I.tuple h2;have l1:=z.length;have l2:=g.length;refine SeqAt.eq_tupleAt (e:=λj=>match vs[j]?,ws[j]? with|some x,Z y=>eqV x y|_,_=>ϊ) (p1) (p2) (by omega) (λj g1 g2=>?_) (.bl _,H,I,U,?_)
  ·let(a,V,ra):=z.at' g1;let(b,P,rb):=g.at' g2;simp only[V,P];exact wL ra rb (vn f1 V) (vn f2 P)
  ·have e:Ac vs ws=((Ww (min its.toArray.size gb.toArray.size)).all (λj=>match vs[j]?,ws[j]? with|some x,Z y=>eqV x y|_,_=>ϊ)&&its.toArray.size==gb.toArray.size):=by
    unfold Ac;rw[uZ,uZ,<- l1,<- l2,Bool.and_comm];by_cases hl:vs.length=ws.length
    ·rw[hl,Nat.min_self]
    ·rw[show(vs.length==ws.length)=ϊ from by simpa using hl,Zs,Zs]
   rw[<- e];exact k
def eqF(xs ys:List T):Bool:=Ac (xs.map T.v) (ys.map T.v)
def N6:Q2:=λt u Q=>match t,u with
 |.l xs,.l ys=>(fls xs&&fls ys)=O/\Q (.b (eqF xs ys))
 |.t xs,.t ys=>(fls xs&&fls ys)=O/\Q (.b (eqF xs ys))
 |t,u=>qEq t u Q
def RN(K:BT):R2:=λx y H Q=>rEq x y H Q\/Vt K x y H Q
def gG(g:X.A.units+1<cLine)(q:X.K=K):OpR X (compareOp .Eq) (RN K):=by subst q;exact Qg.or (S0 g)
def dW:gK K (RN K) N6:=by
 intro dl H x y t u F G Q R D V P g k;unfold N6 at g
 split at g
 ·let(p,vs,G1,U,U,h1,h2):=V.r.lst;let(p',q,G2,U,U,h3,h4):=P.r.lst;let(f,g):=g;rw[ti]at f;let(U,U):=h2.vs f.1;let(U,U):=h4.vs f.2;exact .inr (p,p',_,_,U,U,.inl (SqL.of h1,SqL.of h3),wC f.1,wC f.2,k _ _ [] H (.refl D) (.c (.b _)) (λ_ z=>nomatch z) mz g)
 ·let(p,vs,U,h1,h2):=V.r.tup;let(p',q,U,h3,h4):=P.r.tup;let(f,g):=g;rw[ti]at f;let(U,U):=h2.vs f.1;let(U,U):=h4.vs f.2;exact .inr (p,p',_,_,U,U,.inr (SqT.of h1,SqT.of h3),wC f.1,wC f.2,k _ _ [] H (.refl D) (.c (.b _)) (λ_ z=>nomatch z) mz g)
 ·exact .inl (RH dl H x y t u F G Q R D V P g k)
end
end L2
namespace PySem
open Sem (wp)
end PySem
namespace PySem
open Sem (wp)
namespace F
end F
end PySem
namespace PySem
open Sem (wp)
end PySem
namespace L2
open PySem PySem.Spec PyProof.Rows
variable{i:Nat}{j:Nat}{x:Str}{P:Db}{mg:Str->Option B}{base:Ev}{fd:Ch}{ps:List Str}
section
variable{X:Cx}{K:BT}{a b:EQ}{ta tb:TE}{qa qb:QE}{pos:Pos}
def RS{y:Str}{q pt:Pos}{kt k2 g}(hc:X.calm=O)(hN:X.N.Nodup)(hi:X.N[i]?=Z x)(V:X.N[j]?=Z y)(z:i≠j)
  (hx:BC X x) (Q:BC X y) (ha:QPE X K a ta qa) (P:QPE X K b tb qb)
  (hw:swappedStores [.Tuple [.Name x q,.Name y py] kt pt] (.Tuple [a,b] k2 g) X.env=pure (Z [x,y]))
  (hs:‹swapsWithSole [.Tuple [.Name x q,.Name y py] kt pt] (.Tuple [a,b] k2 g) pos.line X.env=pure false›)
  (h1:‹dO [a,b] X.env=(ϊ,eval a X.env)::dO [b] X.env›) (h2:‹AC X b []›):
  QPS X K (.Assign [.Tuple [.Name x q,.Name y py] kt pt] (.Tuple [a,b] k2 g) pos) (Rn i j (bH ta (bH tb fK))) (VI i j qa qb) :=
 (Sm hc hN hi V z hx Q (bh ha.h (bh P.h dC h2) h1) hw hs,Nq ha.s P.s)
def SI:PSp:=λts Q=>on2 ts λt u=>match t with
 |.gj=>match u with|.i m=>0<m/\m<18446744073709551616/\∀r,0<=r->r<m->Q (.i r)|_=>False
 |_=>False
theorem kc{w:Da}{K:BT}{k:Nat}{f:J}(F:aV P w K mg base CX0 k f fd ps JB):aV P w K mg base CX0 k f fd ps (spQ K SI):=by
 refine F.imp λvs H Q E h=>?_
 let(dl,ts,Fp,Qp,D,r,h,fin):=h
 replace h:=on2.inv h
 let(t,u,U,h):=h
 split at h
 ·split at h
  ·let(v,w',F1,F2,U,r1,r2):=r.two;let(a,l,U,hm,_):=r1.r.dea;let(U,_):=r2.r.int;refine(a,l,_,U,D _ hm,h.1,h.2.1,λr H' r0 ah D' q=>fin _ _ [] H' (λb o e n _=>q b o e (n _ hm).1 (n _ hm).2,λp hp=>?_,λb x e=>(x,Zi _,by
    let(s2,n2,l2,Q2):=D _ hm;exact q b _ e (dQ e Q2.hd (λz=>nomatch z)) (dQ e Q2.hl (λz=>nomatch z)))) (.c (.i _)) (λ_ z=>nomatch z) mz (h.2.2 r r0 ah))
   by_cases e:p=(a,l)
   ·rw[e];exact D'
   ·let(s1,n1,l1,Q1):=D p hp;let(s2,n2,l2,Q2):=D _ hm;let(s3,n3,l3,Q3):=D';have pa:p.1≠a:=λz=>by
     have z1:=Q1.hd;have z2:=Q2.hd;rw[z]at z1;rw[z1]at z2;have z3:=by injection (Option.some.inj z2)
     have z4:=congrArg (λkv=>pY kv (.inr "left")) z3
     exact e (Prod.ext z (V.ref.inj (Option.some.inj z4)))
    have pl:=dQ Q1.hd Q2.hl (λz=>nomatch z)
    have ak:=dQ Q1.hl Q2.hd (λz=>nomatch z)
    by_cases g:p.2=l
    ·exact(s1,n1,l3,q _ _ Q1.hd pa pl,by rw[g];exact Q3.hl,Q1.s0,Q1.s1,Q1.n0,Q3.l0)
    ·exact(s1,n1,l1,q _ _ Q1.hd pa pl,q _ _ Q1.hl ak g,Q1.s0,Q1.s1,Q1.n0,Q1.l0)
  ·exact h.elim
 ·exact h.elim
end
section
variable{K:BT}{e:EQ}
theorem aA.set{dl:Dl}{H:Hp}{w:V}{t:T}(hw:aI K dl H w t []):∀{vs:List V}{xs:List T}{F:List J}(j:Nat),aA K dl H vs xs F->F=[]->aA K dl H (vs.set j w) (xs.set j t) []
 |_,_,_,_,.nil,_=>.nil
 |_,_,_,0,.cons h r,e=>by
  let(q,g):=Z2.mp e;subst q g;exact .cons hw r
 |_,_,_,j+1,.cons h r,e=>by
  let(q,g):=Z2.mp e;subst q g;exact .cons h (aA.set hw j r U)
end
inductive vB(K:BT)(vs:List V)(H:Hp)(Q:VK)(_:XK):Prop
 |mk(a:J)(ns:List Int)(h1:vs=[.ref a])(h2:FzL K H a (ns.map V.int))(h3:ns.length<=63)(h4:∀H',Q (.bl O) H')
variable{H:Hp}{a:J}{xs:List V}
theorem W3{K:BT}(h:PL H)(g:SqL K H a xs):FzL K H a xs:=by
 obtain(z |⟨o,z⟩)|z:=g
 ·obtain e |⟨o,ys,e⟩:=h a
  ·rw[e]at z;cases z
  ·rw[e]at z;cases z
 ·exact .inl (o,z)
 ·exact .inr z
variable{H':Hp}
theorem FzL.same{K:BT}(h:FzL K H a xs)(s:pS H H'):FzL K H' a xs:=by
 obtain⟨o,z⟩|z:=h
 ·exact .inl (o,s _ _ z)
 ·exact .inr z
variable{qual:Str}{st:Fk}{N:List Str}{n:Nat}
theorem Fun.X7{w:Da}{K:BT}{f:J}{k:Nat}{s1:Fk}{rest:List Fk}(F:Fun K x qual st f fd)(S:aE N ["_law_script"] (av st))(hN:N.length=n+2)(g:cz st=s1::rest)
  (jv:∀(cdv:B)(A:Do)(outer:List Env)(s:ϋ)(H:Hp)(E:XK),bP k (A.deeper (envOfC qual (av st) s.heap.objs.size f cdv)) ->
   ∃t1 t qs,PS (pP CX0 P w K mg base N qual (av st) f cdv A outer s H E).nox s1 t1/\rV (pP CX0 P w K mg base N qual (av st) f cdv A outer s H E).nox K rest t qs /\
    (∀(a:J)(ns:List Int)(D:Ends),SqL K H a (ns.map V.int)->ns.length<=63->(∀(d l:J)(H':Hp),H d=Y->H l=Y->sg H' d l->pS H H'->D.nx ([Z (.ref a),Z (.ref d)]++xV n Y) H')->t1 D ([Z (.ref a),Y]++xV n Y) H) /\
    ∀ns:List Int,ns.length<=63->qs {nx:=λ_=>False,rt:=λt=>t=.b O} ([.r (.z ns),.r .gj]++xV n .no)):aV P w K mg base CX0 (k+1) f fd ["_law_script"] (vB K):=by
 refine F.ok S (λvs H Q E h=>?_) (λcdv A outer s H vs Q E hr h=>?_)
 ·let(a,ns,U,_):=h;rfl
 ·let(a,ns,U,hS,hlen,k):=h;let(t1,t,qs,h1,q,r1,hq):=jv cdv A outer s H E hr;rw[g];refine(_,dB h1 q.h,?_);have es:start N [V.ref a]=[Z (.ref a),Y]++xV n none:=by
   unfold start;rw[hN];rfl
  rw[es];refine r1 a ns _ hS.sq hlen λd l H' hd hl D1 sm=>?_
  have Dq:Dls [(d,l)] H':=λp hp=>by rw[aB.mp hp];exact D1
  have rp:Rps K [(d,l)] H' [.ref a,.ref d] [.z ns,.gj] ([]++([] ++ [])):=(.cons (.z (hS.same sm)) (.cons (.x (l:=l) (aB.mpr U)) .nil),λ_ z=>nomatch z)
  have R:=sJ (n:=n+2) Dq rp (by simp)
  refine q.s [(d,l)] H' [] H' _ _ _ _ R (hq ns hlen) (λ_ _ _ _ z=>z.elim,λ_ _ _ _ z=>z.elim,λ_ _ _ _ z=>z.elim,λv t F H2 _ r' _ _ _ hz=>?_,λ_ _ _ _ _ _ _ _ _ _ _ _ z=>z.elim)
  subst hz;let(U,_):=r'.r.bl;exact k H2
variable{elts:List EQ}{tp:Bool}
section
variable{X:Cx}{K:BT}
def rn(xs:List T):List T:=xs.zipIdx.map λp=>.t [.i (p.2:Nat),p.1]
def rj{xs:List T}{z:T}(h:(rn xs)[i]?=Z z):∃x,xs[i]?=Z x/\z=.t [.i (i:Nat),x]:=by
 unfold rn at h;rw[tW]at h;let(p,hp,U):=kg.mp h;rw[List.getElem?_zipIdx]at hp;let(x,hx,U):=kg.mp hp;exact(x,hx,by simp)
def kJ{xs:List T}:(rn xs).length=xs.length:=by simp[rn]
variable{a:EQ}{ta:TE}{pos p:Pos}
def vT{g}{ta:TA}(z:X.K=K)(hg:Gl X "enumerate")(hm:X.mg "enumerate"=Y)(q:bootBuiltins "enumerate"=Z (.type "enumerate"))(ha:PA X [a] ta)(hs:AD X a):
  PI X (.Tuple elts g pos') (.Call (.Name "enumerate" p) [a] [] pos) (B4 K tp ta):=by subst z;exact Ox hg hm q ha hs
end
variable{d:J}{l:J}
section
variable{a:EQ}
def sg.oth{a:J}{o:HO}(D:sg H d l)(h1:a≠d)(h2:a≠l):sg (upd H a o) d l:=by
 let(s,n,ls,Q):=D;exact(s,n,ls,by rw[ax h1.symm];exact Q.hd,by rw[ax h2.symm];exact Q.hl,Q.s0,Q.s1,Q.n0,Q.l0)
end
variable{C:J}{ns:List Str}
section
variable{K:BT}{dl:Dl}{v:V}{F:List J}
def aI.exc{ts:List T}(h:aI K dl H v (.xc C ns ts) F):∃a b vs,v=.ref a/\F=[]/\ExH H a C b (ns.zip vs)/\aA K dl H vs ts []:=h.inv
theorem aA.lookup{f:Str}:∀{ns:List Str}{vs:List V}{ts:List T}{F:List J}{u:T},aA K dl H vs ts F->(ns.zip ts).lookup f=Z u->∃w G,(ns.zip vs).lookup f=Z w/\aI K dl H w u G/\∀b∈G,b∈F
 |[],_,_,_,_,_,h=>by simp at h
 |_::_,_,_,_,_,.nil,h=>by simp at h
 |n::ns,_,_,_,u,.cons h1 r,h=>by
  rw[List.zip_cons_cons,xa]at h ⊢;cases e:(f==n)with
  |true =>
   rw[e]at h;cases h;exact(_,_,U,h1,λb g=>px _ g)
  |false =>
   rw[e]at h;let(w,G,a1,a2,q):=aA.lookup r h;exact(w,G,a1,a2,λb g=>lO _ (q b g))
end
def P8(K:BT)(fn:List Str)(f:Str)(qe:QE):QE:=λq Q=>qe q λt=>match t with
 |.xc C ns ts=>∃bm ini u,cv K fn C bm ini/\(ns.zip ts).lookup f=Z u/\Q u
 |_=>False
variable{dl:Dl}{o1:HO}{o2:HO}{u:B}
section
variable{X:Cx}{K:BT}{e:EQ}{te:TE}{qe:QE}{pos p p2:Pos}{f y:Str}{fn:List Str}{C':J}{bm bm':List B}{wu:Option J}{k:Nat}
def JL(hf:f∈fn)(fo:FOk f)(h:kN K te qe):kM K (Jw K fn te f) (P8 K fn f qe):=by
 intro dl H σ q Q R rd hq k;refine h dl H σ q _ _ rd hq λv t F H1 e1 r1 g=>?_
 split at g
 ·let(bm,ini,u,c,l,g):=g;let(a,b,vs,U,U,ex,rs):=r1.r.exc;let(w,G,l2,P,hG):=rs.lookup l;have V:G=[]:=ZA.mpr λb hb=>nomatch hG b hb
  subst V;exact(a,_,b,bm,ini,_,w,U,ex,c,hf,fo,l2,k w u [] H1 e1 (P,λ_ z=>nomatch z) (λ_ z=>nomatch z) mz g)
 ·exact g.elim
def FE(q:X.K=K)(hf:f∈fn)(fo:FOk f)(he:QPE X K e te qe)(g:‹attributeBase e f X.env (eval e X.env)=eval e X.env›):QPF X K (.Attribute e f pos) (Jw K fn te f) (P8 K fn f qe):=by
 subst q;exact(OA he.h g,JL hf fo he.s)
def L3(D:Dls dl H)(ha:H a=Y)(hd:H d=Y)(ne:d≠a):Evo dl H (upd (upd H d o1) a o2):=((Evo.refl D).new hd).new (by rw[ax (Ne.symm ne)];exact ha)
inductive NL(K:BT)(fn:List Str)(c:B)(xs:List V)(H:Hp)(Q:VK):Prop
 |mk(a C b fs bm ini r y:_)(h1:xs=[.ref a,y])(h2:RelV y c)(h3:ExH H a C b fs)(h4:cv K fn C bm ini)(h5:W.kitOne K (.ref C) c=Z r)(h6:Q (.bl r) H)
def jo(h:RelV (.ref a) u):u=.ref a:=h
def Cr{c:B}(hc:∀y u,RelV y u->RelV y c->u=c):de X (.builtin "isinstance") (NL X.K fn c):=by
 intro gd s σ H xs us Q I r h;let(a,C,b,fs,bm,ini,z,y,U,g,ex,cx,ek,q):=h;cases r with
 |cons h1 V =>
  cases V with
  |cons h2 P =>
   cases P
   cases(jo h1)
   cases hc _ _ h2 g;exact T2 I ex cx ek λtk=>(.bl z,H,I.tok tk,U,q)
def R6(K:BT)(fn:List Str)(c:B)(qe:QE):QE:=λq Q=>qe q λt=>match t with
 |.xc C _ _=>∃bm ini,cv K fn C bm ini/\Q (.b ((B.ref C::bm).contains c))
 |_=>False
theorem Fo{c:B}{y:V}(ry:RelV y c)(hk:∀C bm ini,cv K fn C bm ini->W.kitOne K (.ref C) c=Z ((B.ref C::bm).contains c))(h:kN K te qe):kM K (tCB (NL K fn c) (bH te (bH (tC y) fK))) (R6 K fn c qe):=by
 intro dl H σ q Q R rd hq k;refine h dl H σ q _ _ rd hq λv t F H1 e1 r1 g=>?_
 split at g
 ·let(bm,ini,P,g):=g;let(a,b,vs,U,U,ex,rs):=r1.r.exc;exact(a,_,b,_,bm,ini,_,y,U,ry,ex,P,hk _ bm ini P,k _ _ [] H1 e1 (.b _,λ_ z=>nomatch z) (λ_ z=>nomatch z) mz g)
 ·exact g.elim
def RY(V:X.K=K)(c':cv K fn C' bm' wu)(hg:Gl X "isinstance")(hm:X.mg "isinstance"=Y)(P:Gl X y)(q:X.mg y=Z (.ref C'))(h:QPE X K e te qe)(hd:autoParam (AS y) zdc._auto_1)
  (he:‹dO [e,.Name y p2] X.env=(ϊ,eval e X.env)::dO [.Name y p2] X.env›) (Q:‹dO [.Name y p2] X.env=(ϊ,eval (.Name y p2) X.env)::dO [] X.env›) (g:‹(backTo pos (dO [.Name y p2] X.env)).any (·.1)=false›):
  QPF X K (.Call (.Name "isinstance" p) [e,.Name y p2] [] pos) (tCB (NL K fn (.ref C')) (bH te (bH (tC (.ref C')) fK))) (R6 K fn (.ref C') qe):=by
 subst V;exact(kB (Cr λy u h1 h2=>by
  cases y with
  |ref b=>cases(jo h1);cases(jo h2);rfl
  |non=>cases(show B.ref C'=B.none from h2)
  |bl b=>cases(show B.ref C'=B.bool b from h2)
  |int i=>let(_,z):=(show ∃t,B.ref C'=B.int i t from h2);cases z
  |str i=>let(_,z):=(show ∃t,B.ref C'=B.str i t from h2);cases z
  |flt i=>let(_,z):=(show ∃t,B.ref C'=B.float i t from h2);cases z
  |ty n=>cases(show B.ref C'=B.type n from h2)
  |byt i=>(let(_,z):=h2;cases z)) hg hm U (bh h.h (bh (vV P q hd) dC Q) he) (by decide) (by decide) he g,Fo (y:=.ref C') U (λC bm ini c=>Gg c c') h.s)
theorem RZ{n:String}(hK:X.K=K)(hT:W.kitMeta n=O)(hg:Gl X "isinstance")(hm:X.mg "isinstance"=Y)(P:Gl X y)(q:X.mg y=Y)(hv:bootBuiltins y=Z (.type n))(h:QPE X K e te qe)(hn:autoParam (y ≠ "__name__") zdc._auto_1)(hd:autoParam (AS y) zdc._auto_1)
  (he:‹dO [e,.Name y p2] X.env=(ϊ,eval e X.env)::dO [.Name y p2] X.env›) (Q:‹dO [.Name y p2] X.env=(ϊ,eval (.Name y p2) X.env)::dO [] X.env›) (g:‹(backTo pos (dO [.Name y p2] X.env)).any (·.1)=false›):
  QPF X K (.Call (.Name "isinstance" p) [e,.Name y p2] [] pos) (tCB (NL K fn (.type n)) (bH te (bH (tC (.ty n)) fK))) (R6 K fn (.type n) qe):=by
 subst hK;exact(kB (Cr λy u h1 h2=>by
  cases y with
  |ref b=>cases(jo h2)
  |non=>cases(show B.type n=B.none from h2)
  |bl b=>cases(show B.type n=B.bool b from h2)
  |int i=>let(_,z):=(show ∃t,B.type n=B.int i t from h2);cases z
  |str i=>let(_,z):=(show ∃t,B.type n=B.str i t from h2);cases z
  |flt i=>let(_,z):=(show ∃t,B.type n=B.float i t from h2);cases z
  |byt i=>(let(_,z):=h2;cases z)
  |ty m =>
   have z1:u=B.type m:=h1;have V:B.type n=B.type m:=h2;rw[z1,V]) hg hm U (bh h.h (bh (FV P q hv U hn hd) dC Q) he) (by decide) (by decide) he g,Fo (y:=.ty n) U (λC bm ini c=>by
    rw[Lw c hT,Ax];rfl) h.s)
end
abbrev QW:=J->List Str->List T->Prop
abbrev QX:=Sq->(T->Prop)->QW->Prop
def Yz(K:PySem.W.Frag)(te:(St->XK)->TE)(qx:QX):Prop:=∀(dl:Dl)(H:Hp)(σ:St)(q:Sq)(Q:T->Prop)(W:QW)(R:V->Hp->Prop)(Es:St->XK),RdR K dl H σ q->qx q Q W ->
 (∀v t F H',Evo dl H H'->Rp K dl H' v t F->(∀b∈F,H b=Y)->F.Nodup->Q t->R v H')->(∀a C ns us H',Evo dl H H'->Rp K dl H' (.ref a) (.xc C ns us) []->W C ns us->Es σ (.ref C) (Z a) H')->te Es σ H R
structure QPX(X:Cx)(K:BT)(e:EQ)(te:(St->XK)->TE)(qx:QX):Prop where
 h:∀Es,hV (CX1 X.prog X.w) X Es->PE X e (te Es)
 s:Yz K te qx
abbrev QSX:=(Sq->QW)->QS
def XOk(K:PySem.W.Frag)(dl:Dl)(H₀:Hp)(hs:List (V×T))(W:Sq->QW)(Es:St->XK):Prop:=∀H σ q a C ns us,cJ K dl H₀ hs H σ q->Rp K dl H (.ref a) (.xc C ns us) []->W q C ns us->Es σ (.ref C) (Z a) H
def MH(K:PySem.W.Frag)(ts:(St->XK)->TS)(qs:QSX):Prop:=∀(dl:Dl)(H₀:Hp)(hs:List (V×T))(H:Hp)(σ:St)(q:Sq)(Dq:dP)(D:Ends)(W:Sq->QW)(Es:St->XK),cJ K dl H₀ hs H σ q->qs W Dq q->EY K dl H₀ hs Dq D->XOk K dl H₀ hs W Es->ts Es D σ H
structure ou(X:Cx)(K:BT)(st:Fk)(ts:(St->XK)->TS)(qs:QSX):Prop where
 h:∀Es,hV (CX1 X.prog X.w) X Es->rS X Es->PS X st (ts Es)
 s:MH K ts qs
structure kO(X:Cx)(K:BT)(st:List Fk)(ts:(St->XK)->TS)(qs:QSX):Prop where
 h:∀Es,hV (CX1 X.prog X.w) X Es->rS X Es->PSs X st (ts Es)
 s:MH K ts qs
variable{H₀:Hp}{q:Sq}{ini:Option J}
section
variable{X:Cx}{K:BT}{rest sa sb:List Fk}{e c:EQ}{es:List EQ}{pos p a5:Pos}{tx:(St->XK)->TE}{qx:QX}{tc:TT}{qc:QT}{t:TS}{qt:QS}{ts us:(St->XK)->TS}{qs qr:QSX}{tl:TA}{ql:QA}
def bc(h:QPS X K st t qt):ou X K st (λ_=>t) (λ_=>qt):=(λ_ _ _=>h.h,λdl H₀ hs H σ q Dq D _ _ r g E _=>h.s dl H₀ hs H σ q Dq D r g E)
def fL(h:rV X K rest t qt):kO X K rest (λ_=>t) (λ_=>qt):=(λ_ _ _=>h.h,λdl H₀ hs H σ q Dq D _ _ r g E _=>h.s dl H₀ hs H σ q Dq D r g E)
def aK(h:ou X K st ts qs):kO X K [st] ts qs:=(λEs a b=>jC (h.h Es a b),h.s)
def aq(h1:ou X K st ts qs)(h2:kO X K rest us qr):kO X K (st::rest) (λEs=>Rm (ts Es) (us Es)) (λW D q=>qs W {D with nx:=λq'=>qr W D q'} q) :=
 (λEs a b=>dB (h1.h Es a b) (h2.h Es a b),λdl H₀ hs H σ q Dq D W Es r z E x=>h1.s dl H₀ hs H σ q _ _ W Es r z (λH σ q r' g=>h2.s dl H₀ hs H σ q _ _ W Es r' g E x,E.bk,E.ct,E.rt,E.ru) x)
def gT(z:QPT X K c tc qc)(ha:kO X K sa ts qs)(P:kO X K sb us qr):ou X K (.If c sa sb pos) (λEs=>Ni tc (ts Es) (us Es)) (λW D q=>qc q λb=>if b=O then qs W D q else qr W D q) :=
 (λEs a b=>FK z.h (ha.h Es a b) (P.h Es a b),λdl H₀ hs H σ q Dq D W Es (F,r) V E x=>z.s dl H σ q _ _ r.rd V λb H' Q g=>by
  cases b with
  |true=>exact ha.s dl H₀ hs H' σ q Dq D W Es (F,r.evo Q) g E x
  |false=>exact P.s dl H₀ hs H' σ q Dq D W Es (F,r.evo Q) g E x)
def XOk.at{hs:List (V×T)}{W:Sq->QW}{Es:St->XK}{σ:St}{F:Nat->List J}(x:XOk K dl H₀ hs W Es)(r:Rel K dl H₀ hs H σ q F):∀a C ns us H',Evo dl H H'->Rp K dl H' (.ref a) (.xc C ns us) []->W q C ns us->Es σ (.ref C) (Z a) H' :=
 λa C ns us H' z g hw=>x H' σ q a C ns us (F,r.evo z) g hw
def Kb(he:QPX X K e tx qx)(hs:‹swapsWith e Y pos.line X.env=pure false›):ou X K (.Expr e pos) (λEs=>mD (tx Es)) (λW D q=>qx q (λ_=>D.nx q) (W q)) :=
 (λEs a _=>jD (he.h Es a) hs,λdl H₀ hs H σ q Dq D W Es (F,r) z E x=>he.s dl H σ q _ _ _ Es r.rd z (λv t F' H' P _ _ _ g=>E.nx H' σ q (F,r.evo P) g) (x.at r))
variable{fa:J}{fn fsN:List Str}{bm:List B}{k:Nat}
def Xz{o o':HO}:upd (upd H a o) a o'=upd H a o':=by
 funext b
 by_cases h:b=a
 ·rw[h,aC,aC]
 ·rw[ax h,ax h,ax h]
def Dm(M:cv K fn C bm ini)(h:An K n tl ql):MH K (λEs=>Dg K fn Es (Di C fsN tl)) (λW _ q=>ql q λts=>T.ims ts=O/\ts.length=fsN.length/\ts.length<=1000/\W q C fsN ts):=by
 intro dl H₀ hs H σ q Dq D W Es ⟨F,r⟩ hq E x;refine h dl H σ q _ _ r.rd hq λvs ts F1 H1 P g _ hz=>?_
 let(z1,z2,V,Q):=hz;have f:=g.r.im z1;subst f;have hl:=g.r.len;refine(hl.trans z2,by rw[hl];exact V,λa d ha hd ne=>(a,C,bm,ini,Z d,U,M,aC,?_))
 rw[Xz];have ev:=L3 (o1:=.ext (XD d (fsN.zip vs))) (o2:=.ext (XAt a C (Z d) ϊ)) P.d ha hd ne;have r2:=g.evo P.d ev;exact x.at r a C fsN ts _ (P.trans ev) (.e (.inr (d,ne,aC,by rw[ax ne,aC])) r2.r,λ_ z=>nomatch z) Q
theorem je(hK:X.K=K)(Q:X.calm=O)(M:cv K fn C bm (Z fa))(z:W.isFn K (.ref fa)=O)(kp:W.keepIn K (.ref C)=O)(F:aV X.prog X.w X.K X.mg X.base CX0 k fa fd ps (AX C fsN))(hr:bP (k+1) X.A)(hg:Gl X x)(hm:X.mg x=Z (.ref C))(V:Binds X.K fd ps [])
  (ha:QPA X K (e::es) tl ql) (P:autoParam (AS x) zdc._auto_1) (he:‹AC X e es›) (g:‹AM X a5 es›):
  ou X K (.Raise (Z (.Call (.Name x p) (e::es) [] a5)) Y pos) (λEs=>Dg K fn Es (Di C fsN tl)) (λW _ q=>ql q λts=>T.ims ts=O/\ts.length=fsN.length/\ts.length<=1000/\W q C fsN ts):=by
 subst hK;exact(λEs _ b=>KH Q b (K4 M z kp F hr hg hm V ha.h P he g),Dm M ha.s)
end
abbrev Ja:=List T->(T->Prop)->QW->Prop
inductive AW(K:BT)(ps:Ja)(vs:List V)(H:Hp)(Q:VK)(E:XK):Prop
 |mk(dl:Dl)(ts:List T)(F:List J)(Qp:T->Prop)(Wp:QW)(h1:Dls dl H)(h2:Rps K dl H vs ts F)(h3:ps ts Qp Wp)(h4:(∀v t F' H',Evo dl H H'->Rp K dl H' v t F'->(∀b∈F',H b=Y)->F'.Nodup->Qp t->Q v H'))(h5:∀a C ns us H',Evo dl H H'->Rp K dl H' (.ref a) (.xc C ns us) []->Wp C ns us->E (.ref C) (Z a) H')
section
variable{X:Cx}{K:BT}{e:EQ}{es:List EQ}{tl:TA}{ql:QA}{pos p:Pos}{k:Nat}{f:J}{prs:List Str}{ps:Ja}
theorem NO(F:aV X.prog X.w X.K X.mg X.base (CX1 X.prog X.w) k f fd prs (AW K ps))(hr:bP k X.A)(hg:Gl X x)(hm:X.mg x=Z (.ref f))(hk:W.keepIn X.K (.ref f)=O)(hb:Binds X.K fd prs [])(ha:QPA X K (e::es) tl ql)
  (V:autoParam (AS x) zdc._auto_1) (he:‹AC X e es›) (P:‹AM X pos es›):
  QPX X K (.Call (.Name x p) (e::es) [] pos) (λEs=>sv (AW K ps) Es tl) (λq Q W=>ql q λts=>ps ts Q W) :=
 (λEs a=>qP F hr hg hm hk hb a ha.h V he P,λdl H σ q Q W R Es rd hq k1 k2=>ha.s dl H σ q _ _ rd hq λvs ts F H1 g r1 _ z =>
  (dl,ts,F,Q,W,g.d,r1,z,λv t F' H' e r f n z=>k1 v t F' H' (g.trans e) r (λb hb=>g.free (f b hb)) n z,λa C ns us H' e r hw=>k2 a C ns us H' (g.trans e) r hw))
end
theorem Fun.V8{w:Da}{K:PySem.W.Frag}{f:J}{k:Nat}{g:Ja}(F:Fun K x qual st f fd)(S:aE N ps (av st))(len:∀ts Q W,g ts Q W->ts.length=ps.length)
  (jv:∀(cdv:B)(A:Do)(outer:List Env)(s:ϋ)(H:Hp)(E:XK),bP k (A.deeper (envOfC qual (av st) s.heap.objs.size f cdv)) ->
   ∃t qs,kO (pP (CX1 P w) P w K mg base N qual (av st) f cdv A outer s H E) K (cz st) t qs/\∀ts Q W,g ts Q W->qs (λ_=>W) {nx:=λ_=>Q .n,rt:=Q} (ts.map Sl.r++xV (N.length - ts.length) .no)):aV P w K mg base (CX1 P w) (k+1) f fd ps (AW K g):=by
 have ah:ps.length<=N.length:=by have:=congrArg YH S.pre;rw[xU]at this;omega
 refine F.okX S (λvs H Q E h=>?_) (λcdv A outer s H vs Q E hr h=>?_)
 ·let(dl,ts,F,Qp,Wp,_,r,h,_):=h;rw[r.r.len];exact len ts Qp Wp h
 ·let(dl,ts,Fp,Qp,Wp,D,r,h,fin,fix):=h;let(t,qs,hb,hq):=jv cdv A outer s H E hr;refine(t λ_=>E,hb.h _ vW vL,?_)
  have hlen:=len ts Qp Wp h;have hl:=r.r.len;have z:=hq ts Qp Wp h;have R:=sJ (n:=N.length) D r (by omega)
  rw[<- hl]at z;refine hb.s dl H [] H _ _ _ _ _ _ R z (λH' σ q (F,r') V=>?_,λ_ _ _ _ V=>V.elim,λ_ _ _ _ V=>V.elim,λv t F H' D' r' f' n' fr V=>?_,λ_ _ _ _ _ _ _ _ _ _ _ _ z=>z.elim) λH' σ q a C ns us (F,r') rp hw=>?_
  ·exact fin .non .n [] H' (r'.f.evo r'.d) (.n,λ_ z=>nomatch z) (λ_ z=>nomatch z) mz V
  ·exact fin v t F H' (fr.evo D') r' f' n' V
  ·exact fix a C ns us H' (r'.f.evo r'.d) rp hw
abbrev QH:=J->List Str->List T->QS
def YC(K:BT)(th:TH)(qh:QH):Prop:=∀(dl:Dl)(H₀:Hp)(hs:List (V×T))(H:Hp)(σ:St)(q:Sq)(Dq:dP)(D:Ends)(a C:J)(ns:List Str)(us:List T),cJ K dl H₀ hs H σ q->Rp K dl H (.ref a) (.xc C ns us) []->qh C ns us Dq q->EY K dl H₀ hs Dq D->th a C D σ H
structure QPH(X:Cx)(K:BT)(hs:List ExceptHandler)(th:TH)(qh:QH):Prop where
 h:PH X hs th
 s:YC K th qh
def dP.go(D:dP)(i:Nat):dP:={nx:=λq=>D.nx (q.set i .no),rt:=D.rt,bk:=λq=>D.bk (q.set i .no),ct:=λq=>D.ct (q.set i .no),ru:=λq t=>D.ru (q.set i .no) t}
theorem Rel.Mv{K:BT}{hs:List (V×T)}{σ:St}{F:Nat->List J}(r:Rel K dl H₀ hs H σ q F)(i:Nat):Rel K dl H₀ hs H (σ.set i Y) (q.set i .no) (A2 F i []):=by
 refine(r.d,λj x t h1 h2=>?_,λj x h1 h2=>?_,λj P=>?_,λj u h1=>?_,λp hp=>?_,r.f,by simp[r.l])
 ·obtain⟨rfl,rfl,_⟩|⟨ne,h1⟩:=get_set h1
  ·cases h2
  ·let(w,h3,h4):=r.g j x t h1 h2;exact(w,by rw[ui (λz=>ne z.symm)];exact h3,by rw[bg ne];exact h4)
 ·obtain⟨rfl,rfl,_⟩|⟨ne,h1⟩:=get_set h1
  ·rw[bI]
  ·rw[bg ne];exact r.n j x h1 h2
 ·by_cases ej:j=i
  ·rw[ej,bI]
  ·rw[bg ej];rw[Az]at P;exact r.z j P
 ·obtain⟨rfl,e,_⟩|⟨ne,h1⟩:=get_set h1
  ·cases e
  ·rw[bg ne];let(o1,o2,o3):=r.o j u h1;refine(o1,o2,λk hk b Q=>?_)
   by_cases ek:k=i
   ·rw[ek,bI];exact λz=>nomatch z
   ·rw[bg ek];exact o3 k hk b Q
 ·let(Fp,h1,h2):=r.h p hp;refine(Fp,h1,λj u P b Q z=>?_)
  obtain⟨rfl,e,_⟩|⟨ne,P⟩:=get_set P
  ·cases e
  ·rw[bg ne]at Q;exact h2 j u P b Q z
theorem cJ.clear{K:BT}{hs:List (V×T)}{σ:St}(r:cJ K dl H₀ hs H σ q)(i:Nat):cJ K dl H₀ hs H (σ.set i Y) (q.set i .no):=r.elim λ_ r=>(_,r.Mv i)
variable{hs:List ExceptHandler}{body:List Fk}
section
variable{X:Cx}{K:BT}{fn:List Str}{C':J}{bm':List B}{wu:Option J}{n:Str}{p pos:Pos}{b0:Fk}{p7:List Fk}{rest:List ExceptHandler}{ts:TS}{qs:QS}{tr:TH}{qr:QH}
def NW:QH:=λ_ _ _ _ _=>False
def Kk:QPH X K hs LO NW:=(KZ,λ_ _ _ _ _ _ _ _ _ _ _ _ _ _ h _=>h.elim)
def VB(K:BT)(fn:List Str)(C':J)(qs:QS)(qr:QH):QH:=λC ns us D q=>∃bm ini,cv K fn C bm ini/\if(B.ref C::bm).contains (.ref C')=O then qs D q else qr C ns us D q
def VC(K:BT)(fn:List Str)(C':J)(i:Nat)(qs:QS)(qr:QH):QH:=λC ns us D q=>∃bm ini,cv K fn C bm ini/\if(B.ref C::bm).contains (.ref C')=O then qs (D.go i) (q.set i (.r (.xc C ns us)))else qr C ns us D q
def RW(hK:X.K=K)(hg:Gl X x)(hm:X.mg x=Z (.ref C'))(c':cv K fn C' bm' wu)(P:∀a,rV (X.inX a) K (b0::p7) ts qs)(hr:QPH X K rest tr qr)(Q:autoParam (AS x) zdc._auto_1):
  QPH X K (.ExceptHandler (Z (.Name x p)) Y (b0::p7) pos::rest) (W0 K fn C' ts tr) (VB K fn C' qs qr):=by
 subst hK;refine(SS hg hm c' (λa=>(P a).h) hr.h Q,λdl H₀ hs H σ q Dq D a C ns us r V g E=>?_)
 let(bm,ini,c,g):=g;refine(bm,ini,c,λz=>?_,λz=>?_)
 ·rw[if_pos z]at g;exact(P a).s dl H₀ hs H σ q Dq D r g E
 ·rw[if_neg (by rw[z];decide)]at g;exact hr.s dl H₀ hs H σ q Dq D a C ns us r V g E
def VA(hK:X.K=K)(hN:X.N.Nodup)(hi:X.N[i]?=Z n)(hk:BC X n)(hg:Gl X x)(hm:X.mg x=Z (.ref C'))(c':cv K fn C' bm' wu)(P:∀a,rV (X.inX a) K (b0::p7) ts qs)(hr:QPH X K rest tr qr)(V:autoParam (AS x) zdc._auto_1):
  QPH X K (.ExceptHandler (Z (.Name x p)) (Z n) (b0::p7) pos::rest) (hAs K fn C' i ts tr) (VC K fn C' i qs qr):=by
 subst hK;refine(V2 hN hi hk hg hm c' (λa=>(P a).h) hr.h V,λdl H₀ hs H σ q Dq D a C ns us r rp g E=>?_)
 let(bm,ini,c,g):=g;refine(bm,ini,c,λz=>?_,λz=>?_)
 ·rw[if_pos z]at g;have r2:cJ X.K dl H₀ hs H (σ.set i (Z (.ref a))) (q.set i (.r (.xc C ns us))):=by
   let(F,r):=r;by_cases Q:i<q.length
   ·exact(_,r.Si Q rp λ_ _ _ _ _ _ z=>nomatch z)
   ·have hl:=r.l;rw[Y2 (by omega),Y2 (by omega)]
    exact(F,r)
  exact(P a).s dl H₀ hs H _ _ (Dq.go i) (D.go i) r2 g (λH σ q r h=>E.nx H _ _ (r.clear i) h,λH σ q r h=>E.bk H _ _ (r.clear i) h,λH σ q r h=>E.ct H _ _ (r.clear i) h,E.rt,λH σ q F0 v t F r h1 h2 h3 h4 h=>E.ru H _ _ _ v t F (r.Mv i) h1 h2 h3 (λj b hb z=>by unfold A2 at z;split at z;cases z;exact h4 j b hb z) h)
 ·rw[if_neg (by rw[z];decide)]at g;exact hr.s dl H₀ hs H σ q Dq D a C ns us r rp g E
def RQ{h0:ExceptHandler}{th:TH}{qh:QH}{tb:(St->XK)->TS}{qb:QSX}(P:∀pn xe,kO (X.uK pn xe) K body tb qb)(z:QPH X K (h0::hs) th qh)(g:‹X.stack=X.env::X.outer›)(hf:‹X.env.frame=Z X.env.locals›):
  QPS X K (.Try body (h0::hs) [] [] pos) (U7 th tb) (λD q=>qb (λq' C ns us=>qh C ns us D q') D q) :=
 (Sk g hf (λEs pn xe a b=>(P pn xe).h Es a b) z.h,λdl H₀ hs H σ q Dq D r V E=>(P [] λ_ _=>False).s dl H₀ hs H σ q Dq D _ _ r V E λH σ q a C ns us r Q hw=>(a,C,U,U,z.s dl H₀ hs H σ q Dq D a C ns us r Q hw E))
end
section
variable{X:Cx}{K:BT}{a b:EQ}{ta tb:TE}{qa qb:QE}{pos:Pos}
def XS(qa qb:QE):QE:=λq Q=>qa q λt=>qb q λu=>match t,u with
 |.l xs,.i k=>Ex2 (λx=>atI xs k=Z x) Q
 |_,_=>False
def fB(ha:QPF X K a ta qa)(hb:QPE X K b tb qb)(hs:rW b:=by intro _ _;rfl)(hK:‹X.K=K›):QPF X K (.Subscript a b pos) (tOp (rIx K) ta tb) (XS qa qb):=by
 refine(by subst hK;exact FT zT ha.h hb.h hs,λdl H σ q Q R rd hq k=>(ha.s dl H σ q _ _ rd hq λv t F H1 e1 P f1 n1 V=>(hb.s dl H1 σ q _ _ (rd.evo e1) V λw u G H2 e2 r2 g=>?_)))
 have P:=P.evo e1.d e2
 split at g
 ·let(U,U):=r2.r.int;let(p,vs,G,U,U,h1,h2):=P.r.lst;let(z,hz,hq):=g;let(j,hj,hi):=rP hz h2.len.symm;let(v,G',hv,rv,hs):=h2.Ul hj;have sub:∀c∈G',c∈p::G:=λc hc=>aJ _ (hs.subset hc)
  exact .inl (p,vs,_,v,U,U,SqL.of h1,pQ hi hv,k v z G' H2 (e1.trans e2) (Rp.sub rv P.n sub) (λc hc=>f1 c (sub c hc)) ((xj.mp n1).2.sublist hs) hq)
 ·exact g.elim
def L5{xs:List T}(h:∀x∈xs,eqV x.v x.v=O):eqF xs xs=true:=by
 unfold eqF Ac;simp only[beq_self_eq_true,Y3,Av,ZN,gV];intro i hi;simp only[tW,rY hi,Option.map_some];exact h _ (Zy hi)
end
def chT(z:Str):List T:=z.cps.toList.map λc=>.s ⟨#[c]⟩
def asS(qe:QE):QI:=λq Q=>qe q λt=>match t with|.s z=>Q (chT z)|_=>False
variable{A:Do}
section
variable{K:BT}
def TX{z:Str}:As K dl (Its z) (chT z) [] where
 go:=λH i D h hi=>by
  show i<z.cps.size;simpa [chT]using hi
 yld:=λH i x fp v H' D h hx y=>by
  let(U,c,g,U):=y;unfold chT at hx;rw[tW,Zw,g]at hx;cases hx;exact(.refl D,[],(.s _,λ_ z=>nomatch z),λ_ z=>nomatch z)
 stop:=λH D h=>by
  show(chT z).length=z.cps.size;simp[chT]
def ku{vs:List V}{ts:List T}{F:List J}(h:aA K dl H vs ts F){v:V}(hv:vs[j]?=Z v):∃t G,ts[j]?=Z t/\aI K dl H v t G:=by
 have hl:=h.len;have g:j<ts.length:=by rw[<- hl];exact(kf.mp hv).1
 let(w,G,hw,r,_):=h.get (show ts[j]?=Z ts[j]from by simp[g])
 rw[hv]at hw;cases hw;exact(_,G,by simp[g],r)
def WE{k:Nat}(hr:bP k A):A.units+150<cLine:=by have:=hr.un;lia
end
section
variable{a b e o:EQ}
def Evo.fresh{a:J}{o:HO}(e:Evo dl H H')(ha:H a=Y)(nd:Nd dl a):Evo dl H (upd H' a o) :=
 (λb u h n r=>by rw[ax (aZ h ha)];exact e.k b u h n r,λp hp=>(e.d p hp).oth (nd p hp).1 (nd p hp).2,λb x h=>let(y,g,q):=e.r b x h;(y,g,by rw[ax (aZ h ha)];exact q))
end
section
variable{X:Cx}{K:BT}{e:EQ}{es:List EQ}{te:TE}{tl:TA}{qe:QE}{ql:QA}{k:Nat}
structure PK(X:Cx)(K:BT)(es:List EQ)(tl:TA)(i j:Nat)(ql:QA):Prop where
 h:PA X es tl
 s:∀(dl:Dl)(H:Hp)(σ:St)(q:Sq)(v0:V)(Q:List T->Prop)(R:List V->Hp->Prop),RdR K dl H σ q->σ[i]?=Z (Z v0)->ql q Q ->
  (∀vs ts H',Evo dl H H'->vs.length=ts.length->vs[j]?=Z v0->(∀n v t,n≠j->vs[n]?=Z v->ts[n]?=Z t->Rp K dl H' v t [])->Q ts->R vs H')->tl σ H R
def aA.im1{vs:List V}{ts:List T}{F:List J}(h:aA K dl H vs ts F)(g:T.ims ts=O):∀(n:Nat)(v:V)(t:T),vs[n]?=Z v->ts[n]?=Z t->aI K dl H v t []:=by
 obtain rfl:=h.im g;intro n v t h1 h2;let(z,G,q,r,s):=h.Ul h2;rw[h1]at q;cases q;rw[Zz.mp s]at r;exact r
def qD(hx:PE X e (cc i))(hr:QPA X K es tl ql)(hs:‹AC X e es›):PK X K (e::es) (bH (cc i) tl) i 0 (λq Q=>ql q λts=>T.ims ts=O/\Q (.n::ts)) :=
 (bh hx hr.h hs,λdl H σ q v0 Q R rd hv V k=>(v0,hv,hr.s dl H σ q _ _ rd V λvs ts F H1 e1 g l1 P=>k _ (.n::ts) H1 e1 (by simp[g.r.len]) U (λn v t ne h1 h2=>by
  cases n with
  |zero=>exact absurd U ne
  |succ n=>exact(g.r.im1 P.1 n v t (by simpa using h1) (by simpa using h2),λ_ z=>nomatch z)) P.2))
def iD(he:QPE X K e te qe)(hr:PK X K es tl i j ql)(hs:‹AC X e es›):PK X K (e::es) (bH te tl) i (j+1) (λq Q=>qe q λt=>t.im=O/\ql q λts=>Q (t::ts)) :=
 (bh he.h hr.h hs,λdl H σ q v0 Q R rd hv hq k=>he.s dl H σ q _ _ rd hq λv t F H1 g P V=>hr.s dl H1 σ q v0 _ _ (rd.evo g) hv V.2 λvs ts H2 e2 l2 hj ho z=>by
  have r2:=P.evo g.d e2;obtain rfl:=P.r.im V.1;exact k (v::vs) (t::ts) H2 (g.trans e2) (by simp[l2]) (by simpa using hj) (λn w u ne h1 h2=>by
   cases n with
   |zero=>simp at h1 h2;subst h1 h2;exact r2
   |succ n=>exact ho n w u (λz=>ne (by rw[z])) (by simpa using h1) (by simpa using h2)) z)
end
section
variable{X:Cx}{K:BT}
def qZ{xs:List T}:As K dl (Ite K ϊ a) (rn xs) [(.ref a,.l xs)] where
 go:=λH i D h hi=>by
  let(F,r):=h (.ref a,.l xs) (by simp)
  let(p,vs,G,e,_,h1,h2):=r.r.lst;cases e;rw[kJ]at hi;have l1:i<vs.length:=by rw[h2.len];omega
  exact(vs,vs[i],SqL.of h1,by simp[l1])
 yld:=λH i x fp v H' D h hx y=>by
  have r:=h (.ref a,.l xs) (by simp)
  let(p,vs,G,e,eF,h1,h2):=r.r.lst;cases e;let(x1,V,U):=rj hx;let(w1,G1,ah,Q,ak):=h2.get V;let(q,u1,hq,U,U,P):=y;have e1:=P vs (SqL.of h1);rw[ah]at e1;cases e1;have sub:∀b∈G1,b∈fp (.ref a,.l xs):=λb g=>by rw[eF];exact aJ _ (ak b g)
  have rs:Rps K dl H [.int (i),w1] [.i (i),x1] ([]++(G1 ++ [])):=Rps.cons (.i _,λ_ z=>nomatch z) (Rps.cons (Q,λb g=>r.n b (sub b g)) (.nil,λ_ z=>nomatch z))
  refine((Evo.refl D).new hq,_,rs.tup D hq,λc g=>.inr ?_)
  rw[qp]at g;exact(_,by simp,sub c g)
 stop:=λH D h=>by
  let(F,r):=h (.ref a,.l xs) (by simp)
  let(p,vs,G,e,_,h1,h2):=r.r.lst;cases e;exact(vs,SqL.of h1,by rw[kJ,h2.len];exact oa _)
def QZ(i:Nat):QJ:=λq Q=>match q[i]? with
 |some (.o (.l xs))=>Q (rn xs) (q.set i (.r (.l xs)))
 |some (.r (.l xs))=>Q (rn xs) q
 |_=>False
def Kh{a:EQ}{x1}(hg:Gl X "enumerate")(hm:X.mg "enumerate"=Y)(wA:bootBuiltins "enumerate"=Z (.type "enumerate"))(h:PE X a (cc i))(hs:‹AD X a›)(ah:‹AC X a []›)(hK:‹X.K=K›):
  QPJ X K (.Tuple elts x1 pos') (.Call (.Name "enumerate" p) [a] [] pos) (B4 K ϊ (bH (cc i) fK)) (QZ i):=(vT hK hg hm wA (bh h dC ah) hs,λdl H₀ hs H σ q Q R (F0,V) hq k=>by
 unfold QZ at hq
 split at hq
 ·rename_i xs e1;let(v,hv,r):=V.g i _ _ e1 U;have r1:=(V.down e1).hold r λj u P b hb=>by
   obtain⟨_,z,_⟩|⟨ne,P⟩:=get_set P
   ·cases z
   ·exact(V.o j u P).2.2 i (λz=>ne z.symm) b hb
  let(p,vs,G,U,_,h1,h2):=r.r.lst;exact(_,hv,p,U,(vs,SqL.of h1),k _ _ _ H _ (F0,r1) qZ hq)
 ·rename_i xs e1;let(v,hv,r):=V.g i _ _ e1 U;have r1:=V.hold r λj u P b hb=>(V.o j u P).2.2 i (λz=>by subst z;rw[e1]at P;cases P) b hb
  let(p,vs,G,U,_,h1,h2):=r.r.lst;exact(_,hv,p,U,(vs,SqL.of h1),k _ _ _ H _ (F0,r1) qZ hq)
 ·exact hq.elim)
end
variable{tg:EQ}{iter:EQ}{wi:TI}
section
variable{X:Cx}{K:BT}{rest:List Fk}{e c:EQ}{pos p:Pos}{tc:TT}{qc:QT}{ts:(St->XK)->TS}{qs:QSX}
def XOk.holds{hs hv:List (V×T)}{W:Sq->QW}{Es:St->XK}(x:XOk K dl H₀ hs W Es):XOk K dl H₀ (hv++hs) W Es:=λH σ q a C ns us (F,r) g hw=>x H σ q a C ns us (F,r.jy) g hw
def zg{iq:QJ}{g:Tg}(hp:ZY (model X.prog X.w) X.A X.env X.xe)(hc:X.calm=O)(hi:QPJ X K tg iter wi iq)(hg:PG X tg (g.h K))(hb:kO X K body ts qs)
  (hs:∀x,foldedSetIterable iter X.env x=pure x:=by intro _;rfl):ou X K (.For tg iter body [] pos) (λEs=>Rt wi (g.h K) (ts Es)) (λW=>VR iq g (qs W)):=(λEs a b=>DQ hp hc hi.h hg (hb.h Es a b) hs,λdl H₀ hs H σ q Dq D W Es r hq E x=>by
 refine hi.s dl H₀ hs H σ q _ _ r hq λxs ύ hv H1 q1 r1 it hz=>?_
 let(I,i0,turn,fin):=hz;refine(λi m σ H=>m=xs.length - i/\i<=xs.length/\∃q,cJ K dl H₀ (hv++hs) H σ q/\I i q,(xs.length,by simp,Je _,q1,r1,i0),?_)
 rintro i m σ H ⟨rfl,au,q,⟨F,r⟩,hI⟩
 have held:∀p∈hv,∃F,Rp K dl H p.1 p.2 F:=λp hp=>let(Fp,h,_):=r.h p (px _ hp);(Fp,h)
 by_cases P:i<xs.length
 ·refine .inr (it.go H i r.d held P,λQ H'=>∃q,cJ K dl H₀ (hv++hs) H' Q q/\I (i+1) q,λQ H' h=>(xs.length - (i+1),by omega,U,P,h),λv H' y=>?_)
  let(fp,V):=r.fps;have hx:xs[i]?=Z xs[i]:=by simp[P]
  let(e1,G,rx,hG):=it.yld H i xs[i] fp v H' r.d (λp hp=>(V p hp).1) hx y
  let(q',ak,hz):=turn i xs[i] q hx hI;refine J1 (r.evo e1) rx (λj u hj b hb z=>?_) ak λah r2=>hb.s dl H₀ (hv++hs) H' ah q' _ _ W Es r2 hz (λH σ q r n=>(q,r,n),λH σ q (F,r) n=>E.nx H σ q (F,r.jy) n,λH σ q r n=>(q,r,n),E.rt,λH σ q F0 v t F r=>E.ru H σ q F0 v t F r.jy) x.holds
  obtain h |⟨p,hp,h⟩:=hG b z
  ·exact(r.bM hb).no h
  ·exact(V p hp).2 j u hj b hb h
 ·have e:i=xs.length:=by omega
  subst e;exact .inl (it.stop H r.d held,E.nx H σ q (F,r.jy) (fin q hI)))
def jd(hp:ZY (model X.prog X.w) X.A X.env X.xe)(P:QPT X K c tc qc)(Q:kO X K rest ts qs):ou X K (.While c rest [] pos) (λEs=>y4 tc (ts Es)) (λW=>Kr qc (qs W)):=(λEs a b=>vO hp P.h (Q.h Es a b),λdl H₀ hs H σ q Dq D V Es r hq E x=>by
 let(W,(m0,w0),turn):=hq;refine(λm σ H=>∃q,cJ K dl H₀ hs H σ q/\W m q,(m0,q,r,w0),?_)
 rintro m σ H ⟨q,⟨F,r⟩,w⟩
 refine P.s dl H σ q _ _ r.rd (turn m q w) λb H1 e1 z=>?_
 cases b with
 |false=>exact E.nx H1 σ q (F,r.evo e1) z
 |true =>
  let(N,hN,z):=z;refine(λg H'=>∃q',cJ K dl H₀ hs H' g q'/\N q',λg H' (q',r',n')=>?_,?_)
  ·let(m',hm,w'):=hN q' n';exact(m',hm,q',r',w')
  ·exact Q.s dl H₀ hs H1 σ q _ _ V Es (F,r.evo e1) z (λH σ q r n=>(q,r,n),λH σ q r n=>E.nx H σ q r n,λH σ q r n=>(q,r,n),E.rt,E.ru) x)
end
variable{cs:List J}
section
variable{X:Cx}{K:BT}{e:EQ}{es:List EQ}{te:TE}{qe:QE}{pos p p2:Pos}{fn:List Str}{bm:List B}
def tCs:List J->TA
 |[]=>fK
 |c::r=>bH (tC (.ref c)) (tCs r)
structure PCs(X:Cx)(K:BT)(fn:List Str)(es:List EQ)(cs:List J):Prop where
 h:PA X es (tCs cs)
 c:∀c∈cs,∃bm ini,cv K fn c bm ini
 l:cs.length=es.length
def OD:PCs X K fn [] []:=(dC,(λ_ z=>nomatch z),U)
def kC{y:Str}(q:cv K fn C bm ini)(hg:Gl X y)(hm:X.mg y=Z (.ref C))(hr:PCs X K fn es cs)(hd:autoParam (AS y) zdc._auto_1)(hs:‹dO (.Name y p::es) X.env=(ϊ,eval (.Name y p) X.env)::dO es X.env›):PCs X K fn (.Name y p::es) (C::cs) :=
 (bh (vV hg hm hd) hr.h hs,λc g=>(fx.mp g).elim (λz=>z▸(bm,ini,q)) (hr.c c),by simp[hr.l])
def Nj{σ:St}{R:List V->Hp->Prop}:∀{cs:List J},R (cs.map V.ref) H->tCs cs σ H R:=by
 intro cs
 induction cs generalizing R with
 |nil=>exact λh=>h
 |cons c r g=>exact λh=>g (R:=λvs H1=>R (V.ref c::vs) H1) h
theorem Em(c:cv K fn C bm ini):∀{cs:List J},(∀x∈cs,∃bm ini,cv K fn x bm ini)->W.kitAny K (.ref C) (cs.map B.ref)=Z (cs.any λx=>(B.ref C::bm).contains (.ref x)):=by
 intro cs
 induction cs with
 |nil=>exact λ_=>rfl
 |cons x r g =>
  intro h;let(bm',wu,z):=h x di;show(match W.kitOne K (.ref C) (.ref x)with|some O=>Z O|some ϊ=>W.kitAny K (.ref C) (r.map B.ref)|none=>Y)=_
  rw[Gg c z,Zm];cases e:(B.ref C::bm).contains (.ref x)with
  |true=>rfl
  |false=>exact g λy q=>h y (aJ _ q)
def G9:∀{cs:List J}{us:List B},Vals (cs.map V.ref) us->us=cs.map B.ref:=by
 intro cs
 induction cs with
 |nil=>intro us r;cases r;rfl
 |cons c r g =>
  intro us h;cases h with
  |cons h1 h2=>rw[jo h1,g h2];rfl
def J8(K:BT)(fn:List Str)(cs:List J):List V->Hp->VK->Prop:=λxs H Q=>∃a C b fs bm ini tp,xs=[.ref a,.ref tp]/\ExH H a C b fs/\cv K fn C bm ini/\H tp=Z (.tup (cs.map V.ref))/\(∀c∈cs,∃bm ini,cv K fn c bm ini)/\Q (.bl (cs.any λx=>(B.ref C::bm).contains (.ref x))) H
theorem IQ:de X (.builtin "isinstance") (J8 X.K fn cs):=by
 intro gd s σ H xs us Q I r h;let(a,C,b,fs,bm,ini,tp,U,ex,g,ht,hc,q):=h;cases r with
 |cons h1 V =>
  cases V with
  |cons h2 P =>
   cases P
   cases(jo h1)
   cases(jo h2)
   let(_,its,hv,hi):=I.hok tp _ ht;have e:=G9 hv;subst e;let(((oc,od,ah,osl),h3,h4,n,h5),_):=hi;cases h4;cases h5;exact W.kia_tup (BW g) I.kIn (ex.cls I.hok) h3 (Em g hc) (λz=>nomatch z) λtk=>(.bl _,H,I.tok tk,U,q)
def P7(K:BT)(fn:List Str)(cs:List J)(qe:QE):QE:=λq Q=>qe q λt=>match t with
 |.xc C _ _=>∃bm ini,cv K fn C bm ini/\Q (.b (cs.any λx=>(B.ref C::bm).contains (.ref x)))
 |_=>False
def JJ(hc:∀c∈cs,∃bm ini,cv K fn c bm ini)(hl:cs.length<=1000)(h:kN K te qe):kM K (tCB (J8 K fn cs) (bH te (bH (Jt (tCs cs)) fK))) (P7 K fn cs qe):=by
 intro dl H σ q Q R rd hq k;refine h dl H σ q _ _ rd hq λv t F H1 P r1 g=>?_
 split at g
 ·let(bm,ini,cx,g):=g;refine Nj (wh (bo (by rw[gV];exact hl)),λp hp=>?_)
  have ev:=(Evo.refl P.d).new (o:=.tup (cs.map V.ref)) hp;have r2:=r1.evo P.d ev;let(a,b,vs,U,U,ex,rs):=r2.r.exc;exact(a,_,b,_,bm,ini,p,U,ex,cx,aC,hc,k _ _ [] _ (P.trans ev) (.b _,λ_ z=>nomatch z) (λ_ z=>nomatch z) mz g)
 ·exact g.elim
def NY{g}(Q:X.K=K)(hg:Gl X "isinstance")(hm:X.mg "isinstance"=Y)(P:PCs X K fn es cs)(h:QPE X K e te qe)(hl:cs.length<=1000:=by simp)
  (he:‹dO [e,.Tuple es g p2] X.env=(ϊ,eval e X.env)::dO [.Tuple es g p2] X.env›) (z:‹dO [.Tuple es g p2] X.env=(ϊ,eval (.Tuple es g p2) X.env)::dO [] X.env›) (q:‹(backTo pos (dO [.Tuple es g p2] X.env)).any (·.1)=false›):
  QPF X K (.Call (.Name "isinstance" p) [e,.Tuple es g p2] [] pos) (tCB (J8 K fn cs) (bH te (bH (Jt (tCs cs)) fK))) (P7 K fn cs qe):=by
 subst Q;exact(kB IQ hg hm U (bh h.h (bh (DU P.h) dC z) he) (by decide) (by decide) he q,JJ P.c hl h.s)
end
section
variable{X:Cx}{K:BT}
def any_range(bs:List Bool):(Ww bs.length).any (λi=>bs.getD i ϊ)=bs.any id:=by
 have e:(Ww bs.length).map (λi=>bs.getD i ϊ)=bs:=by
  apply Zx
  ·simp
  ·intro i h1 h2;simp at h1;simp[h1]
 conv=>rhs;rw[<- e]
 rw[Z1];rfl
def My(hc:X.calm=O):de X (.builtin "any") (λxs H Q=>∃(l:J)(bs:List Bool),xs=[.ref l]/\SqL X.K H l (bs.map V.bl)/\Q (.bl (bs.any id)) H):=by
 intro gd s σ H xs us Q I r h;let(l,bs,U,hl,q):=h;let(u,U,ru):=vals1 r;cases ru;let(its,z,pl,hz):=I.list hl;have g:l<s.heap.objs.size:=by let(_,e,_):=pl.isList;exact uY e
 have hlen:its.toArray.size=bs.length:=by
  have e:=z.length;rw[gV]at e;simp[e]
 refine call_any_walk (wpAny_pyIter_list pl.isList ?_);refine(s.heap.objs.size,[s.heap.objs.size,l],[s.heap.objs.size],its.toArray.size,_,_,λi=>bs.getD i ϊ,U,Walks.list (show X.A.in1.handled=Y from I.ok.hd hc) s.heap.objs.size l (Aw g) its.toArray,((_,u3 _ U,U,U),pl.isList.push _),?_,λh' tk hk=>?_)
 ·intro i v s' Q' E' hP P;let(b,h1,U):=E5 z (by simpa using hP)
  have e:bs.getD i ϊ=b:=by simp[List.getD,h1]
  exact wpAny_truthy_bool (e▸P)
 ·refine(.bl _,H,I.kept (t':=tk) (h':=h') λb o e=>hk b o (by simpa using Aw (uY e)) (iP _ e),U,?_)
  rw[hlen,any_range];exact q
def VW:QC:=λts Q=>match ts with
 |[.l xs]=>Ex3 (λbs=>bls xs=Z bs) (λbs=>(.b (bs.any id))) Q
 |_=>False
def yB(q:X.K=K)(g:X.calm=O):de X (.builtin "any") (λxs H Q=>∃(l:J)(bs:List Bool),xs=[.ref l]/\SqL K H l (bs.map V.bl)/\Q (.bl (bs.any id)) H):=by subst q;exact My g
def Ft:rR K (λxs H Q=>∃(l:J)(bs:List Bool),xs=[.ref l]/\SqL K H l (bs.map V.bl)/\Q (.bl (bs.any id)) H) VW:=by
 intro dl H vs ts F Q R D r g k;unfold VW at g
 split at g
 ·let(v,U,r'):=r.one;let(p,vs,G,U,U,h1,h2):=r'.r.lst;let(bs,q,g):=g;have e:=h2.bls q;subst e;exact(p,bs,U,SqL.of h1,k _ _ [] H (.refl D) (.c (.b _)) (λ_ z=>nomatch z) mz g)
 ·exact g.elim
end
def Alk:Nat->T->T->Prop
 | 0,t,u=>(∃x y,t=.s x/\u=.s y)\/∃x y,t=.i x/\u=.i y
 |n+1,t,u=>(∃x y,t=.s x/\u=.s y)\/(∃x y,t=.i x/\u=.i y)\/∃ts us,t=.t ts/\u=.t us/\∀(j:Nat)(x y:T),ts[j]?=Z x->us[j]?=Z y->Alk n x y
variable{s:ϋ}{G:List J}{gd:List (J×Obj)}
section
variable{X:Cx}{K:BT}
def EM{t u:T}{v w:V}{F:List J}{x y:B}(h:(∃x y,t=.s x/\u=.s y)\/∃x y,t=.i x/\u=.i y)(r1:aI K dl H v t F)(Q:aI K dl H w u G)(P:RelV v x)(q:RelV w y):∃c:Bool,(c=O ↔ t=u)/\SeqAt.EqAt A s x y c:=by
 obtain⟨z,g,rfl,rfl⟩|⟨z,g,rfl,rfl⟩:=h
 ·let(U,_):=r1.str;let(U,_):=Q.str;exact(_,(λh=>congrArg T.s (eq_of_beq (show(z==g)=O from h)),λh=>by cases h;exact beq_self_eq_true z),wL P q U U)
 ·let(U,_):=r1.int;let(U,_):=Q.int;exact(_,(λh=>congrArg T.i (eq_of_beq (show(z==g)=O from h)),λh=>by cases h;exact beq_self_eq_true z),wL P q U U)
def Gs{ts us:List T}{n z q:Nat}{e:Nat->Bool}(hn:z=ts.length)(hm:q=us.length)(he:∀(j:Nat)(x y:T),ts[j]?=Z x->us[j]?=Z y->(e j=O ↔ x=y)):((Ww (min z q)).all e&&z==q)=O ↔ ts=us:=by
 subst hn hm;rw[ti,Av,beq_iff_eq]
 constructor
 ·rintro⟨h1,h2⟩
  exact Zx h2 λi g1 g2=>((he i _ _ (rY g1) (rY g2)).mp (h1 i (ZN.mpr (by omega))))
 ·rintro rfl
  refine(λj g=>?_,U)
  have g:j<ts.length:=by have:=ZN.mp g;lia
  exact(he j _ _ (rY g) (rY g)).mpr U
def ME:∀(n:Nat){t u:T}{v:V}{F G:List J},Alk n t u->aI K dl H v t F->aI K dl H v u G->t=u:=by
 intro n;have sc:∀{t u:T}{v:V}{F G:List J},((∃x y,t=.s x/\u=.s y)\/∃x y,t=.i x/\u=.i y)->aI K dl H v t F->aI K dl H v u G->t=u:=λh q g=>by
  obtain⟨z,z',rfl,rfl⟩|⟨z,z',rfl,rfl⟩:=h
  ·let(U,_):=q.str;let(e,_):=g.str;cases e;rfl
  ·let(U,_):=q.int;let(e,_):=g.int;cases e;rfl
 induction n with
 |zero=>exact λh q g=>sc h q g
 |succ n ih =>
  intro t u v F G h q g;obtain h|h |⟨ts,us,rfl,rfl,ht⟩:=h
  ·exact sc (.inl h) q g
  ·exact sc (.inr h) q g
  ·let(a,vs,U,h1,f1):=q.tup;let(b,ws,e,h2,f2):=g.tup;cases e;rw[h1]at h2;cases h2;have l3:=f1.len;have l4:=f2.len;refine congrArg L2.T.t (Zx (by lia) λi g1 g2=>?_)
   have gv:i<vs.length:=by lia
   let(t1,G1,Q,ak):=ku f1 (rY gv);let(t2,G2,P,ah):=ku f2 (rY gv);rw[rY g1]at Q;rw[rY g2]at P;cases Q;cases P;exact ih (ht i _ _ (rY g1) (rY g2)) ak ah
def L6{σ:St}(I:Inv X gd σ H s)(hK:X.K=K):∀(n:Nat)(A:Do)(t u:T)(v w:V)(F G:List J)(x y:B),Alk n t u->aI K dl H v t F->aI K dl H w u G->RelV v x->RelV w y->A.units+n<cLine->∃c:Bool,(c=O ↔ t=u)/\SeqAt.EqAt A s x y c:=by
 intro n
 induction n with
 |zero =>
  intro A t u v w F G x y P z q rx ry hu;exact EM P z q rx ry
 |succ n ih =>
  intro A t u v w F G x y P z q rx ry hu;obtain h|h |⟨ts,us,rfl,rfl,P⟩:=P
  ·exact EM (.inl h) z q rx ry
  ·exact EM (.inr h) z q rx ry
  ·let(a,vs,U,h1,f1):=z.tup;let(b,ws,U,h2,f2):=q.tup;cases rx;cases ry;let(its,q1,p1,_):=I.tuple (SqT.of h1);let(Q,q2,p2,_):=I.tuple (SqT.of h2);have l1:=q1.length;have l2:=q2.length;have l3:=f1.len;have l4:=f2.len;have go:∀j,∃c:Bool,∀g1 (g2:j<Q.toArray.size),(∀x y,ts[j]?=Z x->us[j]?=Z y->(c=O ↔ x=y))/\SeqAt.EqAt A.in1 s its.toArray[j] Q.toArray[j] c:=λj=>by
    by_cases g:j<its.toArray.size/\j<Q.toArray.size
    ·let(g1,g2):=g;let(v1,e1,aD):=q1.at' g1;let(v2,e2,aw):=q2.at' g2;let(t1,G1,au,aL):=ku f1 e1;let(t2,G2,ak,aH):=ku f2 e2;let(c,hc,hE):=ih A.in1 t1 t2 v1 v2 G1 G2 _ _ (P j t1 t2 au ak) aL aH aD aw (by show A.units+1+n<_;lia)
     refine(c,λ_ _=>(λx y hx hy=>?_,hE))
     rw[au]at hx;rw[ak]at hy;cases hx;cases hy;exact hc
    ·exact(O,λg1 g2=>absurd (g1,g2) g)
   have hc:=λj=>Classical.choose_spec (go j)
   have key:((Ww (min its.toArray.size Q.toArray.size)).all (λj=>Classical.choose (go j))&&its.toArray.size==Q.toArray.size)=O ↔ ts=us:=by
    have e1:its.toArray.size=ts.length:=by simp;omega
    have e2:Q.toArray.size=us.length:=by simp;omega
    refine Gs (n:=n) e1 e2 λj x y hx hy=>?_
    have g1:=(kf.mp hx).1;have g2:=(kf.mp hy).1;exact(hc j (by omega) (by omega)).1 x y hx hy
   by_cases ah:a=b
   ·subst ah;exact(O,(λ_=>ME (n+1) (.inr (.inr (ts,us,U,U,P))) z q,λ_=>rfl),SeqAt.EqAt.same _)
   ·refine(_,(λh=>congrArg L2.T.t (key.mp h),λh=>key.mpr (by cases h;rfl)),SeqAt.EqAt.of_refs ah (SeqAt.RcAt.tuples (p1) (p2) (by omega) λj g1 g2=>(hc j g1 g2).2))
end
variable{N':List Str}{sc:Scope}{fp:List J}
section
variable{X:Cx}{K:BT}{e a b:EQ}{es:List EQ}{te ta tb:TE}{qe qa qb:QE}{tl:TA}{ql:QA}{pos p:Pos}{k k':Nat}{f:J}{prs:List Str}
structure Dn(K:BT)(mg:Str->Option B)(x:Str)(st:Fk)(f:J)(fd:Ch)(ps:List Str):Prop where
 F:Fun K x x st f fd
 m:mg x=Z (.ref f)
 b:Binds K fd ps []
def aS{ps:PSp}(F:aV X.prog X.w X.K X.mg X.base CX0 k f fd prs (spQ K ps))(hr:bP k' X.A)(D:Dn X.K X.mg x st f fd prs)(ha:QPA X K (e::es) tl ql)(z:k<=k':=by first|decide|omega)(hg:Gl X x:=by exact U)
  (q:autoParam (AS x) zdc._auto_1) (he:‹AC X e es›) (g:‹AM X pos es›):
  QPF X K (.Call (.Name x p) (e::es) [] pos) (AR (spQ K ps) [] E0 tl) (Ky ps ql):=NZ F (hr.mono z) hg D.m D.F.kp D.b ha q he g
def XN{ps:Ja}(F:aV X.prog X.w X.K X.mg X.base (CX1 X.prog X.w) k f fd prs (AW K ps))(hr:bP k' X.A)(D:Dn X.K X.mg x st f fd prs)(ha:QPA X K (e::es) tl ql)(P:k<=k':=by first|decide|omega)(hg:Gl X x:=by exact U)
  (z:autoParam (AS x) zdc._auto_1) (he:‹AC X e es›) (g:‹AM X pos es›):
  QPX X K (.Call (.Name x p) (e::es) [] pos) (λEs=>sv (AW K ps) Es tl) (λq Q W=>ql q λts=>ps ts Q W):=NO F (hr.mono P) hg D.m D.F.kp D.b ha z he g
def az:QPA X K [] fK N3:=Ap.w aF
def ao{i j}:QPE X K (.Constant (.int i) j pos) (tC (.int i)) (qC (.i i)):=ZB bR
def dY(hm:X.mg "len"=Y)(ha:QPA X K (e::es) tl ql)(hg:Gl X "len":=by exact U)(q:X.K=K:=by exact U)
  (he:‹AC X e es›) (g:‹AM X pos es›):QPF X K (.Call (.Name "len" p) (e::es) [] pos) (tCB (J7 K) tl) (qCB VL ql):=gU (IP q) Nv hg hm (by kernel_rfl) ha (by decide) (by decide) he g
def aG(i:Nat)(g:X.N.Nodup)(he:QPF X K e te qe)(hi:‹X.N[i]?=Z x›)(hx:Loc X.env.scope x:=by first|exact .inl rfl|exact .inr U)(hs:‹swapsWith e (Z (.Name x pos')) pos.line X.env=pure false›)(hf:AT X x:=by first|exact .inl rfl|exact .inr rfl|assumption):
  QPS X K (.Assign [.Name x pos'] e pos) (uM te (jF i)) (DK i qe):=RR g hi hx he hs hf
def j9(i:Nat)(g:X.N.Nodup)(hi:‹X.N[i]?=Z x›)(hx:Loc X.env.scope x:=by first|exact .inl rfl|exact .inr U)(hf:AT X x:=by first|exact .inl rfl|exact .inr rfl|assumption):PG X (.Name x pos) (jF i):=qL g hi hx hf
def uN{cl:List (Str×J)}{s₂:ϋ}{H₂:Hp}(i:Nat)(g:N'.Nodup:=by decide +kernel)(hi:‹N'[i]?=Z x›)(hx:Loc (blk X N' sc cl C s₂ H₂ fp).env.scope x:=by first|exact .inl rfl|exact .inr U)(hf:‹(blk X N' sc cl C s₂ H₂ fp).env.scope.names.lookup x=Z .local›):PG (blk X N' sc cl C s₂ H₂ fp) (.Name x pos) (jF i):=qL (X:=blk X N' sc cl C s₂ H₂ fp) g hi hx (.inr hf)
def K3{q g:Str}{t1 P:TG}{j:Nat}(h1:PG X (.Name q p1) t1)(h2:PG X (.Name g p2) P)(V:X.K=K:=by exact U)(Q:X.calm=true:=by exact U)
  (hn:‹(assignEach [.Name q p1,.Name g p2] X.env).length=2›) (z:‹(assignEach [.Name q p1,.Name g p2] X.env).findIdx? (·.1)=none›):PG X (.Tuple [.Name q p1,.Name g p2] j pos) (LR K 2 (yl t1 (yl P Pe))):=zw V Q (fD h1 (fD h2 vh)) hn z
def ff(g:X.A.units+1<cLine)(ha:QPE X K a ta qa)(q:QPE X K b tb qb)(z:X.K=K:=by exact U):QPT X K (.Compare a [.Eq] [b] pos) (AQ (tOp (RN K) ta tb)) (jB (qOp N6 qa qb)):=bO (gG g z) dW (a8 _) ha q
def ua(ha:QPE X K a ta qa)(g:QPE X K b tb qb):=bO (pos:=pos) Qd (mF (K:=K) (g':=λi j=>.b (decide (i<j))) λ_ _ _ _=>.b _) (a8 _) ha g
def ya(ha:QPE X K a ta qa)(g:QPE X K b tb qb):=bO (pos:=pos) FX (mF (K:=K) (g':=λi j=>.b (decide (j<i))) λ_ _ _ _=>.b _) (a8 _) ha g
def Vw(ha:QPE X K a ta qa)(g:QPE X K b tb qb):=bO (pos:=pos) Qf (mF (K:=K) (g':=λi j=>.b (decide (j<=i))) λ_ _ _ _=>.b _) (a8 _) ha g
end
abbrev NI(K:BT)(x:Str)(f:J):Prop:=W.nsIn K mainGlobals x=Z (Z (.ref f))
abbrev LK(K:BT)(f:J)(x q:Str)(st:Fk)(oc:B)(od:Option J)(kV dc pm:B)(an:Option J)(cd ct:B)(sl:Array (Option B)):Prop:=K.lookup f=Z (oc,od,.func (W.fnOf x q (iK st) (cz st) (av st) .none kV dc pm an cd ct),sl)
abbrev CI(K:BT)(cd:B)(x:Str):Prop:=W.codeIn K cd x=O
abbrev KI(K:BT)(f:J):Prop:=W.keepIn K (.ref f)=O
section
variable{K:BT}{q:Str}{f:J}{oc kV dc pm cd ct:B}{od an:Option J}{sl:Array (Option B)}
abbrev NB(K:BT)(x:Str):Prop:=W.nsIn K mainGlobals x=Z Y
inductive DY(K:BT)(x:Str)(st:Fk)(f:J):Prop
 |mk(n:NI K x f)(fd:Ch)(F:Fun K x x st f fd)
inductive DM(K:BT)(C:J)(x q:Str)(st:Fk)(f:J):Prop
 |mk(M:Meth K C x f)(fd:Ch)(F:Fun K x q st f fd)
def DY.of(n:NI K x f)(l:LK K f x x st oc od kV dc pm an cd ct sl)(c:CI K cd x)(k:KI K f):DY K x st f:=(n,_,pM l c k)
theorem DM.of(m:W.findIn K (.ref C) x=Z (Z (.ref f)))(l:LK K f x q st oc od kV dc pm an cd ct sl)(c:CI K cd q)(k:KI K f)(i:W.isFn K (.ref f)=O):DM K C x q st f:=((m,i,k),_,pM l c k)
theorem Fun.b1{p1:Str}(F:Fun K x q st f fd)(z:∀kV dc pm an cd ct g,bindArgs (W.fnOf x q (iK st) (cz st) (av st) .none kV dc pm an cd ct) ([g],[])=pure [(p1,g)]:=by intros;rfl):Binds K fd [p1] []:=F.binds λkV dc pm an cd ct us hl=>Ws (P:=λus=>bindArgs _ (us,[])=pure (List.zip _ us)) (z kV dc pm an cd ct) us hl
theorem Fun.b2{p1 p2:Str}(F:Fun K x q st f fd)(Q:∀kV dc pm an cd ct z g,bindArgs (W.fnOf x q (iK st) (cz st) (av st) .none kV dc pm an cd ct) ([z,g],[])=pure [(p1,z),(p2,g)]:=by intros;rfl):Binds K fd [p1,p2] []:=F.binds λkV dc pm an cd ct us hl=>Wr (P:=λus=>bindArgs _ (us,[])=pure (List.zip _ us)) (Q kV dc pm an cd ct) us hl
theorem Fun.b3{p1 p2 p3:Str}(F:Fun K x q st f fd)(V:∀kV dc pm an cd ct Q z g,bindArgs (W.fnOf x q (iK st) (cz st) (av st) .none kV dc pm an cd ct) ([Q,z,g],[])=pure [(p1,Q),(p2,z),(p3,g)]:=by intros;rfl):Binds K fd [p1,p2,p3] []:=F.binds λkV dc pm an cd ct us hl=>Wq (P:=λus=>bindArgs _ (us,[])=pure (List.zip _ us)) (V kV dc pm an cd ct) us hl
theorem Fun.b5{p1 p2 p3 p4 p5:Str}(F:Fun K x q st f fd)(hb:∀kV dc pm an cd ct u1 V Q z g,bindArgs (W.fnOf x q (iK st) (cz st) (av st) .none kV dc pm an cd ct) ([u1,V,Q,z,g],[])=pure [(p1,u1),(p2,V),(p3,Q),(p4,z),(p5,g)]:=by intros;rfl):Binds K fd [p1,p2,p3,p4,p5] []:=F.binds λkV dc pm an cd ct us hl=>X5 (P:=λus=>bindArgs _ (us,[])=pure (List.zip _ us)) (hb kV dc pm an cd ct) us hl
end
variable{prs:List Str}
theorem aV.calm{w:Da}{K:BT}{k:Nat}{f:J}{ps:Ja}(F:aV P w K mg base (CX1 P w) k f fd prs (AW K ps)):aV P w K mg base CX0 k f fd prs (spQ K λts Q=>ps ts Q λ_ _ _=>False) where
 len:=λvs H Q E h=>by
  let(dl,ts,G,Qp,h1,h2,h3,h4):=h;exact F.len vs H Q (λ_ _ _=>False) (dl,ts,G,Qp,_,h1,h2,h3,h4,λ_ _ _ _ _ _ _ z=>z)
 run:=λA outer s H args us vs Q E hr he q hv h=>by
  let(dl,ts,G,Qp,h1,h2,h3,h4):=h;refine codeAny_mono (F.run A outer s H args us vs Q (λ_ _ _=>False) hr he q hv (dl,ts,G,Qp,_,h1,h2,h3,h4,λ_ _ _ _ _ _ _ z=>z)) λr s' g=>?_
  cases r with
  |ok o=>cases o <;> exact g
  |error e =>
   let(a,C,dx,T,H',_,_,_,_,_,_,_,_,_,z):=g;exact z.elim
variable{CX:CXT}
theorem aV.Ya{w:Da}{K:BT}{k:Nat}{f:J}{ps g:PSp}(F:aV P w K mg base CX k f fd prs (spQ K ps))(h:∀ts Q,g ts Q->ps ts Q):aV P w K mg base CX k f fd prs (spQ K g) :=
 F.imp λvs H Q E z=>by
  let(dl,ts,G,Qp,h1,h2,h3,h4):=z;exact(dl,ts,G,Qp,h1,h2,h _ _ h3,h4)
mutual
def T.pln:T->Bool
 |.n=>O
 |.b _=>O
 |.i _=>O
 |.s _=>O
 |.t xs=>T.zv xs
 |.zl xs=>T.zv xs
 |.fd _ _ ks=>T.SM ks
 |.fz _=>O
 |_=>ϊ
def T.zv:List T->Bool
 |[]=>O
 |x::r=>x.pln&&T.zv r
def T.SM:List (Key×T)->Bool
 |[]=>O
 | (_,x)::r=>x.pln&&T.SM r
end
def nof{A:Prop}(h:ϊ=O):A:=absurd h rZ
theorem aI.plain{K:BT}(kt:∀a vs,H a=Z (.tup vs)->H' a=Z (.tup vs))(z:∀a o u,H a=Z (.frz o u)->H' a=Z (.frz o u)){v:V}{t:T}{F:List J}(h:aI K dl H v t F):t.pln=O->aI K dl H' v t F :=
 aI.rec (motive_2:=λv t F _=>T.zv t=O->aA K dl H' v t F) (motive_3:=λv t F _=>T.SM t=O->hU K dl H' v t F)
  (λ_=>.n) (λx _=>.b x) (λx _=>.i x) (λx _=>.s x) (λ_ h=>nof h) (λh _ g q=>.t (kt _ _ h) (g q)) (λ_ _ _ h=>nof h) (λ_ _ _ h=>nof h) (λ_ h=>nof h) (λ_ h=>nof h) (λ_ h=>nof h) (λh _ g q=>.fd (z _ _ _ h) (g q)) (λ_ h=>nof h) (λ_ _ _ h=>nof h)
  (λ_ _ h=>nof h) (λ_ _ _ h=>nof h) (λ_ _ _ h=>nof h) (λ_ _ _ h=>nof h) (λh _ g q=>.zl (z _ _ _ h) (g q)) (λ_ h=>nof h) (λ_ _ _ _ _ h=>nof h) (λh _=>.fz (z _ _ _ h)) (λ_=>.nil) (λ_ _ Q P q=>.cons (Q (ti _ _▸q).1) (P (ti _ _▸q).2)) (λ_=>.nil) (λ_ _ Q P q=>.cons (Q (ti _ _▸q).1) (P (ti _ _▸q).2)) h
theorem aA.plain{K:BT}{dl:Dl}{H H':Hp}(kt:∀a vs,H a=Z (.tup vs)->H' a=Z (.tup vs))(g:∀a o u,H a=Z (.frz o u)->H' a=Z (.frz o u)){vs:List V}{ts:List T}{F:List J}(h:aA K dl H vs ts F):T.zv ts=O->aA K dl H' vs ts F :=
 h.ind (λ_=>.nil) (λ_ _ _ _ _ _ h _ z q=>.cons (h.plain kt g (ti _ _▸q).1) (z (ti _ _▸q).2))
theorem aI.SN{K:BT}{v:V}{t:T}{F:List J}(h:aI K dl H v t F):t.pln=O->F=[] :=
 aI.rec (motive_3:=λ_ _ _ _=>True)
  (λ_=>rfl) (λ_ _=>rfl) (λ_ _=>rfl) (λ_ _=>rfl) (λ_ h=>nof h) (λ_ _ g=>g) (λ_ _ _ h=>nof h) (λ_ _ _ h=>nof h) (λ_ h=>nof h) (λ_ h=>nof h) (λ_ h=>nof h) (λ_ _ _ _=>rfl) (λ_ h=>nof h) (λ_ _ _ h=>nof h)
  (λ_ _ h=>nof h) (λ_ _ _ h=>nof h) (λ_ _ _ h=>nof h) (λ_ _ _ h=>nof h) (λ_ _ _ _=>rfl) (λ_ h=>nof h) (λ_ _ _ _ _ h=>nof h) (λ_ _=>rfl) (λ_=>rfl) (λ_ _ z q=>zU z q) trivial (λ_ _ _ _=>trivial) h
theorem aA.SN{K:BT}{dl:Dl}{H:Hp}{vs:List V}{ts:List T}{F:List J}(h:aA K dl H vs ts F):T.zv ts=O->F=[]:=h.ind (λ_=>rfl) (λ_ _ _ _ _ _ h _ g=>zU h.SN g)
variable{its:List B}
section
variable{X:Cx}{K:BT}{σ:St}{e o:EQ}{te:TE}{qe:QE}
def Inv.Pj(I:Inv X gd σ H s)(ha:H a=Z (.lst xs)):∃o,Inv X gd σ (upd H a (.frz o (.lst xs))) s:=by
 have g:∀o v,X.H₀ a≠Z (.frz o v):=λo v e=>by
  have:=I.base.pN a o v e
  rw[ha]at this;cases this
 let(z,its,n,r,e):=(I.hok a _ ha);exact(_,I.Vi ha (λ_ z=>nomatch z) (λ_ z=>nomatch z) (λ_ z=>nomatch z) g (e,z,its,n,r,e))
def PV(te:TE):TE:=λσ H Q=>te σ H λv H1=>∃a xs,v=.ref a/\H1 a=Z (.lst xs)/\∀o,Q v (upd H1 a (.frz o (.lst xs)))
def Oz(he:PE X e te):PE X e (PV te):=by
 intro gd s σ H Q I h;refine thn (he gd s σ H _ I h) λu s' g=>?_
 let(v,H',P,r,a,xs,V,z,q):=g;let(o,K):=P.Pj z;exact(v,_,K,r,q o)
def VQ(qe:QE):QE:=λq Q=>qe q λt=>match t with
 |.l ts=>T.zv ts=O/\Q (.zl ts)
 |_=>False
def vf(he:QPF X K e te qe):QPF X K e (PV te) (VQ qe):=(Oz he.h,λdl H σ q Q R rd V k=>he.s dl H σ q _ _ rd V λv t F H1 e1 P f1 n1 g=>by
 split at g
 ·let(p,vs,G,U,U,h1,h2):=P.r.lst;obtain rfl:=h2.SN g.1;refine(p,vs,U,h1,λo=>?_)
  have e2:=e1.fresh (o:=.frz o (.lst vs)) (f1 p di) (P.n p di);have ne:∀{a:J}{u:HO},H1 a=Z u->(∀xs,u ≠ .lst xs)->a≠p:=λh n z=>by rw[z,h1]at h;exact n _ (Option.some.inj h).symm
  have ts:=h2.plain (H':=upd H1 p (.frz o (.lst vs))) (λa us h=>by rw[ax (ne h λ_ z=>nomatch z)];exact h) (λa o u h=>by rw[ax (ne h λ_ z=>nomatch z)];exact h) g.1
  exact k _ (.zl _) [] _ e2 (.zl aC ts,λ_ z=>nomatch z) (λ_ z=>nomatch z) mz g.2
 ·exact g.elim)
inductive Vs(K:BT)(neg:Bool)(x:V)(y:V)(H:Hp)(Q:VK):Prop
 |mk(dl ts us vs ws n p q F G:_)(h1:x=.ref p)(h2:y=.ref q)(h3:SqL K H p vs)(h4:SqL K H q ws)(h5:aA K dl H vs ts F)(h6:aA K dl H ws us G)(h7:(∀(j:Nat)(x y:T),ts[j]?=Z x->us[j]?=Z y->Alk n x y))(h8:n<=100)(h9:∀c:Bool,(c=O ↔ ts=us)->Q (.bl (if neg then !c else c)) H)
def PC{σ:St}(I:Inv X gd σ H s)(hK:X.K=K){vs ws:List V}{ts us:List T}{F:List J}{q:List B}(q1:Vals vs its)(q2:Vals ws q)(f1:aA K dl H vs ts F)(f2:aA K dl H ws us G)(ht:∀(j:Nat)(x y:T),ts[j]?=Z x->us[j]?=Z y->Alk n x y)(hu:A.units+n<cLine):
  ∃e:Nat->Bool,(∀(j:Nat)(g1:j<its.toArray.size)(g2:j<q.toArray.size),SeqAt.EqAt A s its.toArray[j] q.toArray[j] (e j))/\∀(j:Nat)(x y:T),ts[j]?=Z x->us[j]?=Z y->(e j=O ↔ x=y):=by
 have l1:=q1.length;have l2:=q2.length;have l3:=f1.len;have l4:=f2.len;have go:∀j,∃c:Bool,∀g1 (g2:j<q.toArray.size),(∀x y,ts[j]?=Z x->us[j]?=Z y->(c=O ↔ x=y))/\SeqAt.EqAt A s its.toArray[j] q.toArray[j] c:=λj=>by
  by_cases g:j<its.toArray.size/\j<q.toArray.size
  ·let(g1,g2):=g;let(v1,e1,ak):=q1.at' g1;let(v2,e2,ah):=q2.at' g2;let(t1,G1,Q,aw):=ku f1 e1;let(t2,G2,P,au):=ku f2 e2;let(c,hc,hE):=L6 I hK n A t1 t2 v1 v2 G1 G2 _ _ (ht j t1 t2 Q P) aw au ak ah hu;refine(c,λ_ _=>(λx y hx z=>?_,hE))
   rw[Q]at hx;rw[P]at z;cases hx;cases z;exact hc
  ·exact(O,λg1 g2=>absurd (g1,g2) g)
 refine(λj=>Classical.choose (go j),λj g1 g2=>(Classical.choose_spec (go j) g1 g2).2,λj x y hx z=>?_)
 have g1:=(kf.mp hx).1;have g2:=(kf.mp z).1;exact(Classical.choose_spec (go j) (by simp;lia) (by simp;lia)).1 x y hx z
def SY(hu:X.A.units+150<cLine)(hK:X.K=K):OpR X (compareOp .Eq) (Vs K ϊ):=by
 subst hK;intro gd s σ H x y v u Q I rx V h;let(dl,ts,us,vs,ws,n,p,q,F,G,U,U,h1,h2,f1,f2,ht,hn,k):=h;cases rx;cases V;let(its,P,p1,_):=I.list h1;let(gb,g,p2,_):=I.list h2;have l1:=P.length;have l2:=g.length;have l3:=f1.len;have l4:=f2.len;let(e,hE,he):=PC (A:=X.A.in1) I U P g f1 f2 ht (by show X.A.units+1+n<_;lia)
 by_cases hl:its.length=gb.length
 ·refine SeqAt.eq_listAt p1.isList p2.isList (by simpa using hl) (by omega) hE (.bl _,H,I,U,k _ ?_)
  have key:=Gs (n:=n) U U he;rw[show(ts.length==us.length)=O from by simp;lia,ab2,show min ts.length us.length=its.toArray.size from by simp;lia]at key
  exact key
 ·exact SeqAt.eq_list_lengthsAt p1.isList p2.isList (by simpa using hl) (by omega) (.bl _,H,I,U,k ϊ (λz=>absurd z rZ,λz=>by rw[z]at l3;lia))
def T.lst:T->Option (List T)
 |.l xs=>Z xs
 |.zl xs=>Z xs
 |_=>Y
def XW(neg:Bool):Q2:=λt u Q=>∃ts us n,t.lst=Z ts/\u.lst=Z us/\n<=100/\(∀(j:Nat)(x y:T),ts[j]?=Z x->us[j]?=Z y->Alk n x y)/\∀c:Bool,(c=O ↔ ts=us)->Q (.b (if neg then !c else c))
def Rp.OX{v:V}{t:T}{F:List J}{ts:List T}(r:Rp K dl H v t F)(h:t.lst=Z ts):∃p vs G,v=.ref p/\SqL K H p vs/\aA K dl H vs ts G:=by
 cases t with
 |l xs=>cases h;let(p,vs,G,U,U,h1,h2):=r.r.lst;exact(p,vs,G,U,SqL.of h1,h2)
 |zl xs=>cases h;let(p,o,vs,U,U,h1,h2):=r.r.zls;exact(p,vs,[],U,.inl (.inr (o,h1)),h2)
 |_=>cases h
def Nw{neg:Bool}:gK K (Vs K neg) (XW neg):=by
 intro dl H x y t u F G Q R D P q g k;let(ts,us,n,e1,e2,hn,ht,g):=g;let(p,vs,G1,U,h1,f1):=P.OX e1;let(V,ws,G2,U,h2,f2):=q.OX e2;exact(dl,ts,us,vs,ws,n,p,V,G1,G2,U,U,h1,h2,f1,f2,ht,hn,λc hc=>k _ _ [] H (.refl D) (.c (.b _)) (λ_ z=>nomatch z) mz (g c hc))
end
end L2
namespace L2
open PySem PySem.Spec PyProof.Rows
def iZ(H:Hp)(F:List J):Hp:=λb=>if b∈F then Y else H b
variable{H:Hp}
def qU{F:List J}{b:J}(h:b∈F):iZ H F b=none:=if_pos h
def kD{F:List J}{b:J}(h:b ∉ F):iZ H F b=H b:=if_neg h
structure eQ(dl:Dl)(H:Hp)(F:List J)(H':Hp):Prop where
 k:∀b o,H b=Z o->b ∉ F->Nd dl b->NR o->H' b=Z o
 r:∀a x,H a=Z (.room x)->a ∉ F->∃y,y<=x/\H' a=Z (.room y)
 l:∀b xs,b∈F->H b=Z (.lst xs)->∃ys,H' b=Z (.lst ys)
 d:Dls dl H'
abbrev Aq:=List T->(T->T->Prop)->Prop
inductive Oth(K:BT)(dl:Dl)(H:Hp)(vs:List V)(ts:List T)(j:Nat)(F0:List J):Prop
 |mk(G:Nat->List J)(h1:(∀i v t,i≠j->vs[i]?=Z v->ts[i]?=Z t->Rp K dl H v t (G i)/\∀b∈G i,b ∉ F0))(h2:∀i,ts.length<=i->G i=[])
variable{dl:Dl}{j:Nat}
theorem Oth.im{K:BT}{vs:List V}{ts:List T}{F0:List J}(h:∀i v t,i≠j->vs[i]?=Z v->ts[i]?=Z t->Rp K dl H v t []):Oth K dl H vs ts j F0:=(λ_=>[],λi v t h1 h2 h3=>(h i v t h1 h2 h3,λ_ z=>nomatch z),λ_ _=>rfl)
inductive spL(K:BT)(j:Nat)(ps:Aq)(vs:List V)(H:Hp)(Q:VK)(_:XK):Prop
 |mk(dl:Dl)(ts:List T)(v0:V)(t0:T)(F0:List J)(Qp:T->T->Prop)(h1:Dls dl H)(h2:vs.length=ts.length)(h3:vs[j]?=Z v0)(h4:ts[j]?=Z t0)(h5:Rp K dl H v0 t0 F0)(h6:F0.Nodup)(h7:Oth K dl H vs ts j F0)(h8:ps ts Qp)(h9:∀v r Fr t' F' H',eQ dl H F0 H'->Rp K dl H' v0 t' F'->F'.Nodup->(∀b∈F',b∈F0\/H b=Y)->Rp K dl H' v r Fr->Fr.Nodup->(∀b∈Fr,b∈F0\/H b=Y)->(∀b∈Fr,b ∉ F')->Qp r t'->Q v H')
def hsq(H:Hp)(F:List J):List (V×T):=F.filterMap λb=>match H b with
 |some (.lst _)=>Z (.ref b,.q)
 |_=>Y
theorem LH{K:BT}{F:List J}:∀p∈hsq H F,Rp K dl H p.1 p.2 []:=λp hp=>by
 let(b,_,e):=Zo.mp hp
 split at e
 ·rename_i xs h;cases e;exact(.q h,λ_ z=>nomatch z)
 ·cases e
variable{xs:List V}
def Gn{F:List J}{b:J}(g:b∈F)(h:H b=Z (.lst xs)):(V.ref b,T.q)∈hsq H F:=Zo.mpr (b,g,by rw[h])
variable{N:List Str}
theorem DH{K:BT}{vs:List V}{ts:List T}{v0:V}{t0:T}{F0:List J}{hs:List (V×T)}(D:Dls dl H)(hl:vs.length=ts.length)(hv:vs[j]?=Z v0)(r0:Rp K dl H v0 t0 F0)(n0:F0.Nodup){G:Nat->List J}(ro:∀i v t,i≠j->vs[i]?=Z v->ts[i]?=Z t->Rp K dl H v t (G i)/\∀b∈G i,b ∉ F0)(rz:∀i,ts.length<=i->G i=[])(hj:j<ts.length)(hh:∀p∈hs,Rp K dl H p.1 p.2 []):
  Rel K dl (iZ H F0) hs H (start N vs) ((ts.map Sl.r).set j (.o t0)++xV (N.length - ts.length) .no) (λi=>if i=j then F0 else G i):=by
 have lk:∀i y,((ts.map Sl.r).set j (.o t0)++xV (N.length - ts.length) Sl.no)[i]?=Z y->(i=j/\y=.o t0)\/(i≠j/\∃t,ts[i]?=Z t/\y=.r t)\/(ts.length<=i/\y=.no):=λi y h=>by
  by_cases hi:i<ts.length
  ·rw[CJ (by simpa using hi)]at h
   obtain⟨e1,Q,_⟩|⟨e1,Q⟩:=get_set h
   ·exact .inl (e1,Q)
   ·rw[tW,rY hi]at Q;exact .inr (.inl (e1,ts[i],by simp,(Option.some.inj Q).symm))
  ·rw[CF (by simpa using hi),Y5]at h
   split at h
   ·exact .inr (.inr (by omega,(Option.some.inj h).symm))
   ·cases h
 have g:∀i v,vs[i]?=Z v->(start N vs)[i]?=Z (Z v):=λi v e=>by
  have hi:=(kf.mp e).1;show(vs.map Z++xV (N.length - vs.length) Y)[i]?=_;rw[CJ (by simpa using hi),tW,e]
  rfl
 have q:∀b o,iZ H F0 b=Z o->H b=Z o:=λb o h=>by
  by_cases e:b∈F0
  ·rw[qU e]at h;cases h
  ·rw[kD e]at h;exact h
 refine(D,λi y t h1 h2=>?_,λi y h1 h2=>?_,λi hi=>?_,λi t h1=>?_,λp hp=>([],hh p hp,λ_ _ _ _ _ z=>nomatch z),(λb o h _ _=>q b o h,λb x h=>(x,Zi _,q b _ h)),?_)
 ·obtain⟨rfl,rfl⟩|⟨ne,u,e,rfl⟩|⟨_,rfl⟩:=lk i y h1
  ·cases h2;refine(v0,g _ _ hv,?_);rw[if_pos rfl];exact r0
  ·cases h2;obtain⟨v,ev⟩:∃v,vs[i]?=Z v:=(vs[i]'(by rw[hl];exact(kf.mp e).1),rY _)
   refine(v,g _ _ ev,?_);rw[if_neg ne];exact(ro i v t ne ev e).1
  ·cases h2
 ·obtain⟨rfl,rfl⟩|⟨ne,u,e,rfl⟩|⟨hi,rfl⟩:=lk i y h1
  ·cases h2
  ·cases h2
  ·rw[if_neg (by lia)];exact rz i hi
 ·have ah:ts.length<=i:=by simp at hi;lia
  rw[if_neg (by lia)];exact rz i ah
 ·obtain⟨rfl,e⟩|⟨ne,u,e,z⟩|⟨_,z⟩:=lk i _ h1
  ·refine(by rw[if_pos rfl];exact n0,λb P=>?_,λk hk b P=>?_)
   ·rw[if_pos rfl]at P;exact qU P
   ·rw[if_pos rfl]at P;rw[if_neg hk];intro z;by_cases ak:k<ts.length
    ·exact(ro k (vs[k]'(by lia)) ts[k] hk (rY _) (rY _)).2 b z P
    ·rw[rz k (by omega)]at z;cases z
  ·cases z
  ·cases z
 ·show _=(vs.map Z++xV (N.length - vs.length) Y).length;simp[hl]
def T.adr:T->Option J
 |.lp a _=>Z a
 |.dp a _=>Z a
 |.om a _ _ _=>Z a
 |_=>Y
theorem aI.adr{K:BT}{dl:Dl}{H:Hp}{v:V}{t:T}{F:List J}{a:J}(h:aI K dl H v t F)(e:t.adr=Z a):v=.ref a:=by
 cases t with
 |lp b xs=>cases e;let(_,_,z,_):=h.lpp;exact z
 |dp b xs=>cases e;let(_,_,z,_):=h.dpp;exact z
 |om b _ _ _=>cases e;let(_,_,_,z,_):=h.omm;exact z
 |_=>cases e
def dP.ow(j:Nat)(a:J)(Q:T->T->Prop):dP:={nx:=λq=>∃t',q[j]?=Z (.o t')/\t'.adr=Z a/\Q .n t',rt:=λ_=>False,ru:=λq r=>∃t',q[j]?=Z (.o t')/\t'.adr=Z a/\Q r t'}
variable{P:Db}{mg:Str->Option B}{base:Ev}{x:Str}{qual:Str}{st:Fk}{fd:Ch}{ps:List Str}
theorem Fun.okL{w:Da}{K:BT}{f:J}{k:Nat}{ah:Aq}(F:Fun K x qual st f fd)(S:aE N ps (av st))(len:∀ts Q,ah ts Q->ts.length=ps.length)
  (jv:∀(cdv:B)(A:Do)(outer:List Env)(s:ϋ)(H:Hp)(E:XK),bP k (A.deeper (envOfC qual (av st) s.heap.objs.size f cdv)) ->
   ∃t qs,rV (pP CX0 P w K mg base N qual (av st) f cdv A outer s H E).nox K (cz st) t qs/\∀ts Q t0 a,ah ts Q->ts[j]?=Z t0->t0.adr=Z a->qs (.ow j a Q) ((ts.map Sl.r).set j (.o t0)++xV (N.length - ts.length) .no))
  (Uk:∀ts Q,ah ts Q->∃t0 a,ts[j]?=Z t0/\t0.adr=Z a):aV P w K mg base CX0 (k+1) f fd ps (spL K j ah):=by
 refine F.ok S (λvs H Q E h=>?_) (λcdv A outer s H vs Q E hr h=>?_)
 ·let(dl,ts,v0,t0,F0,Qp,_,hl,_,_,_,_,_,h,_):=h;rw[hl];exact len ts Qp h
 ·let(dl,ts,v0,t0,F0,Qp,D,hl,hv,ht,r0,n0,ro,h,fin):=h;let(t,qs,hb,hq):=jv cdv A outer s H E hr;refine(t,hb.h,?_);let(aD,a,au,ea):=Uk ts Qp h;rw[ht]at au;cases au;have z:=hq ts Qp t0 a h ht ea;have hj:=(kf.mp ht).1;let(G,ro,rz):=ro;have R:=DH (N:=N) (hs:=hsq H F0) D hl hv r0 n0 ro rz hj LH;have aw:=r0.r.adr ea;have ak:∀{b:J}{o:HO},H b=Z o->b ∉ F0->iZ H F0 b=Z o:=λh n=>by rw[kD n];exact h
  have bx:∀{H':Hp}{σ:St}{q:Sq}{F':Nat->List J},Rel K dl (iZ H F0) (hsq H F0) H' σ q F'->eQ dl H F0 H':=λ{H' σ q F'} r' =>
   (λb o e n nd nr=>r'.f.k b o (ak e n) nd nr,λb x e n=>r'.f.r b x (ak e n),λb xs hb e=>(by
    let(Fp,rq,_):=r'.h _ (Gn hb e);cases rq.r with
    |q h=>exact(_,h)),r'.d)
  have fr:∀{b:J},iZ H F0 b=Y->b∈F0\/H b=none:=λ{b} h=>by
   by_cases e:b∈F0
   ·exact .inl e
   ·rw[kD e]at h;exact .inr h
  have at':∀{H':Hp}{σ:St}{q:Sq}{F':Nat->List J}{t':T},Rel K dl (iZ H F0) (hsq H F0) H' σ q F'->q[j]?=Z (.o t')->t'.adr=Z a->Rp K dl H' v0 t' (F' j):=λ{H' σ q F' t'} r' e1 e2=>by
   let(v',_,rp):=r'.g j _ _ e1 U;rw[aw,<- rp.r.adr e2];exact rp
  refine hb.s dl (iZ H F0) (hsq H F0) H _ _ _ _ (_,R) z (λH' σ q hr V=>?_,λ_ _ _ _ V=>V.elim,λ_ _ _ _ V=>V.elim,λ_ _ _ _ _ _ _ _ _ V=>V.elim,λH' σ q F' v r Fr r' rv f1 n1 dj V=>?_)
  ·let(F',r'):=hr;let(t',e1,e2,V):=V;let(o1,o2,_):=r'.o j t' e1;exact fin .non .n [] t' (F' j) H' (bx r') (at' r' e1 e2) o1 (λb hb=>fr (o2 b hb)) (.n,λ_ z=>nomatch z) mz (λ_ z=>nomatch z) (λ_ z=>nomatch z) V
  ·let(t',e1,e2,V):=V;let(o1,o2,_):=r'.o j t' e1;exact fin v r Fr t' (F' j) H' (bx r') (at' r' e1 e2) o1 (λb hb=>fr (o2 b hb)) rv n1 (λb hb=>fr (f1 b hb)) (dj j) V
variable{i:Nat}{F':List J}
section
variable{K:BT}{H₀ H':Hp}{hs:List (V×T)}{σ:St}{q:Sq}{F:Nat->List J}
def Rel.Wm{t t':T}{v:V}(r:Rel K dl H₀ hs H σ q F)(hi:q[i]?=Z (.o t))(hv:σ[i]?=Z (Z v))(f:eQ dl H (F i) H')(hr:Rp K dl H' v t' F')(n':F'.Nodup)(hF:∀b∈F',b∈F i\/H b=Y):Rel K dl H₀ hs H' σ (q.set i (.o t')) (A2 F i F'):=by
 have th:∀{b:J},b∈F i->gJ H b:=λP=>r.bM P
 have ne:∀{b:J}{o:HO},H b=Z o->o.mt=ϊ->b ∉ F i:=λ{b o} h n1 z=>by
  let(_,e,m):=th z;rw[h]at e;cases e;rw[n1]at m;cases m
 have tf:TF H H':=(λb vs h=>f.k b _ h (ne h U) (r.d.nd h (λ_ z=>nomatch z) λ_ z=>nomatch z) (λ_ z=>nomatch z),λb o u h=>f.k b _ h (ne h U) (r.d.nd h (λ_ z=>nomatch z) λ_ z=>nomatch z) (λ_ z=>nomatch z),
  λb φ h=>f.k b _ h (ne h U) (r.d.nd h (λ_ z=>nomatch z) λ_ z=>nomatch z) (λ_ z=>nomatch z),λb xs h=>(by
  by_cases P:b∈F i
  ·exact f.l b xs P h
  ·by_cases hn:Nd dl b
   ·exact(xs,f.k b _ h P hn (λ_ z=>nomatch z))
   ·obtain⟨p,hp,z⟩:∃p∈dl,¬(b≠p.1/\b≠p.2):=Classical.byContradiction λc=>hn λp hp=>Classical.byContradiction λz=>c (p,hp,z)
    let(s,n,ls,Q):=r.d p hp;let(s',n',ls',Q'):=f.d p hp;have h1:=dQ h Q.hd (λz=>nomatch z)
    have h2:=Classical.byContradiction λz'=>z (h1,z')
    exact(_,by rw[h2];exact Q'.hl)),λb x h=>f.r b x h (ne h U))
 have st:∀{w:V}{u:T}{Fw:List J},Rp K dl H w u Fw->(∀b∈Fw,b ∉ F i)->Rp K dl H' w u Fw:=λ{w u Fw} h np =>
  (h.r.eC tf (λ_ z=>z) λb P o e=>f.k b o e (np b P) (h.n b P) (.of (h.r.there b P) e),h.n)
 let(o1,o2,o3):=r.o i t hi;have out:∀j,j≠i->∀b∈F',b ∉ F j:=λj hj b P z=>by
  obtain h|h:=hF b P
  ·exact o3 j hj b h z
  ·exact(r.bM z).no h
 refine(f.d,λj x u h1 h2=>?_,λj x h1 h2=>?_,λj hj=>?_,λj u h1=>?_,λp hp=>?_,(λb o h n nr=>?_,λb x h=>?_),by simp[r.l])
 ·obtain⟨rfl,rfl,_⟩|⟨ne',h1⟩:=get_set h1
  ·cases h2;exact(v,hv,by rw[bI];exact hr)
  ·let(w,h3,h4):=r.g j x u h1 h2;exact(w,h3,by rw[bg ne'];exact st h4 λb P z=>o3 j ne' b z P)
 ·obtain⟨rfl,rfl,_⟩|⟨ne',h1⟩:=get_set h1
  ·cases h2
  ·rw[bg ne'];exact r.n j x h1 h2
 ·have hl:=(kf.mp hi).1;rw[Az]at hj;rw[bg (by lia)]
  exact r.z j hj
 ·obtain⟨rfl,e,_⟩|⟨ne',h1⟩:=get_set h1
  ·rw[bI];exact(n',λb P=>(hF b P).elim (o2 b) r.fz,λk hk b P=>by rw[bg hk];exact out k hk b P)
  ·let(p1,p2,p3):=r.o j u h1;rw[bg ne'];refine(p1,p2,λk hk b P z=>?_)
   by_cases ek:k=i
   ·subst ek;rw[bI]at z;exact out j ne' b z P
   ·rw[bg ek]at z;exact p3 k hk b P z
 ·let(Fp,h1,h2):=r.h p hp;refine(Fp,st h1 (λb P z=>h2 i t hi b z P),λj u hj b P z=>?_)
  obtain⟨rfl,e,_⟩|⟨ne',hj⟩:=get_set hj
  ·rw[bI]at P;obtain h|h:=hF b P
   ·exact h2 j t hi b h z
   ·exact gJ.no (h1.r.there b z) h
  ·rw[bg ne']at P;exact h2 j u hj b P z
 ·exact f.k b o (r.f.k b o h n nr) (λz=>by rw[o2 b z]at h;cases h) n nr
 ·let(y,hy,e1):=r.f.r b x h;let(y',ah,e2):=f.r b y e1 (λz=>by rw[o2 b z]at h;cases h)
  exact(y',Za ah hy,e2)
end
section
variable{X:Cx}{K:BT}{H₀ H':Hp}{hs:List (V×T)}{σ:St}{q:Sq}{F:Nat->List J}{a b e o:EQ}{te tk tv:TE}{qe qk qv:QE}{pos pos' p:Pos}
def Rel.J0{t t':T}(r:Rel K dl H₀ hs H σ q F)(hi:q[i]?=Z (.o t))(Q:∀v,σ[i]?=Z (Z v)->aI K dl H v t (F i)->aI K dl H v t' (F i)):Rel K dl H₀ hs H σ (q.set i (.o t')) F:=by
 refine(r.d,λj x u h1 h2=>?_,λj x h1 h2=>?_,λj P=>r.z j (by rw[Az]at P;exact P),λj u h1=>?_,λp hp=>?_,r.f,by simp[r.l])
 ·obtain⟨rfl,rfl,_⟩|⟨ne,h1⟩:=get_set h1
  ·cases h2;let(v,h3,h4):=r.g j _ t hi U;exact(v,h3,Q v h3 h4.r,h4.n)
  ·exact r.g j x u h1 h2
 ·obtain⟨rfl,rfl,_⟩|⟨ne,h1⟩:=get_set h1
  ·cases h2
  ·exact r.n j x h1 h2
 ·obtain⟨rfl,_,_⟩|⟨ne,h1⟩:=get_set h1
  ·exact r.o j t hi
  ·exact r.o j u h1
 ·let(Fp,h1,h2):=r.h p hp;refine(Fp,h1,λj u P=>?_)
  obtain⟨rfl,_,_⟩|⟨ne,P⟩:=get_set P
  ·exact h2 j t hi
  ·exact h2 j u P
def Rel.asL{p:J}{xs:List T}(r:Rel K dl H₀ hs H σ q F)(hi:q[i]?=Z (.o (.lp p xs))):Rel K dl H₀ hs H σ (q.set i (.o (.l xs))) F:=r.J0 hi λv _ h=>by
 let(vs,G,U,e,h1,h2):=h.lpp;rw[e];exact .l h1 h2
def Rel.asP{p:J}{xs:List T}(r:Rel K dl H₀ hs H σ q F)(hi:q[i]?=Z (.o (.l xs)))(hv:σ[i]?=Z (Z (.ref p))):Rel K dl H₀ hs H σ (q.set i (.o (.lp p xs))) F:=r.J0 hi λv h3 h=>by
 rw[hv]at h3;cases h3;let(z,vs,G,g,e,h1,h2):=h.lst;cases g;rw[e];exact .lp h1 h2
def fg(he:QPF X K e te qe):QPS X K (.Return (Z e) pos) (Ju te) (λD q=>qe q λr=>D.ru q r):=(pj he.h,λdl H₀ hs H σ q Dq D (F,r) hq E =>
 he.s dl H σ q _ _ r.rd hq λv t F' H' e1 P f1 Q V=>E.ru H' σ q F v t F' (r.evo e1) P (λb g=>r.fz (f1 b g)) Q (λ_ b g z=>(r.bM z).no (f1 b g)) V)
def P4(i:Nat):QE:=λq Q=>match q[i]? with
 |some (.o (.lp _ xs))=>Q (.l xs)
 |_=>False
def qvp(i:Nat){pos:Pos}(V:‹X.N[i]?=Z x›)(hv:Vis X.env.scope x:=by first|exact Or.inl rfl|exact Or.inr (Or.inl U)|exact Or.inr (Or.inr U))(hd:autoParam (AS x) zdc._auto_1)
  (P:autoParam ((x ==("__classdict__":Str))=false) zdc._auto_1):QPE X K (.Name x pos) (cc i) (P4 i):=(zx V hv hd P,λdl H σ q Q R rd z k=>by
 unfold P4 at z
 split at z
 ·rename_i a ks e;let(v,F,h1,h2):=rd.g i _ _ e U;let(vs,G,U,U,h3,h4):=h2.r.lpp;exact(_,h1,k _ (.l ks) _ H (.refl rd.d) (.l h3 h4,h2.n) z)
 ·exact z.elim)
def Kt(i:Nat)(qk qv:QE):QS:=λD q=>qv q λt=>match q[i]? with
 |some (.o (.lp a xs))=>qk q λu=>match u with
  |.i k=>∃j,ixN xs.length k=Z j/\T.ims xs=O/\t.im=O/\D.nx (q.set i (.o (.lp a (xs.set j t))))
  |_=>False
 |_=>False
def Hk(hk:kN K tk qk)(hv:kN K tv qv):ES K (uM tv (Iv (cc i) tk x8)) (Kt i qk qv):=λdl H₀ hs H σ q Dq D (F,r) P E=>by
 refine hv dl H σ q _ _ r.rd P λw t F1 H1 e1 r1 P=>?_
 split at P
 ·rename_i a xs ei;let(v,Q,rp):=(r.evo e1).g i _ _ ei U;refine(v,Q,hk dl H1 σ q _ _ (r.rd.evo e1) P λy u F2 H2 e2 r2 P=>?_)
  split at P
  ·let(j,hj,hm,ht,P):=P;let(U,_):=r2.r.int;obtain rfl:=r1.r.im ht;have ah:=rp.evo e1.d e2;let(vs,G,U,eF,h1,h2):=ah.r.lpp;have eG:=h2.im hm;subst eG;have V:i<q.length:=(kf.mp ei).1;refine(a,vs,_,j,U,U,h1,by rw[h2.len];exact hj,?_)
   have rA:=r.asL ei;let(F3,r3):=rA.vK (i:=i) (xs:=xs) (u6 V) Q eF (e1.trans e2) (aA.set (r1.evo e1.d e2).r j h2 U) mz λ_ z=>nomatch z
   have r4:=r3.asP (i:=i) (u6 (by rw[Az];exact V)) Q
   rw[List.set_set,List.set_set]at r4;exact E.nx _ _ _ (_,r4) P
  ·exact P.elim
 ·exact P.elim
def A9(ho:PE X o (cc i))(q:QPE X K a tk qk)(hv:QPE X K b tv qv)(hs:‹swapsWithSole [.Subscript o a pos'] b pos.line X.env=pure false›)(hw:‹swappedStores [.Subscript o a pos'] b X.env=pure none›)
  (h1:‹(assignEach [.Subscript o a pos'] X.env).map (·.2)=[assign (.Subscript o a pos') X.env]›)
  (ha:∀v,assign (.Subscript o a pos') X.env v=(do
   let g <- holding [v] (eval o X.env)
   let iv <- holding [v,g] (eval a X.env)
   standAt pos'
   holding [v,g,iv] (setItem g iv v)
   release [v,g,iv] []):=by intro _;rfl):QPS X K (.Assign [.Subscript o a pos'] b pos) (uM tv (Iv (cc i) tk x8)) (Kt i qk qv) :=
 (KJ hv.h (DT ho q.h set_list ha) hs hw h1,Hk q.s hv.s)
end
variable{elts:List EQ}
section
variable{X:Cx}{K:BT}{a b:EQ}{ta tb:TE}{qa qb:QE}{pos p:Pos}
inductive J9(x:V)(y:V)(H:Hp)(Q:VK):Prop
 |mk(l b xs zs:_)(h1:x=.ref l)(h2:y=.ref b)(h3:Rd H l (.lst xs))(h4:Rd H b (.lst zs))(h5:xs.length+zs.length<=ot)(h6:∀p,H p=Y->Q (.ref p) (upd H p (.lst (xs++zs))))
def OJ:OpR X (binaryOp .Add) J9:=by
 intro gd s σ H x y v u Q I rx V h;let(l,b,xs,zs,U,U,hH,hB,hz,q):=h;cases rx;cases V;let(z,its,n,r,e):=(hH.ok I.hok);let(z2,K,n2,g,e2):=(hB.ok I.hok);have hl:=r.length;have ah:=g.length;refine PySem.P.add_list e e2 ?_ (by rw[uZ,uZ];lia)
 have ea:its.toArray++K.toArray=(its++K).toArray:=by simp
 rw[ea];exact(.ref _,_,I.Wl (r.append g) (by rw[qd];omega),U,q _ I.fresh)
def Rp.Wk{v:V}{t:T}{F:List J}{ts:List T}(r:Rp K dl H v t F)(h:t.lst=Z ts):∃p vs G,v=.ref p/\Rd H p (.lst vs)/\aA K dl H vs ts G:=by
 cases t with
 |l xs=>cases h;let(p,vs,G,U,U,h1,h2):=r.r.lst;exact(p,vs,G,U,.inl h1,h2)
 |zl xs=>cases h;let(p,o,vs,U,U,h1,h2):=r.r.zls;exact(p,vs,[],U,.inr (o,h1),h2)
 |_=>cases h
def P9:Q2:=λt u Q=>∃xs ys,t.lst=Z xs/\u.lst=Z ys/\xs.length+ys.length<=ot/\T.ims xs=O/\T.ims ys=O/\Q (.l (xs++ys))
def JN:gK K J9 P9:=by
 intro dl H x y t u F G Q R D z q g k;let(xs,ys,e1,e2,hl,i1,V,g):=g;let(p,vs,G1,U,h1,f1):=z.Wk e1;let(P,ws,G2,U,h2,f2):=q.Wk e2;obtain rfl:=f1.im i1;obtain rfl:=f2.im V;refine(p,P,vs,ws,U,U,h1,h2,by rw[f1.len,f2.len];exact hl,λp hp=>?_)
 have rs:Rps K dl H (vs++ws) _ ([] ++ []):=(f1.append f2,λc hc=>nomatch hc)
 exact k _ _ _ _ ((Evo.refl D).new hp) (rs.lst D hp) (λb hb=>by rw[aB.mp hb];exact hp) (by simp) g
def FF(ha:QPE X K a ta qa)(g:QPE X K b tb qb):QPF X K (.BinOp a .Add b pos) (tOp J9 ta tb) (qOp P9 qa qb):=(fh OJ ha.h g.h,za JN ha.s g.s)
def Xi(qa:QE):QJ:=λq Q=>qa q λt=>match t with|.l xs=>Q (rn xs) q|_=>False
def Ki{x1}(hm:X.mg "enumerate"=Y)(ha:QPF X K a ta qa)(hg:Gl X "enumerate":=by exact U)(hs:‹AD X a›)(ah:‹AC X a []›)(hK:‹X.K=K›):
  QPJ X K (.Tuple elts x1 pos') (.Call (.Name "enumerate" p) [a] [] pos) (B4 K ϊ (bH ta fK)) (Xi qa):=(vT hK hg hm (by kernel_rfl) (bh ha.h dC ah) hs,λdl H₀ hs H σ q Q R (F0,P) hq k=>ha.s dl H σ q _ _ P.rd hq λv t F H' e1 r f n V=>by
 split at V
 ·have r1:=(P.evo e1).hold r λj u hj b hb z=>(P.bM hb).no (f b z)
  let(l1,g,G,U,U,h1,h2):=r.r.lst;exact(l1,U,(g,SqL.of h1),k _ _ _ H' q (F0,r1) qZ V)
 ·exact V.elim)
end
abbrev Way:=List (Sum Str Nat)
def putN(f:Str):List Str->List Str
 |[]=>[f]
 |g::r=>if g=f then g::r else g::putN f r
def f9{α:Type}(f:Str)(y:α):List Str->List α->List α
 |[],_=>[y]
 |g::r,x::ts=>if g=f then y::ts else x::f9 f y r ts
 |_::_,[]=>[]
def T.sub:Way->T->Option T
 |[],x=>Z x
 |.inl f::p,.om _ _ ns ts=>match(ns.zip ts).lookup f with
  |some u=>T.sub p u
  |none=>Y
 |.inr m::p,.l ts=>match ts[m]? with
  |some u=>T.sub p u
  |none=>Y
 |.inr m::p,.lp _ ts=>match ts[m]? with
  |some u=>T.sub p u
  |none=>Y
 |_::_,_=>Y
def T.put(u:T):Way->T->T
 |[],_=>u
 |.inl f::p,.om a C ns ts=>match(ns.zip ts).lookup f with
  |some x=>.om a C ns (f9 f (T.put u p x) ns ts)
  |none=>.om a C ns ts
 |.inr m::p,.l ts=>match ts[m]? with
  |some x=>.l (ts.set m (T.put u p x))
  |none=>.l ts
 |.inr m::p,.lp a ts=>match ts[m]? with
  |some x=>.lp a (ts.set m (T.put u p x))
  |none=>.lp a ts
 |_::_,x=>x
def VAt(H:Hp):Way->V->V->Prop
 |[],v,w=>v=w
 |.inl f::p,v,w=>∃a C dx fs x,v=.ref a/\H a=Z (.ins C dx fs)/\fs.lookup f=Z x/\VAt H p x w
 |.inr m::p,v,w=>∃a xs x,v=.ref a/\H a=Z (.lst xs)/\xs[m]?=Z x/\VAt H p x w
def VAt.uniq{p:Way}:∀{v w K:V},VAt H p v w->VAt H p v K->w=K:=by
 induction p with
 |nil=>exact λh h'=>h.symm.trans h'
 |cons s p Q =>
  intro v w K h h';cases s with
  |inl f =>
   let(a,C,dx,fs,x,e,h1,h2,h3):=h;let(a',C',ak,ah,x',P,z,q,g):=h';subst e;cases P;cases h1.symm.trans z;cases h2.symm.trans q;exact Q h3 g
  |inr m =>
   let(a,xs,x,e,h1,h2,h3):=h;let(a',xs',x',P,z,q,g):=h';subst e;cases P;cases h1.symm.trans z;cases h2.symm.trans q;exact Q h3 g
def VAt.snoc{s:Sum Str Nat}{p:Way}:∀{v w x:V},VAt H p v w->VAt H [s] w x->VAt H (p ++ [s]) v x:=by
 induction p with
 |nil=>intro v w x h h';cases h;exact h'
 |cons t p g =>
  intro v w x h h';cases t with
  |inl f=>let(a,C,dx,fs,x,e,h1,h2,h3):=h;exact(a,C,dx,fs,x,e,h1,h2,g h3 h')
  |inr m=>let(a,xs,x,e,h1,h2,h3):=h;exact(a,xs,x,e,h1,h2,g h3 h')
def T.Fd{f:Str}{p:Way}{y u:T}(h:T.sub (.inl f::p) y=Z u):∃a C ns ts x,y=.om a C ns ts/\(ns.zip ts).lookup f=Z x/\T.sub p x=Z u:=by
 cases y with
 |om a C ns ts =>
  unfold T.sub at h;cases e:(ns.zip ts).lookup f with
  |none=>rw[e]at h;cases h
  |some x=>rw[e]at h;exact(a,C,ns,ts,x,U,e,h)
 |_=>cases h
def T.Fb{m:Nat}{p:Way}{y u:T}(h:T.sub (.inr m::p) y=Z u):∃ts x,(y=.l ts\/∃a,y=.lp a ts)/\ts[m]?=Z x/\T.sub p x=Z u:=by
 cases y with
 |l ts =>
  unfold T.sub at h;cases e:ts[m]? with
  |none=>rw[e]at h;cases h
  |some x=>rw[e]at h;exact(ts,x,.inl U,e,h)
 |lp a ts =>
  unfold T.sub at h;cases e:ts[m]? with
  |none=>rw[e]at h;cases h
  |some x=>rw[e]at h;exact(ts,x,.inr (a,U),e,h)
 |_=>cases h
def T.sub_snoc{s:Sum Str Nat}{p:Way}:∀{t u x:T},T.sub p t=Z u->T.sub [s] u=Z x->T.sub (p ++ [s]) t=Z x:=by
 induction p with
 |nil=>intro t u x h h';cases h;exact h'
 |cons r p g =>
  intro t u x h h';cases r with
  |inl f =>
   let(a,C,ns,ts,y,U,e,h):=T.Fd h;show T.sub (.inl f ::(p ++ [s])) _=_;unfold T.sub;rw[e];exact g h h'
  |inr m =>
   obtain⟨ts,y,rfl |⟨_,rfl⟩,e,h⟩:=T.Fb h <;>
   ·show T.sub (.inr m ::(p ++ [s])) _=_;unfold T.sub;rw[e];exact g h h'
def E4{f:Str}{v:V}:∀{ns:List Str}{vs:List V},ns.length=vs.length->fC f v (ns.zip vs)=(putN f ns).zip (f9 f v ns vs):=by
 intro ns
 induction ns with
 |nil=>intro vs h;cases vs with|nil=>rfl|cons=>cases h
 |cons g r q =>
  intro vs h;cases vs with
  |nil=>cases h
  |cons x vs =>
   show fC f v ((g,x)::r.zip vs)=_;unfold fC putN f9
   split
   ·rfl
   ·rw[q (Nat.succ.inj h)];rfl
theorem zr{α:Type}{f:Str}{y:α}:∀{ns:List Str}{ts:List α},ns.length=ts.length->(putN f ns).length=(f9 f y ns ts).length
 |[],[],_=>rfl
 |g::r,x::ts,h=>by
  unfold putN f9
  split
  ·exact h
  ·exact congrArg (· + 1) (zr (Nat.succ.inj h))
theorem Bg{f:Str}{v:V}:∀{ns:List Str}{vs:List V},(ns.zip vs).lookup f=Z v->putN f ns=ns/\(ns.length=vs.length->f9 f v ns vs=vs)
 |[],_,h=>by cases h
 |g::r,[],h=>by cases h
 |g::r,x::vs,h=>by
  rw[show(g::r).zip (x::vs)=(g,x)::r.zip vs from U,xa]at h;unfold putN f9;by_cases e:g=f
  ·subst e;rw[beq_self_eq_true]at h;cases h;exact(if_pos U,λ_=>if_pos U)
  ·have q:=beq_eq_false_iff_ne.mpr λz=>e z.symm
   rw[q]at h;let(h1,h2):=Bg h;rw[if_neg e,if_neg e,h1];exact(U,λl=>by rw[h2 (Nat.succ.inj l)])
theorem yg{α β:Type}{f:Str}:∀{ns:List Str}{vs:List α}{ts:List β},vs.length=ts.length->((ns.zip ts).lookup f=Y ↔ (ns.zip vs).lookup f=Y)
 |[],_,_,_=>by simp
 |g::r,[],[],_=>by simp
 |g::r,x::vs,y::ts,h=>by
  rw[show(g::r).zip (x::vs)=(g,x)::r.zip vs from U,show(g::r).zip (y::ts)=(g,y)::r.zip ts from U,xa,xa]
  split
  ·simp
  ·exact yg (Nat.succ.inj h)
variable{a:J}
section
variable{K:BT}
theorem aA.fld{f:Str}{vs:List V}{ts:List T}{F:List J}(h:aA K dl H vs ts F):∀{ns:List Str}{c:T},(ns.zip ts).lookup f=Z c->∃w Fc G,(ns.zip vs).lookup f=Z w/\aI K dl H w c Fc/\F.Perm (Fc++G) /\
  ∀H' Q c' q,TF H H'->(∀b∈G,∀o,H b=Z o->H' b=Z o)->aI K dl H' Q c' q->∃F',aA K dl H' (f9 f Q ns vs) (f9 f c' ns ts) F'/\F'.Perm (q++G) :=
 h.ind (M:=λvs ts F=>∀{ns:List Str}{c:T},(ns.zip ts).lookup f=Z c->∃w Fc G,(ns.zip vs).lookup f=Z w/\aI K dl H w c Fc/\F.Perm (Fc++G) /\   ∀H' Q c' q,TF H H'->(∀b∈G,∀o,H b=Z o->H' b=Z o)->aI K dl H' Q c' q->∃F',aA K dl H' (f9 f Q ns vs) (f9 f c' ns ts) F'/\F'.Perm (q++G)) 
  (λ{ns c} e=>by cases ns <;> cases e) λv x vs ts F G hx hr ih ns c e=>by
  cases ns with
  |nil=>cases e
  |cons g r =>
   rw[show(g::r).zip (x::ts)=(g,x)::r.zip ts from U,xa]at e;by_cases eg:g=f
   ·subst eg;rw[beq_self_eq_true]at e;cases e;refine(v,F,G,?_,hx,.refl _,λH' Q c' q tf k h'=>(q++G,?_,.refl _))
    ·rw[show(g::r).zip (v::vs)=(g,v)::r.zip vs from U,xa,beq_self_eq_true]
    ·unfold f9;rw[if_pos U,if_pos rfl];exact .cons h' (hr.eC tf (λ_ z=>z) k)
   ·have P:=beq_eq_false_iff_ne.mpr λz=>eg z.symm
    rw[P]at e;let(w,Fc,G1,h1,h2,h3,h4):=ih e;refine(w,Fc,F++G1,?_,h2,((h3.append_left F).trans (YO _ _ _)),λH' Q c' q tf k h'=>?_)
    ·rw[show(g::r).zip (v::vs)=(g,v)::r.zip vs from U,xa,P];exact h1
    ·let(F',q1,q2):=h4 H' Q c' q tf (λb P=>k b (lO _ P)) h'
     unfold f9;rw[if_neg eg,if_neg eg];exact(F++F',.cons (hx.eC tf (λ_ z=>z) λb P=>k b (px _ P)) q1,(q2.append_left F).trans (YO _ _ _))
theorem aA.EA{f:Str}{w:V}{c:T}{P:List J}(hw:aI K dl H w c P):∀{ns:List Str}{vs:List V}{ts:List T}{F:List J},aA K dl H vs ts F->ns.length=ts.length->(ns.zip ts).lookup f=Y->aA K dl H (f9 f w ns vs) (f9 f c ns ts) (F++(P ++ []))
 |[],_,_,_,.nil,_,_=>.cons (F:=P) hw .nil
 |[],_,_,_,.cons _ _,l,_=>nomatch l
 |g::r,_,_,_,.nil,l,_=>nomatch l
 |g::r,_,_,_,.cons (x:=x) (ts:=ts) hx hr,l,e=>by
  rw[show(g::r).zip (x::ts)=(g,x)::r.zip ts from U,xa]at e;by_cases q:g=f
  ·subst q;rw[beq_self_eq_true]at e;cases e
  ·have Q:=beq_eq_false_iff_ne.mpr λz=>q z.symm
   rw[Q]at e;unfold f9;rw[if_neg q,if_neg q,Ay];exact .cons hx (aA.EA hw hr (Nat.succ.inj l) e)
theorem aA.itm{vs:List V}{ts:List T}{F:List J}(h:aA K dl H vs ts F):∀{i:Nat}{c:T},ts[i]?=Z c->∃w Q G,vs[i]?=Z w/\aI K dl H w c Q/\F.Perm (Q++G) /\
  ∀H' q P g,TF H H'->(∀b∈G,∀o,H b=Z o->H' b=Z o)->aI K dl H' q P g->∃F',aA K dl H' (vs.set i q) (ts.set i P) F'/\F'.Perm (g++G) :=
 h.ind (M:=λvs ts F=>∀{i:Nat}{c:T},ts[i]?=Z c->∃w Q G,vs[i]?=Z w/\aI K dl H w c Q/\F.Perm (Q++G) /\   ∀H' q P g,TF H H'->(∀b∈G,∀o,H b=Z o->H' b=Z o)->aI K dl H' q P g->∃F',aA K dl H' (vs.set i q) (ts.set i P) F'/\F'.Perm (g++G)) 
  (λ{i c} e=>nomatch e) λv x vs ts F G hx hr ih i c e=>by
  cases i with
  |zero =>
   cases e;exact(v,F,G,U,hx,.refl _,λH' q P g tf k h'=>(g++G,.cons h' (hr.eC tf (λ_ z=>z) k),.refl _))
  |succ i =>
   let(w,Q,G1,h1,h2,h3,h4):=ih (by simpa using e)
   refine(w,Q,F++G1,by simpa using h1,h2,((h3.append_left F).trans (YO _ _ _)),λH' q P g tf k h'=>?_)
   let(F',q1,q2):=h4 H' q P g tf (λb hb=>k b (lO _ hb)) h'
   exact(F++F',.cons (hx.eC tf (λ_ z=>z) λb hb=>k b (px _ hb)) q1,(q2.append_left F).trans (YO _ _ _))
def pm2{b:J}{A ό C:List J}:(a::b ::(A++ό++C)).Perm (A++(a::b ::(ό++C))):=by
 rw[Ay];exact(List.perm_middle.trans (List.perm_middle.cons _)).symm
def pm1{A ό C:List J}:(a ::(A++ό++C)).Perm (A++(a ::(ό++C))):=by
 rw[Ay];exact List.perm_middle.symm
def Hn{α:Type}{xs:List α}{x:α}(h:xs[i]?=Z x):xs.set i x=xs:=by
 let(hl,U):=kf.mp h;exact List.set_getElem_self hl
inductive Xk(K:BT)(dl:Dl)(H:Hp)(p:Way)(v:V)(t u:T)(F:List J):Prop
 |mk(w:V)(Fu G:List J)(h1:∀H1:Hp,(∀b∈G,∀o,H b=Z o->H1 b=Z o)->VAt H1 p v w)(h2:aI K dl H w u Fu)(h3:F.Perm (Fu++G))(h4:∀H' u' Fu',TF H H'->(∀b∈G,∀o,H b=Z o->H' b=Z o)->aI K dl H' w u' Fu'->∃F',aI K dl H' v (T.put u' p t) F'/\F'.Perm (Fu'++G))
def aI.zip:∀(p:Way){v:V}{t u:T}{F:List J},aI K dl H v t F->T.sub p t=Z u->Xk K dl H p v t u F:=by
 intro p
 induction p with
 |nil =>
  intro v y u F h ex;cases ex;exact(v,F,[],λ_ _=>rfl,h,by rw[qp],λH' u' Fu' _ _ h'=>(Fu',h',by rw[qp]))
 |cons s p ih =>
  intro v y u F h ex;cases s with
  |inl f =>
   let(a,C,ns,ts,c,U,ec,ex):=T.Fd ex;let(dx,vs,Q,U,U,h1,h2,h3,h4):=h.omm;let(w1,F1,z,a1,a2,a3,a4):=h4.fld ec;let(w,Fu,G2,b1,b2,b3,b4):=ih a2 ex;refine(w,Fu,a::dx ::(G2++z),λH1 k1=>(a,C,dx,_,w1,U,k1 a di _ h1,a1,b1 H1 λb g=>k1 b (aJ _ (aJ _ (px _ g)))),b2,((a3.trans (b3.append_right z)).cons dx |>.cons a).trans pm2,λH' u' Fu' tf k h'=>?_)
   let(F',q1,q2):=b4 H' u' Fu' tf (λb g=>k b (aJ _ (aJ _ (px _ g)))) h'
   let(F2,P,q4):=a4 H' w1 _ F' tf (λb g=>k b (aJ _ (aJ _ (lO _ g)))) q1
   let(s1,s2):=Bg a1;have hl:=h4.len;rw[s2 (by lia)]at P
   refine(a::dx::F2,?_,((q4.trans (q2.append_right z)).cons dx |>.cons a).trans pm2)
   unfold T.put;rw[ec];exact .om (k a di _ h1) (k dx (aJ _ di) _ h2) (h3.trans (h4.len.symm.trans P.len)) P
  |inr m =>
   let(ts,c,ey,ec,ex):=T.Fb ex;have go:∀{a vs Q},F=a::Q->v=.ref a->H a=Z (.lst vs)->aA K dl H vs ts Q->(∀{H' ah q F2},H' a=Z (.lst ah)->aA K dl H' ah q F2->aI K dl H' (.ref a) (match y with|.lp c0 _=>.lp c0 q|_=>.l q) (a::F2))->Xk K dl H (.inr m::p) v y u F:=by
    intro a vs Q e1 e2 h1 h4 back;subst e1 e2;let(w1,F1,z,a1,a2,a3,a4):=h4.itm ec;let(w,Fu,G2,b1,b2,b3,b4):=ih a2 ex;refine(w,Fu,a ::(G2++z),λH1 k1=>(a,_,w1,U,k1 a di _ h1,a1,b1 H1 λb g=>k1 b (aJ _ (px _ g))),b2,((a3.trans (b3.append_right z)).cons a).trans pm1,λH' u' Fu' tf k h'=>?_)
    let(F',q1,q2):=b4 H' u' Fu' tf (λb g=>k b (aJ _ (px _ g))) h'
    let(F2,P,q4):=a4 H' w1 _ F' tf (λb g=>k b (aJ _ (lO _ g))) q1
    rw[Hn a1]at P;refine(a::F2,?_,((q4.trans (q2.append_right z)).cons a).trans pm1);have bk:=back (k a di _ h1) P;obtain rfl |⟨b,rfl⟩:=ey <;>
    ·unfold T.put;rw[ec];exact bk
   obtain rfl |⟨b,rfl⟩:=ey
   ·let(a,vs,Q,e1,e2,h1,h4):=h.lst;exact go e2 e1 h1 h4 λg1 g2=>.l g1 g2
   ·let(vs,Q,e1,e2,h1,h4):=h.lpp;exact go e2 e1 h1 h4 λg1 g2=>.lp g1 g2
end
variable{H':Hp}
def eQ.tf{F:List J}(f:eQ dl H F H')(th:∀b∈F,gJ H b)(D:Dls dl H):TF H H':=by
 have ne:∀{b:J}{o:HO},H b=Z o->o.mt=ϊ->b ∉ F:=λ{b o} h K z=>by
  let(_,e,m):=th b z;rw[h]at e;cases e;rw[K]at m;cases m
 refine(λb vs h=>f.k b _ h (ne h U) (D.nd h (λ_ z=>nomatch z) λ_ z=>nomatch z) (λ_ z=>nomatch z),λb o u h=>f.k b _ h (ne h U) (D.nd h (λ_ z=>nomatch z) λ_ z=>nomatch z) (λ_ z=>nomatch z),
  λb φ h=>f.k b _ h (ne h U) (D.nd h (λ_ z=>nomatch z) λ_ z=>nomatch z) (λ_ z=>nomatch z),λb xs h=>?_,λb x h=>f.r b x h (ne h U))
 by_cases g:b∈F
 ·exact f.l b xs g h
 ·by_cases hn:Nd dl b
  ·exact(xs,f.k b _ h g hn (λ_ z=>nomatch z))
  ·obtain⟨p,hp,z⟩:∃p∈dl,¬(b≠p.1/\b≠p.2):=Classical.byContradiction λc=>hn λp hp=>Classical.byContradiction λz=>c (p,hp,z)
   let(s,n,ls,Q):=D p hp;let(s',V,ls',P):=f.d p hp;have h1:=dQ h Q.hd (λz=>nomatch z)
   have h2:=Classical.byContradiction λq=>z (h1,q)
   exact(_,by rw[h2];exact P.hl)
variable{G:List J}
section
variable{K:BT}{H₀:Hp}{hs:List (V×T)}{σ:St}{q:Sq}{F:Nat->List J}
def Rel.modZ{t u:T}{v w:V}{Fu:List J}{put:T->T}(r:Rel K dl H₀ hs H σ q F)(hi:q[i]?=Z (.o t))(hv:σ[i]?=Z (Z v))(h2:aI K dl H w u Fu)(h3:(F i).Perm (Fu++G))(h4:∀H' u' Fu',TF H H'->(∀b∈G,∀o,H b=Z o->H' b=Z o)->aI K dl H' w u' Fu'->∃F',aI K dl H' v (put u') F'/\F'.Perm (Fu'++G)):Rp K dl H w u Fu/\Fu.Nodup /\
  ∀H' u' Fu',eQ dl H Fu H'->Rp K dl H' w u' Fu'->Fu'.Nodup->(∀b∈Fu',b∈Fu\/H b=Y)->∃F',Rel K dl H₀ hs H' σ (q.set i (.o (put u'))) F':=by
 let(v',ah,rp):=r.g i _ t hi U;let(o1,o2,o3):=r.o i t hi;have nd:=(h3.nodup_iff.mp o1);let(n1,n2,n3):=x2.mp nd;have P:∀b,b∈Fu\/b∈G->b∈F i:=λb Q=>h3.mem_iff.mpr (mu.mpr Q)
 refine((h2,λb Q=>rp.n b (P b (.inl Q))),n1,λH' u' Fu' f r' n' hF=>?_)
 have kG:=λb Q o e=>f.k b o e (λz=>n3 b z b Q U) (rp.n b (P b (.inr Q))) (.of (r.bM (P b (.inr Q))) e)
 let(F',q1,q2):=h4 H' u' Fu' (f.tf (λb Q=>h2.there b Q) r.d) kG r'.r
 have f2:eQ dl H (F i) H':=(λb o e n=>f.k b o e λz=>n (P b (.inl z)),λb x e n=>f.r b x e λz=>n (P b (.inl z)),λb xs Q e=>(by
  by_cases z:b∈Fu
  ·exact f.l b xs z e
  ·exact(xs,f.k b _ e z (rp.n b Q) λ_ z=>nomatch z)),f.d)
 refine(_,r.Wm hi hv f2 (q1,λb Q=>?_) (q2.nodup_iff.mpr (x2.mpr (n',n2,λx hx y hy e=>?_))) λb Q=>?_)
 ·obtain z|z:=mu.mp (q2.mem_iff.mp Q)
  ·exact r'.n b z
  ·exact rp.n b (P b (.inr z))
 ·subst e;obtain z|z:=hF x hx
  ·exact n3 x z x hy U
  ·exact(r.bM (P x (.inr hy))).no z
 ·obtain z|z:=mu.mp (q2.mem_iff.mp Q)
  ·obtain z|z:=hF b z
   ·exact .inl (P b (.inl z))
   ·exact .inr z
  ·exact .inl (P b (.inr z))
def Rel.mod{p:Way}{t u:T}(r:Rel K dl H₀ hs H σ q F)(hi:q[i]?=Z (.o t))(hu:T.sub p t=Z u):∃v w Fu,σ[i]?=Z (Z v)/\(∀H1,Evo dl H H1->VAt H1 p v w)/\Rp K dl H w u Fu/\Fu.Nodup /\
  ∀H' u' Fu',eQ dl H Fu H'->Rp K dl H' w u' Fu'->Fu'.Nodup->(∀b∈Fu',b∈Fu\/H b=Y)->∃F',Rel K dl H₀ hs H' σ (q.set i (.o (T.put u' p t))) F':=by
 let(v,hv,Q):=r.g i _ t hi U;let(w,Fu,G,h1,h2,h3,h4):=Q.r.zip p hu;let(a,b,c):=r.modZ hi hv h2 h3 h4;have z:∀b,b∈G->b∈F i:=λb P=>h3.mem_iff.mpr (lO _ P)
 exact(v,w,Fu,hv,λH1 e=>h1 H1 λb P o V=>e.k b o V (Q.n b (z b P)) (.of (r.bM (z b P)) V),a,b,c)
def RdR.part{p:Way}{t u:T}{v w:V}(rd:RdR K dl H σ q)(hj:q[j]?=Z (.o t))(hv:σ[j]?=Z (Z v))(Q:T.sub p t=Z u)(hw:VAt H p v w):∃Fu,Rp K dl H w u Fu:=by
 let(v',F,h1,P):=rd.g j _ t hj U;rw[hv]at h1;cases h1;let(w',Fu,G,h1,h2,h3,_):=P.r.zip p Q;cases hw.uniq (h1 H λ_ _ _ z=>z)
 exact(Fu,h2,λb hb=>P.n b (h3.mem_iff.mpr (px _ hb)))
end
abbrev QL:=Sq->(Way->T->Prop)->Prop
def UM(K:BT)(j:Nat)(te:TE)(ql:QL):Prop:=∀(dl:Dl)(H:Hp)(σ:St)(q:Sq)(P:Way->T->Prop)(R:V->Hp->Prop),RdR K dl H σ q->ql q P ->
 (∀t v p u w,q[j]?=Z (.o t)->σ[j]?=Z (Z v)->T.sub p t=Z u->VAt H p v w->P p u->R w H)->te σ H R
structure QPL(X:Cx)(K:BT)(j:Nat)(e:EQ)(te:TE)(ql:QL):Prop where
 h:PE X e te
 s:UM K j te ql
section
variable{X:Cx}{K:BT}{a b e o:EQ}{te tb:TE}{ql:QL}{pos:Pos}{f:Str}{C:J}
def P0(j:Nat):QL:=λq P=>match q[j]? with
 |some (.o t)=>P [] t
 |_=>False
def aQ{pos:Pos}(V:‹X.N[j]?=Z x›)(hv:Vis X.env.scope x:=by first|exact Or.inl rfl|exact Or.inr (Or.inl U)|exact Or.inr (Or.inr U))(hd:autoParam (AS x) zdc._auto_1)
  (Q:autoParam ((x ==("__classdict__":Str))=false) zdc._auto_1):QPL X K j (.Name x pos) (cc j) (P0 j):=(zx V hv hd Q,λdl H σ q P R rd z k=>by
 unfold P0 at z
 split at z
 ·rename_i t e;let(v,F,h1,h2):=rd.g j _ t e U;exact(v,h1,k t v [] t v e h1 U U z)
 ·exact z.elim)
def Vz(C:J)(f:Str)(ql:QL):QL:=λq P=>ql q λp u=>match u with
 |.om _ C' ns ts=>C'=C/\∃x,(ns.zip ts).lookup f=Z x/\P (p ++ [.inl f]) x
 |_=>False
def mS(hc:Cls K C)(hn:bS K C f)(he:QPL X K j e te ql)(hb:‹attributeBase e f X.env (eval e X.env)=eval e X.env›)(hK:‹X.K=K›):QPL X K j (.Attribute e f pos) (Ru K te f) (Vz C f ql) :=
 (by subst hK;exact K9 he.h hb,λdl H σ q P R rd hq k=>he.s dl H σ q _ _ rd hq λt v p u w V hv hs hw g=>by
  split at g
  ·rename_i x C' ns ts;let(U,y,Q,g):=g;let(Fu,rp):=rd.part V hv hs hw;let(dx,vs,G,U,U,h1,h2,h3,h4):=rp.r.omm;let(z,_,_,l1,_):=h4.fld Q;exact(x,_,dx,_,z,U,h1,hc,hn,l1,k t v _ y z V hv (T.sub_snoc hs (by unfold T.sub;rw[Q];rfl)) (hw.snoc (show VAt H [.inl f] (.ref x) z from(x,_,dx,_,z,U,h1,l1,U))) g)
  ·exact g.elim)
def XO(n:Int)(ql:QL):QL:=λq P=>ql q λp u=>match u with
 |.l xs=>∃m x,ixN xs.length n=Z m/\xs[m]?=Z x/\P (p ++ [.inr m]) x
 |_=>False
def Vx{n:Int}(he:QPL X K j e te ql)(hb:PE X b tb)(hn:∀σ H R,R (.int n) H->tb σ H R)(hs:rW b:=by intro _ _;rfl)(hK:‹X.K=K›):QPL X K j (.Subscript e b pos) (tOp (rIx K) te tb) (XO n ql) :=
 (by subst hK;exact FT zT he.h hb hs,λdl H σ q P R rd hq k=>he.s dl H σ q _ _ rd hq λt v p u w Q hv hs hw g=>by
  split at g
  ·let(m,x,hm,hx,g):=g;let(Fu,V):=rd.part Q hv hs hw;let(a,vs,G,U,U,h1,h2):=V.r.lst;let(z,_,_,l1,_):=h2.itm hx;refine hn _ _ _ (.inl (a,vs,n,z,U,U,SqL.of h1,pQ (by rw[h2.len];exact hm) l1,k t v _ x z Q hv (T.sub_snoc hs (by unfold T.sub;rw[hx];rfl)) (hw.snoc (show VAt H [.inr m] (.ref a) z from(a,_,z,U,h1,l1,U))) g))
  ·exact g.elim)
def XR(ql:QL):QE:=λq Q=>ql q λ_ u=>Q u
def fZ(he:QPL X K j e te ql):QPE X K e te (XR ql):=(he.h,λdl H σ q Q R rd P k=>he.s dl H σ q _ _ rd P λt v p u w V hv hs hw z=>by
 let(Fu,g):=rd.part V hv hs hw;exact k w u Fu H (.refl rd.d) g z)
end
def Dd{x b:J}{o:HO}{S:List J}(hx:x ∉ S)(g:b∈S):upd H x o b=H b:=ax λz=>hx (by rw[<- z];exact g)
def Jn{x b:J}{o:HO}{S:List J}(hx:x∈S)(g:b ∉ S):upd H x o b=H b:=ax λz=>g (by rw[z];exact hx)
variable{H1:Hp}
def eQ.yY{Fu:List J}{x:J}{o:HO}(e:Evo dl H H1)(hx:x∈Fu)(hn:∀b∈Fu,Nd dl b)(hl:∀xs,H x=Z (.lst xs)->∃ys,o=.lst ys):eQ dl H Fu (upd H1 x o) where
 k:=λb ob h nb n g=>by rw[Jn hx nb];exact e.k b ob h n g
 r:=λb y h nb=>by rw[Jn hx nb];exact e.r b y h
 l:=λb xs q h=>by
  by_cases z:b=x
  ·subst z;let(ys,U):=hl xs h;exact(ys,aC)
  ·exact(xs,by rw[ax z];exact e.k b _ h (hn b q) λ_ z=>nomatch z)
 d:=λp hp=>(e.d p hp).other (hn x hx p hp).1 (hn x hx p hp).2
section
variable{K:BT}
theorem Rp.fC{f:Str}{x C dx:J}{ns:List Str}{vs:List V}{ts:List T}{G Fy:List J}{y:V}{ty:T}{w:V}(hu:Rp K dl H w (.om x C ns ts) (x::dx::G))(e:Evo dl H H1)(D:Dls dl H)(q:H1 x=Z (.ins C dx (ns.zip vs)))(hy:Rp K dl H1 y ty Fy)(nu:(x::dx::G).Nodup)(ny:Fy.Nodup)(fy:∀b∈Fy,H b=Y)(hv:vs.length=ns.length):
  ∃Fu',Rp K dl (upd H1 x (.ins C dx (L2.fC f y (ns.zip vs)))) w (.om x C (putN f ns) (f9 f ty ns ts)) Fu'/\Fu'.Nodup/\∀b∈Fu',b∈x::dx::G\/H b=none:=by
 have au:=hu.evo D e;let(aH,aD,G',U,eG,h1,h2,h3,h4):=au.r.omm;injection eG with _ eG
 injection eG with e1 eG
 subst e1 eG;rw[q]at h1;injection h1 with h1
 injection h1 with _ _ h1
 have aw:=h4.len;obtain rfl:=zip_inj hv (aw.trans h3.symm) h1;have ah:x≠dx:=λz=>(xj.mp nu).1 (by rw[z];exact di)
 have Q:=λz=>(xj.mp nu).1 (aJ _ z)
 have P:TF H1 (upd H1 x (.ins C dx (L2.fC f y (ns.zip vs)))):=eQ.tf (eQ.yY (.refl e.d) (di) (λb g=>by rw[aB.mp g];exact hu.n x di) (λxs h=>by rw[h]at q;cases q)) (λb g=>by rw[aB.mp g];exact(_,q,U)) e.d
 have th:=λb g=>hu.r.there b g
 have yx:=λb g z=>(th b z).no (fy b g)
 have ky:∀b∈Fy,∀o,H1 b=Z o->upd H1 x (.ins C dx (L2.fC f y (ns.zip vs))) b=Z o:=λb g o h=>by
  rw[ax λz=>yx b g (by rw[z];exact di)];exact h
 have ry:=hy.r.eC P (λ_ z=>z) ky
 have hd2:upd H1 x (.ins C dx (L2.fC f y (ns.zip vs))) dx=Z (.own x):=by rw[ax ah.symm];exact h2
 have ak:upd H1 x (.ins C dx (L2.fC f y (ns.zip vs))) x=Z (.ins C dx ((putN f ns).zip (f9 f y ns vs))):=by rw[aC,E4 (by lia)]
 obtain⟨F',q1,q2,q3⟩:∃F',aA K dl (upd H1 x (.ins C dx (L2.fC f y (ns.zip vs)))) (f9 f y ns vs) (f9 f ty ns ts) F'/\F'.Nodup/\∀b∈F',b∈G\/b∈Fy:=by
  have nG:=(xj.mp (xj.mp nu).2).2;cases hl:(ns.zip ts).lookup f with
  |none =>
   refine(G++(Fy ++ []),aA.EA ry (h4.eC P (λ_ z=>z) λb g o h=>by rw[Dd Q g];exact h) h3 hl,?_,λb g=>?_)
   ·rw[qp];exact x2.mpr (nG,ny,λa ha b g z=>yx b g (by rw[<- z];exact aJ _ (aJ _ ha)))
   ·rw[qp]at g;exact mu.mp g
  |some c =>
   let(w1,Fc,G1,_,_,a3,a4):=h4.fld hl;let(F',q1,q2):=a4 _ y ty Fy P (λb g o h=>by rw[Dd Q (a3.mem_iff.mpr (lO _ g))];exact h) ry
   have n1:=(x2.mp (a3.nodup_iff.mp nG)).2.1;refine(F',q1,q2.nodup_iff.mpr (x2.mpr (ny,n1,λa ha b g z=>yx a ha (by rw[z];exact aJ _ (aJ _ (a3.mem_iff.mpr (lO _ g)))))),λb g=>?_)
   obtain z|z:=mu.mp (q2.mem_iff.mp g)
   ·exact .inr z
   ·exact .inl (a3.mem_iff.mpr (lO _ z))
 have out:∀b∈F',b≠x/\b≠dx:=λb g=>by
  obtain z|z:=q3 b g
  ·exact(λe=>Q (e▸z),λe=>(xj.mp (xj.mp nu).2).1 (e▸z))
  ·exact(λe=>yx b z (by rw[e];exact di),λe=>yx b z (by rw[e];exact aJ _ di))
 refine(x::dx::F',(.om ak hd2 (zr (by omega)) q1,λb g=>?_),xj.mpr (λz=>?_,xj.mpr (λz=>(out dx z).2 U,q2)),λb g=>?_)
 ·obtain z|g:=fx.mp g
  ·rw[z];exact hu.n x di
  ·obtain z|g:=fx.mp g
   ·rw[z];exact hu.n dx (aJ _ di)
   ·obtain z|z:=q3 b g
    ·exact hu.n b (aJ _ (aJ _ z))
    ·exact hy.n b z
 ·obtain z|z:=fx.mp z
  ·exact ah z
  ·exact(out x z).1 U
 ·obtain z|g:=fx.mp g
  ·rw[z];exact .inl di
  ·obtain z|g:=fx.mp g
   ·rw[z];exact .inl (aJ _ di)
   ·obtain z|z:=q3 b g
    ·exact .inl (aJ _ (aJ _ z))
    ·exact .inr (fy b z)
end
section
variable{X:Cx}{K:BT}{b o:EQ}{te tv:TE}{qv:QE}{ql:QL}{pos pos':Pos}{f:Str}{C:J}
def VH(j:Nat)(C:J)(f:Str)(ql:QL)(qv:QE):QS:=λD q=>qv q λy=>ql q λp u=>match u with
 |.om x C' ns ts=>C'=C/\ns.length<1000/\Ex3 (λt=>q[j]?=Z (.o t)) (λt=>(q.set j (.o (T.put (.om x C (putN f ns) (f9 f y ns ts)) p t)))) D.nx
 |_=>False
def nM(hc:Cls K C)(hn:bS K C f)(he:QPL X K j o te ql)(hv:QPF X K b tv qv)(hs:‹swapsWith b (Z (.Attribute o f pos')) pos.line X.env=pure false›)(hK:‹X.K=K›):
  QPS X K (.Assign [.Attribute o f pos'] b pos) (NF K te tv f) (VH j C f ql qv):=(by subst hK;exact DR he.h hv.h hs,λdl H₀ hs H σ q Dq D (F,r) hq E=>by
 refine hv.s dl H σ q _ _ r.rd hq λy ty Fy H1 e1 r1 f1 n1 g=>(he.s dl H1 σ q _ _ (r.rd.evo e1) g λt v p u w hj ak hs hw g=>?_)
 split at g
 ·rename_i x C' ns ts;let(U,hl,t',V,g):=g;rw[hj]at V;cases V;let(v2,w2,Fu,Q,ah,ru,nu,md):=r.mod hj hs;rw[ak]at Q;cases Q;cases hw.uniq (ah H1 e1);let(dx,vs,G,U,U,h1,h2,h3,h4):=ru.r.omm;have au:=h4.len;have P:=e1.k x _ h1 (ru.n x di) (λ_ z=>nomatch z)
  let(Fu',q1,q2,q3):=Rp.fC ru e1 r.d P r1 nu n1 f1 (by lia)
  let(F',r'):=md _ _ Fu' (eQ.yY e1 di ru.n λxs h=>by rw[h]at h1;cases h1) q1 q2 q3
  exact(x,_,dx,_,U,P,hc,hn,by rw[ZG];lia,E.nx _ σ _ (_,r') g)
 ·exact g.elim)
end
variable{l:J}
section
variable{K:BT}
def Rp.putL{w:V}{xs ys:List T}{ws:List V}{q:List J}(P:Rp K dl H w (.l xs) (l::G))(D:Dls dl H)(nu:(l::G).Nodup)(e:Evo dl H H1)(rs:aA K dl H1 ws ys q)(nG:∀b∈q,Nd dl b)(hn:q.Nodup)(hG:∀b∈q,b∈G\/H b=Y):
  Rp K dl (upd H1 l (.lst ws)) w (.l ys) (l::q)/\(l::q).Nodup/\(∀b∈l::q,b∈l::G\/H b=Y)/\eQ dl H (l::G) (upd H1 l (.lst ws)):=by
 let(l',vs,G0,U,eG,h1,h2):=P.r.lst;injection eG with e1 eG
 subst e1 eG;have lG:l ∉ q:=λz=>by
  obtain z|z:=hG l z
  ·exact(xj.mp nu).1 z
  ·rw[h1]at z;cases z
 have ah:=e.k l _ h1 (P.n l di) (λ_ z=>nomatch z)
 have Q:=eQ.tf (eQ.yY (.refl e.d) (di) (λb g=>by rw[aB.mp g];exact P.n l di) (λxs _=>(ws,U))) (λb g=>by rw[aB.mp g];exact(_,ah,U)) e.d
 refine((.l aC (rs.eC Q (λ_ z=>z) λb g o h=>by rw[Dd lG g];exact h),λb g=>?_),xj.mpr (lG,hn),λb g=>?_,eQ.yY e di P.n λxs _=>(ws,U))
 ·obtain z|z:=fx.mp g
  ·rw[z];exact P.n l di
  ·exact nG b z
 ·obtain z|z:=fx.mp g
  ·rw[z];exact .inl di
  ·exact(hG b z).imp (aJ _) id
end
section
variable{X:Cx}{K:BT}{a b e o:EQ}{te tv:TE}{qv:QE}{ql:QL}{pos apos a5 gh Js:Pos}{f:Str}{C:J}
def VT(j:Nat)(C:J)(f:Str)(ql:QL)(qv:QE):QS:=λD q=>ql q λp u=>match u with
 |.om x C' ns ts=>C'=C/\ns.length<1000/\∃n,(ns.zip ts).lookup f=Z (.i n)/\qv q λy=>match y with
  |.i m=>Ex3 (λt=>q[j]?=Z (.o t)) (λt=>(q.set j (.o (T.put (.om x C (putN f ns) (f9 f (.i (n+m)) ns ts)) p t)))) D.nx
  |_=>False
 |_=>False
def NS(hc:Cls K C)(hn:bS K C f)(au:UP X .Add RO)(he:QPL X K j o te ql)(hv:QPE X K b tv qv)(hK:‹X.K=K›):
  QPS X K (.AugAssign (.Attribute o f Js) .Add b pos) (Fz K te tv RO f) (VT j C f ql qv):=(by subst hK;exact Hy he.h hv.h au,λdl H₀ hs H σ q Dq D (F,r) hq E=>by
 refine he.s dl H σ q _ _ r.rd hq λt v p u w hj ak hs hw g=>?_
 split at g
 ·rename_i x C' ns ts;let(U,hl,n,aw,g):=g;let(v2,w2,Fu,Q,ah,ru,nu,md):=r.mod hj hs;rw[ak]at Q;cases Q;cases hw.uniq (ah H (.refl r.d));let(dx,vs,G,U,U,h1,h2,h3,h4):=ru.r.omm;let(w1,_,_,l1,l2,_):=h4.fld aw;let(U,_):=l2.int;refine(x,_,dx,_,_,U,h1,hc,hn,l1,hv.s dl H σ q _ _ r.rd g λy ty Fy H1 e1 r1 g=>?_)
  split at g
  ·rename_i m;let(t',V,g):=g;rw[hj]at V;cases V;let(U,U):=r1.r.int;have aD:=h4.len;have P:=e1.k x _ h1 (ru.n x di) (λ_ z=>nomatch z)
   let(Fu',q1,q2,q3):=Rp.fC ru e1 r.d P (.i _,λ_ z=>nomatch z) nu mz (λ_ z=>nomatch z) (by lia)
   let(F',r'):=md _ _ Fu' (eQ.yY e1 di ru.n λxs h=>by rw[h]at h1;cases h1) q1 q2 q3
   exact(n,m,U,U,dx,_,P,by rw[ZG];lia,E.nx _ σ _ (_,r') g)
  ·exact g.elim
 ·exact g.elim)
def VU(j:Nat)(ql:QL)(qv:QE):QS:=λD q=>ql q λp u=>match u with
 |.l xs=>xs.length<ot/\qv q λy=>Ex3 (λt=>q[j]?=Z (.o t)) (λt=>(q.set j (.o (T.put (.l (xs ++ [y])) p t)))) D.nx
 |_=>False
def NU(he:QPL X K j o te ql)(hv:QPF X K e tv qv)(hK:‹X.K=K›)(eI:‹attributeBase o "append" X.env (eval o X.env)=eval o X.env›)
  (kb:‹At X a5 [e]›)
  (eD:‹(apos.endLine==a5.line)=true›) (hs:‹AC X e []›) (dg:‹(backTo a5 (dO [] X.env)).any (·.1)=false›)
  (aD:‹swapsWith (.Call (.Attribute o "append" apos) [e] [] a5) Y gh.line X.env=pure false›):
  QPS X K (.Expr (.Call (.Attribute o "append" apos) [e] [] a5) gh) (mD (tBM K "list" k8 te (bH tv fK))) (VU j ql qv) :=
 (jD (by subst hK;exact ye PySem.F.plainAttrs_list PySem.F.slot_list_append PySem.F.type_list_append yf he.h (bh hv.h dC hs) eI kb eD hs dg) aD,λdl H₀ hs H σ q Dq D (F,r) hq E=>by
 refine he.s dl H σ q _ _ r.rd hq λt v p u w hj aw hs hw g=>?_
 split at g
 ·let(hl,g):=g;let(v2,w2,Fu,Q,au,ru,nu,md):=r.mod hj hs;rw[aw]at Q;cases Q;cases hw.uniq (au H (.refl r.d));let(l,vs,G,U,U,h1,h2):=ru.r.lst;refine(.inl (U,vs,SqL.of h1),hv.s dl H σ q _ _ r.rd g λy ty Fy H1 e1 r1 f1 n1 g=>?_)
  let(t',V,g):=g;rw[hj]at V;cases V;have ak:=ru.evo r.d e1;let(l',aL,G',el,eG,ah,aH):=ak.r.lst;cases eG;have e0:=e1.k l _ h1 (ru.n l di) (λ_ z=>nomatch z)
  rw[e0]at ah;cases ah;let(q1,q2,q3,q4):=Rp.putL ru r.d nu e1 (aH.append (.cons r1.r .nil)) (λb P=>by
   rw[qp]at P;obtain z|z:=mu.mp P
   ·exact ru.n b (aJ _ z)
   ·exact r1.n b z) (by
   rw[qp];exact x2.mpr ((xj.mp nu).2,n1,λa ha b P z=>(ru.r.there a (aJ _ ha)).no (f1 a (by rw[z];exact P)))) (λb P=>by
   rw[qp]at P;obtain z|z:=mu.mp P
   ·exact .inl z
   ·exact .inr (f1 b z))
  let(F',r'):=md _ _ _ q4 q1 q2 q3;exact(l,_,y,U,U,e0,by rw[h2.len];exact hl,E.nx _ σ _ (_,r') g)
 ·exact g.elim)
end
def eQ.pre{F:List J}(e:Evo dl H H1)(f:eQ dl H1 F H')(hn:∀b∈F,Nd dl b):eQ dl H F H' where
 k:=λb o h nb n g=>f.k b o (e.k b o h n g) nb n g
 r:=λb x h nb=>let(y,P,V):=e.r b x h;let(z,K,Q):=f.r b y V nb;(z,Za K P,Q)
 l:=λb xs q h=>f.l b xs q (e.k b _ h (hn b q) λ_ z=>nomatch z)
 d:=f.d
variable{n:Nat}{H₀:Hp}{q:Sq}
section
variable{X:Cx}{K:BT}{k:Nat}{b e o:EQ}{es:List EQ}{to:TE}{qo:QE}{tl:TA}{qa:QA}{ql:QL}{pos pos' apos gh:Pos}{m:Str}{C f:J}{prs:List Str}{ps:PSp}{pl:Aq}
def Kv(C:J)(m:Str)(ps:PSp)(qo:QE)(qa:QA):QE:=λq Q=>qo q λt=>match t with
 |.om x C' ns ts=>C'=C/\(ns.zip ts).lookup m=Y/\qa q λus=>ps (.om x C' ns ts::us) Q
 |_=>False
def Hl(ho:kN K to qo)(ha:An K n tl qa):kM K (tY C m (spQ K ps) [] E0 to tl) (Kv C m ps qo qa):=λdl H σ q Q R rd hq kk=>ho dl H σ q _ _ rd hq λw t Fu H1 V r1 g=>by
 split at g
 ·rename_i x C' ns ts;let(U,hl,g):=g;let(dx,vs,G,U,U,h1,h2,h3,h4):=r1.r.omm;refine(x,dx,_,U,h1,(yg h4.len).mp hl,ha dl H1 σ q _ _ (rd.evo V) g λws us Fa H2 P r2 _ g=>?_)
  rw[qp];have z:=r1.evo V.d P;refine(dl,_,_,_,P.d,(.cons z.r r2.r,λb hb=>(mu.mp hb).elim (z.n b) (r2.n b)),g,λv t F' H' e3 r3 f3 n3 g=>kk v t F' H' ((V.trans P).trans e3) r3 (λb hb=>(V.trans P).free (f3 b hb)) n3 g)
 ·exact g.elim
def vD:An K 0 fK (λ_ Q=>Q []):=λdl H σ q Q R rd P g=>g [] [] [] H (.refl rd.d) (.nil,λ_ z=>nomatch z) U P
def eT(P:Cls K C)(hm:Meth K C m f)(G:aV X.prog X.w X.K X.mg X.base CX0 k f fd prs (spQ K ps))(hr:bP k X.A)(V:Binds K fd prs [])(ho:QPE X K o to qo)(hK:‹X.K=K›)
  {g:Sem Bool} (z:‹eval (.Call (.Attribute o m apos) [] [] pos) X.env=(do
   let q <- eval o X.env
   standAt apos.atName
   let(f,first) <- holding [q] (getMethod q m g)
   callWith pos f first (backTo pos (dO [] X.env)) (backToKw pos (keywordEach [] X.env)))›):
  QPF X K (.Call (.Attribute o m apos) [] [] pos) (tY C m (spQ K ps) [] E0 to fK) (Kv C m ps qo λ_ Q=>Q []):=(by subst hK;exact vU ho.h P hm G hr V .nil ub z,Hl ho.s vD)
def DL(j:Nat)(C:J)(m:Str)(pl:Aq)(ql:QL)(qa:QA)(q:Sq)(R:T->Sq->Prop):Prop:=ql q λp u=>match u with
 |.om x C' ns ts=>C'=C/\(ns.zip ts).lookup m=Y/\qa q λus=>T.ims us=O/\pl (.om x C' ns ts::us) λr u'=>u'.adr=Z x/\r.im=O/\Ex3 (λt=>q[j]?=Z (.o t)) (λt=>q.set j (.o (T.put u' p t))) (R r)
 |_=>False
def x4{hs:List (V×T)}{σ:St}{R:T->Sq->Prop}{Q:VK}(ho:UM K j to ql)(ha:An K n tl qa)(hr:cJ K dl H₀ hs H σ q)(hq:DL j C m pl ql qa q R)
  (kk:∀v r q' H',cJ K dl H₀ hs H' σ q'->Rp K dl H' v r []->R r q'->Q v H'):tY C m (spL K 0 pl) [] E0 to tl σ H Q:=by
 let(F,r):=hr;refine ho dl H σ q _ _ r.rd hq λt v p u w hj hv aw hw g=>?_
 split at g
 ·rename_i x C' ns ts;let(U,hl,g):=g;let(v2,w2,Fu,P,au,ru,nu,md):=r.mod hj aw;rw[hv]at P;cases P;cases hw.uniq (au H (.refl r.d));let(dx,vs,G,U,eF,h1,h2,h3,h4):=ru.r.omm;refine(x,dx,_,U,h1,(yg h4.len).mp hl,ha dl H σ q _ _ r.rd g λws us Fa H2 e2 r2 _ g=>?_)
  let(aD,g):=g;rw[qp];refine(dl,_,.ref x,.om x C' ns ts,Fu,_,e2.d,by rw[my,my,r2.r.len],U,U,ru.evo r.d e2,nu,.im λi v t ne a1 a2=>?_,g,λv rr Fr t' F' H' bx ak n' aH rv _ _ _ g=>?_)
  ·cases i with
   |zero=>exact absurd U ne
   |succ i=>exact(r2.r.im1 aD i v t (by simpa using a1) (by simpa using a2),λ_ z=>nomatch z)
  ·let(_,ri,t0,ah,g):=g;rw[hj]at ah;cases ah;let(F2,r'):=md H' t' F' (bx.pre e2 ru.n) ak n' λb hb=>(aH b hb).imp id e2.free
   obtain rfl:=rv.r.im ri;exact kk v rr _ H' (F2,r') rv g
 ·exact g.elim
def Ke(hc:Cls K C)(hm:Meth K C m f)(G:aV X.prog X.w X.K X.mg X.base CX0 k f fd prs (spL K 0 pl))(hr:bP k X.A)(hb:Binds K fd prs [])(ho:QPL X K j o to ql)(ha:QPA X K (e::es) tl qa)(hK:‹X.K=K›)
  {g:Sem Bool} (z:‹AC X e es›) (P:‹AM X pos es›)
  (ht:‹eval (.Call (.Attribute o m apos) (e::es) [] pos) X.env=(do
   let Q <- eval o X.env
   standAt apos.atName
   let(f,first) <- holding [Q] (getMethod Q m g)
   callWith pos f first (backTo pos (dO (e::es) X.env)) (backToKw pos (keywordEach [] X.env)))›) (hs:‹swapsWith (.Call (.Attribute o m apos) (e::es) [] pos) Y gh.line X.env=pure false›):
  QPS X K (.Expr (.Call (.Attribute o m apos) (e::es) [] pos) gh) (mD (tY C m (spL K 0 pl) [] E0 to tl)) (λD q=>DL j C m pl ql qa q λ_ q'=>D.nx q') :=
 (jD (by subst hK;exact Oy ho.h hc hm G hr hb .nil ub ha.h z P ht) hs,λdl H₀ hs H σ q Dq D r hq E=>x4 ho.s ha.s r hq λv rr q' H' r' _ V=>E.nx H' σ q' r' V)
def aA.each{vs:List V}{ts:List T}{F:List J}(h:aA K dl H vs ts F):∃G:Nat->List J,(∀i v t,vs[i]?=Z v->ts[i]?=Z t->aI K dl H v t (G i)/\∀b∈G i,b∈F)/\∀i,ts.length<=i->G i=[] :=
 h.ind (λ_=>[],λi v t h=>by simp at h,λ_ _=>rfl) λv x vs ts z P r _ q=>by
  let(G,g1,g2):=q;refine(λi=>match i with | 0=>z|i+1=>G i,λi w t h1 h2=>?_,λi hi=>?_)
  ·cases i with
   |zero=>cases h1;cases h2;exact(r,λb g=>px _ g)
   |succ i=>exact((g1 i w t (by simpa using h1) (by simpa using h2)).1,λb g=>lO _ ((g1 i w t (by simpa using h1) (by simpa using h2)).2 b g))
  ·cases i with
   |zero=>simp at hi
   |succ i=>exact g2 i (by simpa using hi)
def Kw(C:J)(pl:Aq)(qa:QA):QE:=λq Q=>qa q λus=>∀x,pl (.om x C [] []::us) λr u'=>r=.n/\u'.adr=Z x/\Q u'
def Hm(ha:An K n tl qa):kM K (E9 C (spL K 0 pl) [] E0 tl) (Kw C pl qa):=λdl H σ q Q R rd hq kk=>ha dl H σ q _ _ rd hq λws us Fa H1 g r1 _ hz=>by
 intro x dx nx P ne;rw[qp];have e2:Evo dl H1 (upd (upd H1 dx (.own x)) x (.ins C dx [])):=((Evo.refl g.d).new P).new (by rw[ax ne.symm];exact nx)
 have r2:=r1.evo g.d e2;have ro:Rp K dl (upd (upd H1 dx (.own x)) x (.ins C dx [])) (.ref x) (.om x C [] []) [x,dx]:=(.om aC (by rw[ax ne,aC]) U .nil,λb V=>by
  obtain z|z:=fx.mp V
  ·rw[z];exact g.d.nd0 nx
  ·rw[aB.mp z];exact g.d.nd0 P)
 refine(dl,_,.ref x,.om x C [] [],[x,dx],_,e2.d,by rw[my,my,r2.r.len],U,U,ro,by simp[ne.symm],?_,hz x,λv rr Fr t' F' H' bx ah n' ak rv _ _ _ hz=>?_)
 ·let(G,g1,g2):=r1.r.each;refine(λi=>match i with | 0=>[]|i+1=>G i,λi v t hi a1 a2=>?_,λi hi=>?_)
  ·cases i with
   |zero=>exact absurd U hi
   |succ i =>
    let(p1,p2):=g1 i v t (by simpa using a1) (by simpa using a2)
    have rp:Rp K dl H1 v t (G i):=(p1,λb V=>r1.n b (p2 b V))
    refine(rp.evo g.d e2,λb V z=>?_)
    have th:=p1.there b V;obtain z|z:=fx.mp z
    ·rw[z]at th;exact th.no nx
    ·rw[aB.mp z]at th;exact th.no P
  ·cases i with
   |zero=>rfl
   |succ i=>exact g2 i (by simpa using hi)
 ·let(U,_,hz):=hz;let(U,_):=rv.r.non;have out:∀{b:J}{o:HO},H b=Z o->b ∉ [x,dx]:=λ{b o} h z=>by
   obtain z|z:=fx.mp z
   ·rw[z,g.free nx]at h;cases h
   ·rw[aB.mp z,g.free P]at h;cases h
  have ev:Evo dl H H':=(λb o h n nr=>bx.k b o (e2.k b o (g.k b o h n nr) n nr) (out h) n nr,bx.d,λb y h=>let(y1,l1,h1):=(g.trans e2).r b y h;let(y2,l2,h2):=bx.r b y1 h1 (out h);(y2,Za l2 l1,h2))
  refine(U,kk _ t' F' H' ev ah (λb V=>?_) n' hz)
  obtain z|z:=ak b V
  ·obtain z|z:=fx.mp z
   ·rw[z];exact g.free nx
   ·rw[aB.mp z];exact g.free P
  ·exact(g.trans e2).free z
def Kn(M:Mk K C f)(G:aV X.prog X.w X.K X.mg X.base CX0 k f fd prs (spL K 0 pl))(hr:bP (k+1) X.A)(hg:Gl X x)(hm:X.mg x=Z (.ref C))(P:Binds K fd prs [])(ha:QPA X K (e::es) tl qa)(Q:‹X.K=K›)
  (z:autoParam (AS x) zdc._auto_1) (g:‹AC X e es›) (q:‹AM X pos es›):
  QPF X K (.Call (.Name x pos') (e::es) [] pos) (E9 C (spL K 0 pl) [] E0 tl) (Kw C pl qa):=(by subst Q;exact FR M G hr hg hm P .nil ub ha.h z g q,Hm ha.s)
end
end L2
namespace PySem
open Sem (wp)
end PySem
namespace L2
open PySem PySem.Spec PyProof.Rows
end L2
namespace PySem
open Sem (wp)
end PySem
namespace L2
open PySem PySem.Spec PyProof.Rows
variable{C:J}
section
variable{X:Cx}{K:BT}{e b:EQ}{te:TE}{qe:QE}{pos:Pos}
def VS(C:J)(f:Str)(qe:QE):QE:=λq Q=>qe q λt=>match t with
 |.om _ C' ns ts=>C'=C/\Ex2 (λu=>(ns.zip ts).lookup f=Z u) Q
 |_=>False
def la{f:Str}(hc:Cls K C)(hn:bS K C f)(he:QPE X K e te qe)(z:‹attributeBase e f X.env (eval e X.env)=eval e X.env›)(hK:‹X.K=K›):QPE X K (.Attribute e f pos) (Ru K te f) (VS C f qe) :=
 (by subst hK;exact K9 he.h z,λdl H σ q Q R rd hq k=>he.s dl H σ q _ _ rd hq λv t F H1 e1 V g=>by
  split at g
  ·let(U,u,hu,g):=g;let(dx,vs,G,U,U,h1,h2,h3,h4):=V.r.omm;let(P,Fc,G1,l1,l2,l3,_):=h4.fld hu;exact(_,_,dx,_,P,U,h1,hc,hn,l1,k P u Fc H1 e1 (l2,λb z=>V.n b (aJ _ (aJ _ (l3.mem_iff.mpr (px _ z))))) g)
  ·exact g.elim)
end
namespace TM
open Sem (wp)
open Builtin
end TM
end L2
namespace PySem
open AutoSeq1 (wpAny_loadPart')
open MeetsSeq MeetsSeq2 MeetsSeq3
end PySem
namespace L2
open PySem PySem.Spec PyProof.Rows
abbrev QEL:=Sq->(T->Sq->Prop)->Prop
def Xo(K:BT)(te:TE)(qe:QEL):Prop:=∀(dl:Dl)(H₀:Hp)(hs:List (V×T))(H:Hp)(σ:St)(q:Sq)(R:T->Sq->Prop)(Q:VK),cJ K dl H₀ hs H σ q->qe q R->(∀v t q' H',cJ K dl H₀ hs H' σ q'->Rp K dl H' v t []->R t q'->Q v H')->te σ H Q
structure Xs(X:Cx)(K:BT)(e:EQ)(te:TE)(qe:QEL):Prop where
 h:PE X e te
 s:Xo K te qe
section
variable{X:Cx}{K:BT}{j k:Nat}{o:EQ}{to:TE}{ql:QL}{pos apos:Pos}{m:Str}{C f:J}{fd:Ch}{prs:List Str}{pl:Aq}
def kA(hc:Cls K C)(hm:Meth K C m f)(G:aV X.prog X.w X.K X.mg X.base CX0 k f fd prs (spL K 0 pl))(hr:bP k X.A)(hb:Binds K fd prs [])(ho:QPL X K j o to ql)(hK:‹X.K=K›)
  {g:Sem Bool} (V:‹eval (.Call (.Attribute o m apos) [] [] pos) X.env=(do
   let z <- eval o X.env
   standAt apos.atName
   let(f,first) <- holding [z] (getMethod z m g)
   callWith pos f first (backTo pos (dO [] X.env)) (backToKw pos (keywordEach [] X.env)))›):
  Xs X K (.Call (.Attribute o m apos) [] [] pos) (tY C m (spL K 0 pl) [] E0 to fK) (DL j C m pl ql λ_ Q=>Q []) :=
 (by subst hK;exact vU ho.h hc hm G hr hb .nil ub V,λdl H₀ hs H σ q R Q r hq P=>x4 ho.s vD r hq P)
end
section
variable{X:Cx}{K:BT}
theorem xX:∀(ys:List Str)(tk:Nat),Vals (ys.map V.str) (strsFrom tk ys)
 |[],_=>.nil
 |y::r,tk=>.cons (tk,U) (xX r (tk+1))
def split_len(x:Str)(c:Nat):(Txt.split x ⟨#[c]⟩).length<=x.length+2:=by
 unfold Txt.split
 split
 ·simp
 ·split
  ·simp
  ·rw[PyProof.Rows.len_partsBetween]
   have:=StrLaws.occ_length_le x ⟨#[c]⟩ 0 x.length (x.length+1)
   omega
theorem aA.ofS{dl:Dl}{H:Hp}:∀(ys:List Str),aA K dl H (ys.map V.str) (ys.map T.s) []
 |[]=>.nil
 |y::r=>.cons (F:=[]) (.s y) (aA.ofS r)
def ka(n:Int):Str:=Str.ofString (toString n)
def IJ:de X (.type "str") (λxs H Q=>∃n:Int,xs=[.int n]/\n.natAbs.log2<1920/\Q (.str (ka n)) H):=by
 intro gd s σ H xs us Q I r h;let(n,U,hn,q):=h;let(u,U,ru):=Vals.one r;let(t,U):=ru;exact PySem.P.str_of_int hn (.str _,H,I.tok _,(_,U),q)
theorem IS:de X (.type "int") (λxs H Q=>∃(x:Str)(n:Int),xs=[.str x]/\PySem.intText? x=Z n/\x.length<=640/\Q (.int n) H):=by
 intro gd s σ H xs us Q I r h;let(x,n,U,hn,hl,q):=h;let(u,U,ru):=Vals.one r;let(t,U):=ru;exact W.KIN.call_text hn hl (.int _,H,I.tok _,(_,U),q)
def VG:QC:=λts Q=>on1 ts λt=>match t with
 |.i n=>n.natAbs.log2<1920/\Q (.s (ka n))
 |_=>False
def VP:QC:=λts Q=>on1 ts λt=>match t with
 |.s x=>Ex4 (λn=>PySem.intText? x=Z n) (λ_=>x.length<=640) (λn=>.i n) Q
 |_=>False
def JH:rR K (λxs H Q=>∃n:Int,xs=[.int n]/\n.natAbs.log2<1920/\Q (.str (ka n)) H) VG:=by
 intro dl H vs ts F Q R D r g k
 replace g:=on1.inv g
 let(t,U,g):=g;let(v,U,q):=r.one;cases t with
 |i n =>
  let(U,_):=q.r.int;exact(n,U,g.1,k _ _ [] H (.refl D) (.c (.s _)) (λ_ z=>nomatch z) mz g.2)
 |_=>exact g.elim
def JK:rR K (λxs H Q=>∃(x:Str)(n:Int),xs=[.str x]/\PySem.intText? x=Z n/\x.length<=640/\Q (.int n) H) VP:=by
 intro dl H vs ts F Q R D r g k
 replace g:=on1.inv g
 let(t,U,g):=g;let(v,U,q):=r.one;cases t with
 |s x =>
  let(U,_):=q.r.str;let(n,h1,h2,g):=g;exact(x,n,U,h1,h2,k _ _ [] H (.refl D) (.c (.i _)) (λ_ z=>nomatch z) mz g)
 |_=>exact g.elim
end
theorem GA{c:Nat}:∀{a b x y:List Nat},c ∉ a->c ∉ b->a++c::x=b++c::y->a=b/\x=y
 |[],[],_,_,_,_,h=>(U,(List.cons.inj h).2)
 |[],d::b,_,_,_,g,h=>absurd (List.cons.inj h).1.symm λz=>g (by rw[z];exact di)
 |d::a,[],_,_,ha,_,h=>absurd (List.cons.inj h).1 λz=>ha (by rw[z];exact di)
 |d::a,e::b,_,_,ha,g,h=>by
  let(h1,h2):=List.cons.inj h;let(h3,h4):=GA (λz=>ha (aJ _ z)) (λz=>g (aJ _ z)) h2
  exact(by rw[h1,h3],h4)
variable{x:Str}
def Fe{y:Str}(h:x.cps.toList=y.cps.toList):x=y:=by
 let⟨⟨a⟩⟩:=x;let⟨⟨b⟩⟩:=y;cases h;rfl
def kF{c:Nat}(x y:Str)(r:List Str):(Str.join ⟨#[c]⟩ (x::y::r)).cps.toList=x.cps.toList++c ::(Str.join ⟨#[c]⟩ (y::r)).cps.toList:=by
 show(x++⟨#[c]⟩++Str.join ⟨#[c]⟩ (y::r)).cps.toList=_;show((x.cps ++ #[c])++(Str.join ⟨#[c]⟩ (y::r)).cps).toList=_;simp
theorem BX{c:Nat}:∀{ps ws:List Str},ps ≠ []->ws ≠ []->(∀p∈ps,c ∉ p.cps.toList)->(∀p∈ws,c ∉ p.cps.toList)->Str.join ⟨#[c]⟩ ps=Str.join ⟨#[c]⟩ ws->ps=ws
 |[],_,h,_,_,_,_=>absurd U h
 |_,[],_,h,_,_,_=>absurd U h
 |[p],[w],_,_,_,_,h=>by
  have h:p=w:=h;rw[h]
 |[p],w::K::r,_,_,hp,_,h=>by
  have h:=congrArg (λz:Str=>z.cps.toList) h
  rw[kF]at h;have h:p.cps.toList=w.cps.toList++c::_:=h;exact absurd (by rw[h];simp) (hp p di)
 |p::p2::r,[w],_,_,_,hw,h=>by
  have h:=congrArg (λz:Str=>z.cps.toList) h
  rw[kF]at h;have h:p.cps.toList++c::_=w.cps.toList:=h;exact absurd (by rw[<- h];simp) (hw w di)
 |p::p2::r,w::K::P,_,_,hp,hw,h=>by
  have h:=congrArg (λz:Str=>z.cps.toList) h
  rw[kF,kF]at h;let(h1,h2):=GA (hp p di) (hw w di) h;rw[Fe h1,BX (xT _ _) (xT _ _) (λq g=>hp q (aJ _ g)) (λq g=>hw q (aJ _ g)) (Fe h2)]
def jk(x:Str)(c:Nat):Txt.split x ⟨#[c]⟩ ≠ []:=by
 unfold Txt.split
 split
 ·exact xT _ _
 ·split
  ·exact xT _ _
  ·intro z
   have:=PyProof.Rows.len_partsBetween x (Builtin.Str.occurrences x ⟨#[c]⟩ 0 x.length (x.length+1)) (⟨#[c]⟩:Str).length
   rw[z]at this;cases this
def kP{c:Nat}{ws:List Str}(g:ws ≠ [])(hw:∀p∈ws,c ∉ p.cps.toList):Txt.split (Txt.join ⟨#[c]⟩ ws) ⟨#[c]⟩=ws:=by
 have e:Txt.join ⟨#[c]⟩ ws=Str.join ⟨#[c]⟩ ws:=StrLaws.glued_eq_join _ _;rw[e];exact BX (jk _ _) g (StrLaws.split_free _ c) hw (StrLaws.join_split _ _)
section
variable{K:BT}{dl:Dl}{H₀ H H':Hp}{hs:List (V×T)}{σ:St}{q q':Sq}{F:Nat->List J}
def Rel.BM{S:List Nat}{u':Nat->T}{F':Nat->List J}(r:Rel K dl H₀ hs H σ q F)(hi:∀i∈S,∃t,q[i]?=Z (.o t))(f:eQ dl H (S.flatMap F) H')(hr:∀i∈S,q'[i]?=Z (.o (u' i))->∃v,σ[i]?=Z (Z v)/\Rp K dl H' v (u' i) (F' i))(n':∀i∈S,(F' i).Nodup)(hF:∀i∈S,∀b∈F' i,b∈S.flatMap F\/H b=Y)(dj:∀i∈S,∀k∈S,k≠i->∀b∈F' i,b ∉ F' k)
  (hl:q'.length=q.length) (uk:∀i,i ∉ S->q'[i]?=q[i]?) (Io:∀i∈S,q'[i]?=Z (.o (u' i))\/q'[i]?=Z .no/\F' i=[]):Rel K dl H₀ hs H' σ q' (λi=>if i∈S then F' i else F i):=by
 have ak:∀{b:J},b∈S.flatMap F->∃i∈S,b∈F i:=λh=>Y7.mp h
 have th:∀b∈S.flatMap F,gJ H b:=λb Q=>let(i,_,h):=ak Q;r.bM h
 have tf:=f.tf th r.d;have V6:∀j,j ∉ S->∀b∈F j,b ∉ S.flatMap F:=λj hj b Q z=>by
  let(i,P,h):=ak z;let(t,ht):=hi i P;exact(r.o i t ht).2.2 j (λe=>hj (e▸P)) b h Q
 have st:∀{w:V}{u:T}{Fw:List J},Rp K dl H w u Fw->(∀b∈Fw,b ∉ S.flatMap F)->Rp K dl H' w u Fw:=λ{w u Fw} h np =>
  (h.r.eC tf (λ_ z=>z) λb Q o e=>f.k b o e (np b Q) (h.n b Q) (.of (h.r.there b Q) e),h.n)
 have out:∀i∈S,∀j,j ∉ S->∀b∈F' i,b ∉ F j:=λi P j hj b Q z=>by
  obtain h|h:=hF i P b Q
  ·exact V6 j hj b z h
  ·exact(r.bM z).no h
 have H0:∀{b:J},b∈S.flatMap F->H₀ b=none:=λh=>by
  let(i,P,h):=ak h;let(t,ht):=hi i P;exact(r.o i t ht).2.1 _ h
 refine(f.d,λj x u h1 h2=>?_,λj x h1 h2=>?_,λj hj=>?_,λj u h1=>?_,λp hp=>?_,(λb o h n nr=>?_,λb x h=>?_),by rw[hl];exact r.l)
 ·by_cases P:j∈S
  ·obtain z |⟨z,_⟩:=Io j P
   ·let(v,h3,h4):=hr j P z;rw[z]at h1;cases h1;cases h2;exact(v,h3,by rw[if_pos P];exact h4)
   ·rw[z]at h1;cases h1;cases h2
  ·rw[uk j P]at h1;let(w,h3,h4):=r.g j x u h1 h2;exact(w,h3,by rw[if_neg P];exact st h4 (V6 j P))
 ·by_cases P:j∈S
  ·obtain z |⟨z,e⟩:=Io j P
   ·rw[z]at h1;cases h1;cases h2
   ·rw[if_pos P];exact e
  ·rw[uk j P]at h1;rw[if_neg P];exact r.n j x h1 h2
 ·by_cases P:j∈S
  ·obtain z |⟨z,e⟩:=Io j P
   ·rw[Zd (by omega)]at z
    cases z
   ·rw[if_pos P];exact e
  ·rw[if_neg P];exact r.z j (by omega)
 ·by_cases P:j∈S
  ·rw[if_pos P];refine(n' j P,λb Q=>(hF j P b Q).elim H0 r.fz,λk hk b Q=>?_)
   by_cases ah:k∈S
   ·rw[if_pos ah];exact dj j P k ah hk b Q
   ·rw[if_neg ah];exact out j P k ah b Q
  ·rw[uk j P]at h1;let(p1,p2,p3):=r.o j u h1;rw[if_neg P];refine(p1,p2,λk hk b Q z=>?_)
   by_cases ah:k∈S
   ·rw[if_pos ah]at z;exact out k ah j P b z Q
   ·rw[if_neg ah]at z;exact p3 k hk b Q z
 ·let(Fp,h1,h2):=r.h p hp;have np:∀b∈Fp,b ∉ S.flatMap F:=λb Q z=>by
   let(i,P,h):=ak z;let(t,ht):=hi i P;exact h2 i t ht b h Q
  refine(Fp,st h1 np,λj u hj b Q z=>?_)
  by_cases P:j∈S
  ·rw[if_pos P]at Q;obtain h|h:=hF j P b Q
   ·exact np b z h
   ·exact gJ.no (h1.r.there b z) h
  ·rw[uk j P]at hj;rw[if_neg P]at Q;exact h2 j u hj b Q z
 ·exact f.k b o (r.f.k b o h n nr) (λz=>by rw[H0 z]at h;cases h) n nr
 ·let(y,hy,e1):=r.f.r b x h;let(y',au,e2):=f.r b y e1 (λz=>by rw[H0 z]at h;cases h)
  exact(y',Za au hy,e2)
def Rel.Mb{S:List Nat}(r:Rel K dl H₀ hs H σ q F)(hi:∀i∈S,∃t,q[i]?=Z (.o t))(f:eQ dl H (S.flatMap F) H')
  (hl:q'.length=q.length) (Q:∀i,i ∉ S->q'[i]?=q[i]?) (P:∀i∈S,q'[i]?=Z .no):cJ K dl H₀ hs H' σ q' :=
 (_,r.BM (S:=S) (u':=λ_=>.n) (F':=λ_=>[]) hi f (λi g z=>by rw[P i g]at z;cases z) (λ_ _=>mz) (λ_ _ _ z=>nomatch z) (λ_ _ _ _ _ _ z=>nomatch z) hl Q λi g=>.inr (P i g,U))
end
abbrev ox:=List T->(T->List T->Prop)->QW->Prop
structure Told(K:BT)(dl:Dl)(H H':Hp)(vs:List V)(js S:List Nat)(F:Nat->List J)(us:List T)(F':Nat->List J)(Fr:List J):Prop where
 l:us.length=js.length
 r:∀(n i:Nat)(u:T)(v:V),js[n]?=Z i->us[n]?=Z u->vs[i]?=Z v->Rp K dl H' v u (F' n)
 n:∀n,n<js.length->(F' n).Nodup/\(∀b∈F' n,b∈S.flatMap F\/H b=Y)/\∀b∈Fr,b ∉ F' n
 d:∀n m,n≠m->n<js.length->m<js.length->∀b∈F' n,b ∉ F' m
inductive spG(K:BT)(js S:List Nat)(ps:ox)(vs:List V)(H:Hp)(Q:VK)(E:XK):Prop
 |mk(dl:Dl)(ts:List T)(F:Nat->List J)(Qp:T->List T->Prop)(Wp:QW)(h1:Dls dl H)(h2:vs.length=ts.length)(h3:∀i v t,vs[i]?=Z v->ts[i]?=Z t->Rp K dl H v t (F i))(h4:∀i,ts.length<=i->F i=[])(h5:∀i∈S,(F i).Nodup/\∀k,k≠i->∀b∈F i,b ∉ F k)(h6:ps ts Qp Wp)
  (h7:∀v r Fr us F' H',eQ dl H (S.flatMap F) H'->Told K dl H H' vs js S F us F' Fr->Rp K dl H' v r Fr->Fr.Nodup->(∀b∈Fr,b∈S.flatMap F\/H b=Y)->Qp r us->Q v H')
  (h8:∀a C ns us H',eQ dl H (S.flatMap F) H'->Rp K dl H' (.ref a) (.xc C ns us) []->Wp C ns us->E (.ref C) (Z a) H')
def sls(js:List Nat):Nat->List T->Sq
 |_,[]=>[]
 |n,t::r=>(if js.elem n then .o t else .r t)::sls js (n+1) r
theorem p8{js:List Nat}:∀{n:Nat}{ts:List T},(sls js n ts).length=ts.length
 |_,[]=>rfl
 |n,t::r=>congrArg (· + 1) (p8 (n:=n+1) (ts:=r))
theorem JC{js:List Nat}:∀{n:Nat}{ts:List T}{i:Nat}{y:Sl},(sls js n ts)[i]?=Z y->∃t,ts[i]?=Z t/\(n+i∈js/\y=.o t\/n+i ∉ js/\y=.r t)
 |n,[],i,y,h=>nomatch h
 |n,t::r,0,y,h=>by
  refine(t,U,?_);have h:(if js.elem n then Sl.o t else .r t)=y:=Option.some.inj h
  by_cases e:n∈js
  ·rw[if_pos (List.elem_eq_true_of_mem e)]at h;exact .inl (e,h.symm)
  ·rw[if_neg (λz=>e (List.mem_of_elem_eq_true z))]at h
   exact .inr (e,h.symm)
 |n,t::r,i+1,y,h=>by
  let(u,h1,h2):=JC (n:=n+1) (ts:=r) (i:=i) (y:=y) h;rw[Nat.add_right_comm,Nat.add_assoc]at h2;exact(u,h1,h2)
variable{dl:Dl}{H:Hp}{N:List Str}{js:List Nat}
theorem DI{K:BT}{vs:List V}{ts:List T}{F:Nat->List J}(D:Dls dl H)(hl:vs.length=ts.length)(hr:∀i v t,vs[i]?=Z v->ts[i]?=Z t->Rp K dl H v t (F i))(P:∀i,ts.length<=i->F i=[])(hs:∀i∈js,(F i).Nodup/\∀k,k≠i->∀b∈F i,b ∉ F k):
  Rel K dl (iZ H (js.flatMap F)) (hsq H (js.flatMap F)) H (start N vs) (sls js 0 ts++xV (N.length - ts.length) .no) F:=by
 have lk:∀i y,(sls js 0 ts++xV (N.length - ts.length) Sl.no)[i]?=Z y->(∃t,ts[i]?=Z t/\(i∈js/\y=.o t\/i ∉ js/\y=.r t))\/(ts.length<=i/\y=.no):=λi y h=>by
  by_cases hi:i<ts.length
  ·rw[CJ (by rw[p8];exact hi)]at h
   let(t,h1,h2):=JC h;rw[Nat.zero_add]at h2;exact .inl (t,h1,h2)
  ·rw[CF (by rw[p8];omega),Y5]at h
   split at h
   ·exact .inr (by omega,(Option.some.inj h).symm)
   ·cases h
 have q:∀i v,vs[i]?=Z v->(start N vs)[i]?=Z (Z v):=λi v e=>by
  have hi:=(kf.mp e).1;show(vs.map Z++xV (N.length - vs.length) Y)[i]?=_;rw[CJ (by simpa using hi),tW,e]
  rfl
 have g:∀b o,iZ H (js.flatMap F) b=Z o->H b=Z o:=λb o h=>by
  by_cases e:b∈js.flatMap F
  ·rw[qU e]at h;cases h
  ·rw[kD e]at h;exact h
 refine(D,λi y t h1 h2=>?_,λi y h1 h2=>?_,λi hi=>?_,λi t h1=>?_,λp hp=>([],LH p hp,λ_ _ _ _ _ z=>nomatch z),(λb o h _ _=>g b o h,λb x h=>(x,Zi _,g b _ h)),?_)
 ·obtain⟨u,e,z⟩|⟨_,rfl⟩:=lk i y h1
  ·have:y.get=Z u:=by obtain⟨_,rfl⟩|⟨_,rfl⟩:=z <;> rfl
   rw[this]at h2;cases h2;have hi:=(kf.mp e).1;have ev:vs[i]?=Z (vs[i]'(by omega)):=rY _
   exact(_,q _ _ ev,hr i _ _ ev e)
  ·cases h2
 ·obtain⟨u,e,⟨_,rfl⟩|⟨_,rfl⟩⟩|⟨hi,rfl⟩:=lk i y h1
  ·cases h2
  ·cases h2
  ·exact P i hi
 ·refine P i ?_;rw[qd,p8,Z9]at hi;omega
 ·obtain⟨u,e,⟨hi,_⟩|⟨_,z⟩⟩|⟨_,z⟩:=lk i _ h1
  ·exact((hs i hi).1,λb Q=>qU (Y7.mpr (i,hi,Q)),(hs i hi).2)
  ·cases z
  ·cases z
 ·show _=(vs.map Z++xV (N.length - vs.length) Y).length;simp[p8,hl]
def DW:List Nat->List J->Sq->List T->Prop
 |[],[],_,[]=>True
 |j::js,a::as,q,u::us=>q[j]?=Z (.o u)/\u.adr=Z a/\DW js as q us
 |_,_,_,_=>False
def IV:List Nat->List T->List J->Prop
 |[],_,[]=>True
 |j::js,ts,a::as=>(∃t,ts[j]?=Z t/\t.adr=Z a)/\IV js ts as
 |_,_,_=>False
theorem DW.at{q:Sq}{ts:List T}:∀{js:List Nat}{as:List J}{us:List T},DW js as q us->IV js ts as->us.length=js.length/\∀(n i:Nat)(u:T),js[n]?=Z i->us[n]?=Z u->q[i]?=Z (.o u)/\∃t a,ts[i]?=Z t/\t.adr=Z a/\u.adr=Z a
 |[],[],[],_,_=>(U,λ_ _ _ h=>nomatch h)
 |j::js,a::as,u::us,(h1,h2,h3),((t,h4,h5),h6)=>by
  let(e,h):=DW.at h3 h6;refine(congrArg (· + 1) e,λn i w z g=>?_)
  cases n with
  |zero=>cases z;cases g;exact(h1,t,a,h4,h5,h2)
  |succ n=>exact h n i w z g
def dP.og(js:List Nat)(as:List J)(Q:T->List T->Prop):dP:={nx:=λq=>∃us,DW js as q us/\Q .n us,rt:=λ_=>False,ru:=λq r=>∃us,DW js as q us/\Q r us}
variable{P:Db}{mg:Str->Option B}{base:Ev}{qual:Str}{st:Fk}{fd:Ch}{ps:List Str}
theorem Fun.okG{w:Da}{K:PySem.W.Frag}{f:J}{k:Nat}{V:List Nat}{ah:ox}(F:Fun K x qual st f fd)(S:aE N ps (av st))(len:∀ts Q W,ah ts Q W->ts.length=ps.length)(aD:js.Nodup)(Yd:∀j∈js,j∈V)
  (jv:∀(cdv:B)(A:Do)(outer:List Env)(s:ϋ)(H:Hp)(E:XK),bP k (A.deeper (envOfC qual (av st) s.heap.objs.size f cdv)) ->
   ∃t qs,kO (pP (CX1 P w) P w K mg base N qual (av st) f cdv A outer s H E) K (cz st) t qs/\∀ts Q W as,ah ts Q W->IV js ts as->qs (λ_=>W) (.og js as Q) (sls V 0 ts++xV (N.length - ts.length) .no))
  (Uk:∀ts Q W,ah ts Q W->∃as,IV js ts as):aV P w K mg base (CX1 P w) (k+1) f fd ps (spG K js V ah):=by
 refine F.okX S (λvs H Q E h=>?_) (λcdv A outer s H vs Q E hr h=>?_)
 ·let(dl,ts,_,Qp,Wp,_,hl,_,_,_,h,_,_):=h;rw[hl];exact len ts Qp Wp h
 ·let(dl,ts,F0,Qp,Wp,D,hl,au,hz,aw,h,fin,fix):=h;let(t,qs,hb,hq):=jv cdv A outer s H E hr;refine(t λ_=>E,hb.h _ vW vL,?_)
  let(as,ha):=Uk ts Qp Wp h;have z:=hq ts Qp Wp as h ha;have R:=DI (N:=N) (js:=V) D hl au hz aw;have ak:∀{b:J}{o:HO},H b=Z o->b ∉ V.flatMap F0->iZ H (V.flatMap F0) b=Z o:=λh n=>by rw[kD n];exact h
  have bx:∀{H':Hp}{σ:St}{q:Sq}{F':Nat->List J},Rel K dl (iZ H (V.flatMap F0)) (hsq H (V.flatMap F0)) H' σ q F'->eQ dl H (V.flatMap F0) H':=λ{H' σ q F'} r' =>
   (λb o e n nd nr=>r'.f.k b o (ak e n) nd nr,λb x e n=>r'.f.r b x (ak e n),λb xs hb e=>(by
    let(Fp,rq,_):=r'.h _ (Gn hb e);cases rq.r with
    |q h=>exact(_,h)),r'.d)
  have fr:∀{b:J},iZ H (V.flatMap F0) b=Y->b∈V.flatMap F0\/H b=none:=λ{b} h=>by
   by_cases e:b∈V.flatMap F0
   ·exact .inl e
   ·rw[kD e]at h;exact .inr h
  have told:∀{H':Hp}{σ:St}{q:Sq}{F':Nat->List J}{us:List T}{Fr:List J},Rel K dl (iZ H (V.flatMap F0)) (hsq H (V.flatMap F0)) H' σ q F'->DW js as q us->(∀j,∀b∈Fr,b ∉ F' j)->Told K dl H H' vs js V F0 us (λn=>F' (js[n]?.getD 0)) Fr:=λ{H' σ q F' us Fr} r' ho aH=>by
   let(el,at'):=ho.at ha;have ix:∀n,n<js.length->∃i u,js[n]?=Z i/\us[n]?=Z u:=λn hn=>(js[n],us[n]'(by omega),rY _,rY _)
   refine(el,λn i u v e1 e2 e3=>?_,λn hn=>?_,λn m ne hn hm=>?_)
   ·let(h1,t0,a,h2,h3,h4):=at' n i u e1 e2;let(v',_,rp):=r'.g i _ _ h1 U;rw[e1,ZC,(au i v t0 e3 h2).r.adr h3,<- rp.r.adr h4];exact rp
   ·let(i,u,e1,e2):=ix n hn;let(h1,_):=at' n i u e1 e2;let(o1,o2,_):=r'.o i u h1;rw[e1,ZC];exact(o1,λb hb=>fr (o2 b hb),aH i)
   ·let(i,u,e1,e2):=ix n hn;let(k,u2,e3,e4):=ix m hm;let(h1,_):=at' n i u e1 e2;rw[e1,e3,ZC,ZC];refine(r'.o i u h1).2.2 k λz=>ne ?_
    subst z;exact(List.getElem?_inj hn aD).mp (e1.trans e3.symm)
  refine hb.s dl (iZ H (V.flatMap F0)) (hsq H (V.flatMap F0)) H _ _ _ _ _ _ (_,R) z (λH' σ q hr hz=>?_,λ_ _ _ _ hz=>hz.elim,λ_ _ _ _ hz=>hz.elim,λ_ _ _ _ _ _ _ _ _ hz=>hz.elim,λH' σ q F' v r Fr r' rv f1 n1 dj hz=>?_) λH' σ q a C ns us hr rx hw=>?_
  ·let(F',r'):=hr;let(us,ho,hz):=hz;exact fin .non .n [] us _ H' (bx r') (told r' ho λ_ _ z=>nomatch z) (.n,λ_ z=>nomatch z) mz (λ_ z=>nomatch z) hz
  ·let(us,ho,hz):=hz;exact fin v r Fr us _ H' (bx r') (told r' ho dj) rv n1 (λb hb=>fr (f1 b hb)) hz
  ·let(F',r'):=hr;exact fix a C ns us H' (bx r') rx hw
def lv(a:J):T->T
 |.l xs=>.lp a xs
 |t=>t
def lb:T->T->T
 |.l _,.lp _ ys=>.l ys
 |_,u=>u
variable{G:List J}{j:Nat}
section
variable{K:BT}{H₀ H':Hp}{hs:List (V×T)}{σ:St}{q q':Sq}{F:Nat->List J}
def Gb{v:V}{t:T}(h:aI K dl H v t G):∃a,aI K dl H v (lv a t) G/\∀H' u Fu,aI K dl H' v u Fu->aI K dl H' v (lb t u) Fu:=by
 cases t with
 |l xs =>
  let(a,vs,z,U,U,h1,h2):=h.lst;refine(a,.lp h1 h2,λH' u Fu h=>?_)
  cases u with
  |lp b ys =>
   let(g,q,e,U,h3,h4):=h.lpp;cases e;exact .l h3 h4
  |_=>exact h
 |_=>exact(0,h,λ_ _ _ h=>h)
def aA.im0{vs:List V}{ts:List T}{F:List J}(h:aA K dl H vs ts F)(z:F=[])(i:Nat)(v:V)(t:T)(h1:vs[i]?=Z v)(h2:ts[i]?=Z t):aI K dl H v t []:=by
 subst z;let(G,g,_):=h.each;let(a,b):=g i v t h1 h2;rw[ZA.mpr λc q=>nomatch b c q]at a
 exact a
def Qj{p:Way}{t u:T}{v w:V}{ws:List V}{ts:List T}{ps:ox}{R:T->Sq->Prop}{W:Sq->QW}{Q:VK}{Es:St->XK}(r:Rel K dl H₀ hs H σ q F)(hj:q[j]?=Z (.o t))(hv:σ[j]?=Z (Z v))(hu:T.sub p t=Z u)(hw:VAt H p v w)(rs:Rps K dl H ws ts [])
  (hp:∀a,ps (lv a u::ts) (λr us=>r.im=O/\on1 us λu'=>R r (q.set j (.o (T.put (lb u u') p t)))) (W (q.set j .no))) (kk:∀v t q' H',cJ K dl H₀ hs H' σ q'->Rp K dl H' v t []->R t q'->Q v H') (kx:XOk K dl H₀ hs W Es):spG K [0] [0] ps (w::ws) H Q (Es σ):=by
 let(v2,w2,Fu,ak,aw,ru,nu,md):=r.mod hj hu;rw[hv]at ak;cases ak;cases hw.uniq (aw H (.refl r.d));let(a,r1,bk):=Gb ru.r;have eU:[0].flatMap (λi=>if i=0 then Fu else [])=Fu:=by simp
 refine(dl,_,λi=>if i=0 then Fu else [],_,_,r.d,congrArg (· + 1) rs.r.len,λi x y e1 e2=>?_,λi hi=>if_neg ?_,λi hi=>?_,hp a,λv r' Fr us F' H' P told rv _ _ hz=>?_,λa C ns us H' P rx au=>?_)
 ·cases i with
  |zero=>cases e1;cases e2;exact(r1,ru.n)
  |succ i=>exact(rs.r.im0 U i x y (by simpa using e1) (by simpa using e2),λ_ z=>nomatch z)
 ·rw[my]at hi;omega
 ·rw[aB.mp hi];exact(nu,λk hk b _ z=>by rw[if_neg hk]at z;cases z)
 ·let(im,hz):=hz;let(u',U,hz):=on1.inv hz;have rp:=told.r 0 0 u' w U U U;let(n1,n2,_):=told.n 0 Z6;rw[eU]at P n2;let(F2,r2):=md H' _ (F' 0) P (bk H' u' _ rp.r,rp.n) n1 n2;obtain rfl:=rv.r.im im;exact kk v r' _ H' (F2,r2) rv hz
 ·rw[eU]at P;have sub:∀b∈Fu,b∈F j:=by
   let(v3,ah,rp):=r.g j _ t hj U;rw[hv]at ah;cases ah;let(w3,aD,G3,h1,h2,h3,_):=rp.r.zip p hu;cases hw.uniq (h1 H λ_ _ _ z=>z)
   intro b hb;rw[ru.r.uniq h2]at hb;exact h3.mem_iff.mpr (px _ hb)
  have eF:[j].flatMap F=F j:=by simp
  have Lr:eQ dl H ([j].flatMap F) H':=by
   rw[eF];let(v3,ah,rp):=r.g j _ t hj U;exact(λb o e n=>P.k b o e λz=>n (sub b z),λb x e n=>P.r b x e λz=>n (sub b z),λb xs hb e=>(by
    by_cases z:b∈Fu
    ·exact P.l b xs z e
    ·exact(xs,P.k b _ e z (rp.n b hb) λ_ z=>nomatch z)),P.d)
  have r2:=r.Mb (S:=[j]) (q':=q.set j .no) (λi hi=>by rw[aB.mp hi];exact(t,hj)) Lr (by simp) (λi hi=>ui λz=>hi (by rw[z];exact aB.mpr U)) (λi hi=>by rw[aB.mp hi];exact u6 (kf.mp hj).1)
  exact kx H' σ _ a C ns us r2 rx au
def Qi{k:Nat}{p p2:Way}{t u t2 u2:T}{v w v2 w2:V}{ws:List V}{ts:List T}{ps:ox}{R:T->Sq->Prop}{W:Sq->QW}{Q:VK}{Es:St->XK}(r:Rel K dl H₀ hs H σ q F)(ak:j≠k)(hj:q[j]?=Z (.o t))(hv:σ[j]?=Z (Z v))(hu:T.sub p t=Z u)(hw:VAt H p v w)(hk:q[k]?=Z (.o t2))(aL:σ[k]?=Z (Z v2))(a9:T.sub p2 t2=Z u2)(a6:VAt H p2 v2 w2)(rs:Rps K dl H ws ts [])
  (hp:∀a b,ps (lv a u::lv b u2::ts) (λr us=>r.im=O/\on2 us λx y=>R r ((q.set j (.o (T.put (lb u x) p t))).set k (.o (T.put (lb u2 y) p2 t2)))) (W ((q.set j .no).set k .no))) (kk:∀v t q' H',cJ K dl H₀ hs H' σ q'->Rp K dl H' v t []->R t q'->Q v H') (kx:XOk K dl H₀ hs W Es):spG K [0,1] [0,1] ps (w::w2::ws) H Q (Es σ):=by
 let(v',aw,rp):=r.g j _ t hj U;rw[hv]at aw;cases aw;let(v',aw,au):=r.g k _ t2 hk U;rw[aL]at aw;cases aw;let(w',Fu,G,a1,a2,a3,a4):=rp.r.zip p hu;cases hw.uniq (a1 H λ_ _ _ z=>z)
 let(w',ah,G2,b1,b2,b3,b4):=au.r.zip p2 a9;cases a6.uniq (b1 H λ_ _ _ z=>z)
 let(a,r1,bk):=Gb a2;let(b,r2,bb):=Gb b2;let(o1,o2,o3):=r.o j t hj;let(q1,q2,q3):=r.o k t2 hk;have m1:∀b,b∈Fu\/b∈G->b∈F j:=λb P=>a3.mem_iff.mpr (mu.mpr P)
 have m2:∀b,b∈ah\/b∈G2->b∈F k:=λb P=>b3.mem_iff.mpr (mu.mpr P)
 let(n1,n2,n3):=x2.mp (a3.nodup_iff.mp o1);let(k1,k2,k3):=x2.mp (b3.nodup_iff.mp q1);have apart:∀b,b∈F j->b ∉ F k:=λb P=>o3 k (Ne.symm ak) b P
 have eU:[0,1].flatMap (λi:Nat=>if i=0 then Fu else if i=1 then ah else [])=Fu++ah:=by simp
 have eF:[j,k].flatMap F=F j++F k:=by simp
 have sub:∀{b},b∈Fu++ah->b ∈ [j,k].flatMap F:=λ{b} h=>by
  rw[eF];exact(mu.mp h).elim (λz=>px _ (m1 b (.inl z))) λz=>lO _ (m2 b (.inl z))
 have widen:∀{H'},eQ dl H (Fu++ah) H'->eQ dl H ([j,k].flatMap F) H':=λ{H'} bx =>
  (λb o e n=>bx.k b o e λz=>n (sub z),λb x e n=>bx.r b x e λz=>n (sub z),λb xs P e=>(by
   by_cases z:b∈Fu++ah
   ·exact bx.l b xs z e
   ·rw[eF]at P;exact(xs,bx.k b _ e z ((mu.mp P).elim (rp.n b) (au.n b)) λ_ z=>nomatch z)),bx.d)
 refine(dl,_,λi=>if i=0 then Fu else if i=1 then ah else [],_,_,r.d,congrArg (· + 2) rs.r.len,λi x y e1 e2=>?_,λi hi=>?_,λi hi=>?_,hp a b,λvr r' Fr us F' H' bx told rv _ _ hz=>?_,λa C ns us H' bx rx a5=>?_)
 ·match i with
  | 0=>cases e1;cases e2;exact(r1,λb P=>rp.n b (m1 b (.inl P)))
  | 1=>cases e1;cases e2;exact(r2,λb P=>au.n b (m2 b (.inl P)))
  |i+2=>exact(rs.r.im0 U i x y (by simpa using e1) (by simpa using e2),λ_ z=>nomatch z)
 ·rw[my,my]at hi;rw[if_neg (by omega),if_neg (by omega)]
 ·obtain z|z:=fx.mp hi
  ·rw[z];refine(n1,λm hm b P z=>?_)
   rw[if_neg hm]at z
   split at z
   ·exact apart b (m1 b (.inl P)) (m2 b (.inl z))
   ·cases z
  ·rw[aB.mp z];refine(k1,λm hm b P z=>?_)
   have P:b∈ah:=P
   split at z
   ·exact apart b (m1 b (.inl z)) (m2 b (.inl P))
   ·first|cases z|(rw[if_neg hm]at z;cases z)
 ·let(im,hz):=hz;let(x,y,U,hz):=on2.inv hz;have c1:=told.r 0 0 x w U U U;have c2:=told.r 1 1 y w2 U U U;let(d1,d2,_):=told.n 0 Nat.zero_lt_two;let(d3,d4,_):=told.n 1 Nat.one_lt_two;have d5:=told.d 0 1 Nat.zero_ne_one Nat.zero_lt_two Nat.one_lt_two;rw[eU]at bx d2 d4;have tf:=bx.tf (λb P=>(mu.mp P).elim (λz=>a2.there b z) λz=>b2.there b z) r.d
  let(E1,g1,g2):=a4 H' _ (F' 0) tf (λb P o e=>bx.k b o e (λz=>(mu.mp z).elim (λz=>n3 b z b P U) λz=>apart b (m1 b (.inr P)) (m2 b (.inl z))) (rp.n b (m1 b (.inr P))) (.of (r.bM (m1 b (.inr P))) e)) (bk H' x _ c1.r)
  let(E2,g3,g4):=b4 H' _ (F' 1) tf (λb P o e=>bx.k b o e (λz=>(mu.mp z).elim (λz=>apart b (m1 b (.inl z)) (m2 b (.inr P))) λz=>k3 b z b P U) (au.n b (m2 b (.inr P))) (.of (r.bM (m2 b (.inr P))) e)) (bb H' y _ c2.r)
  have bf:∀b∈F' 0,b∈Fu++ah\/H b=none:=d2
  have hG:∀b,b∈G->b ∉ F' 0/\b ∉ F' 1:=λb P=>(λz=>(d2 b z).elim (λz=>(mu.mp z).elim (λz=>n3 b z b P U) λz=>apart b (m1 b (.inr P)) (m2 b (.inl z))) λz=>(r.bM (m1 b (.inr P))).no z,λz=>(d4 b z).elim (λz=>(mu.mp z).elim (λz=>n3 b z b P U) λz=>apart b (m1 b (.inr P)) (m2 b (.inl z))) λz=>(r.bM (m1 b (.inr P))).no z)
  have aX:∀b,b∈G2->b ∉ F' 0/\b ∉ F' 1:=λb P=>(λz=>(d2 b z).elim (λz=>(mu.mp z).elim (λz=>apart b (m1 b (.inl z)) (m2 b (.inr P))) λz=>k3 b z b P U) λz=>(r.bM (m2 b (.inr P))).no z,λz=>(d4 b z).elim (λz=>(mu.mp z).elim (λz=>apart b (m1 b (.inl z)) (m2 b (.inr P))) λz=>k3 b z b P U) λz=>(r.bM (m2 b (.inr P))).no z)
  have aH:∀{b},b∈E1->b∈F' 0\/b∈G:=λh=>mu.mp (g2.mem_iff.mp h)
  have aD:∀{b},b∈E2->b∈F' 1\/b∈G2:=λh=>mu.mp (g4.mem_iff.mp h)
  have a0:∀b∈E1,b ∉ E2:=λb h1 h2=>by
   obtain h1|h1:=aH h1
   ·obtain h2|h2:=aD h2
    ·exact d5 b h1 h2
    ·exact(aX b h2).1 h1
   ·obtain h2|h2:=aD h2
    ·exact(hG b h1).2 h2
    ·exact apart b (m1 b (.inr h1)) (m2 b (.inr h2))
  have r3:=r.BM (S:=[j,k]) (u':=λi=>if i=j then T.put (lb u x) p t else T.put (lb u2 y) p2 t2) (F':=λi=>if i=j then E1 else E2) (q':=(q.set j (.o (T.put (lb u x) p t))).set k (.o (T.put (lb u2 y) p2 t2)))
   (λi hi=>?_) (widen bx) (λi hi _=>?_) (λi hi=>?_) (λi hi b P=>?_) (λi hi m hm ne b P=>?_) (by simp) (λi hi=>?_) (λi hi=>?_)
  ·obtain rfl:=rv.r.im im;exact kk vr r' _ H' (_,r3) rv hz
  ·obtain z|z:=fx.mp hi
   ·rw[z];exact(t,hj)
   ·rw[aB.mp z];exact(t2,hk)
  ·obtain z|z:=fx.mp hi
   ·rw[z];simp only[if_pos];exact(v,hv,g1,λb P=>(aH P).elim (c1.n b) λh=>rp.n b (m1 b (.inr h)))
   ·rw[aB.mp z];simp only[if_neg (Ne.symm ak)];exact(v2,aL,g3,λb P=>(aD P).elim (c2.n b) λh=>au.n b (m2 b (.inr h)))
  ·obtain z|z:=fx.mp hi
   ·rw[z,if_pos rfl];exact g2.nodup_iff.mpr (x2.mpr (d1,n2,λa ha b P e=>(hG b P).1 (e▸ha)))
   ·rw[aB.mp z,if_neg (Ne.symm ak)];exact g4.nodup_iff.mpr (x2.mpr (d3,k2,λa ha b P e=>(aX b P).2 (e▸ha)))
  ·rw[eF];obtain z|z:=fx.mp hi
   ·rw[z,if_pos rfl]at P;obtain h|h:=aH P
    ·exact(d2 b h).imp (λz=>eF▸sub z) id
    ·exact .inl (px _ (m1 b (.inr h)))
   ·rw[aB.mp z,if_neg (Ne.symm ak)]at P;obtain h|h:=aD P
    ·exact(d4 b h).imp (λz=>eF▸sub z) id
    ·exact .inl (lO _ (m2 b (.inr h)))
  ·obtain z|z:=fx.mp hi
   ·rw[z,if_pos rfl]at P;rw[if_neg (λe=>ne (e.trans z.symm))]
    exact a0 b P
   ·have ei:=aB.mp z;rw[ei,if_neg (Ne.symm ak)]at P;obtain y|y:=fx.mp hm
    ·rw[if_pos y];exact λh=>a0 b h P
    ·exact absurd ((aB.mp y).trans ei.symm) ne
  ·rw[ui λz=>hi (by rw[z];exact aJ _ di),ui λz=>hi (by rw[z];exact di)]
  ·obtain z|z:=fx.mp hi
   ·left;rw[z,if_pos U,ui (Ne.symm ak),u6 (kf.mp hj).1]
   ·left;rw[aB.mp z,if_neg (Ne.symm ak),u6 (by rw[Az];exact(kf.mp hk).1)]
 ·rw[eU]at bx;have r2:=r.Mb (S:=[j,k]) (q':=(q.set j .no).set k .no) (λi hi=>?_) (widen bx) (by simp) (λi hi=>?_) (λi hi=>?_)
  ·exact kx H' σ _ a C ns us r2 rx a5
  ·obtain z|z:=fx.mp hi
   ·rw[z];exact(t,hj)
   ·rw[aB.mp z];exact(t2,hk)
  ·rw[ui λz=>hi (by rw[z];exact aJ _ di),ui λz=>hi (by rw[z];exact di)]
  ·obtain z|z:=fx.mp hi
   ·rw[z,ui (Ne.symm ak),u6 (kf.mp hj).1]
   ·rw[aB.mp z,u6 (by rw[Az];exact(kf.mp hk).1)]
end
abbrev QG:=Sq->(T->Sq->Prop)->(Sq->QW)->Prop
def Xn(K:PySem.W.Frag)(te:(St->XK)->TE)(qg:QG):Prop:=∀(dl:Dl)(H₀:Hp)(hs:List (V×T))(H:Hp)(σ:St)(q:Sq)(R:T->Sq->Prop)(W:Sq->QW)(Q:VK)(Es:St->XK),cJ K dl H₀ hs H σ q->qg q R W->(∀v t q' H',cJ K dl H₀ hs H' σ q'->Rp K dl H' v t []->R t q'->Q v H')->XOk K dl H₀ hs W Es->te Es σ H Q
structure QPG(X:Cx)(K:BT)(e:EQ)(te:(St->XK)->TE)(qg:QG):Prop where
 h:∀Es,hV (CX1 X.prog X.w) X Es->PE X e (te Es)
 s:Xn K te qg
abbrev QAG:=Sq->(List T->Sq->Prop)->(Sq->QW)->Prop
def Xp(K:PySem.W.Frag)(te:(St->XK)->TA)(qa:QAG):Prop:=∀(dl:Dl)(H₀:Hp)(hs:List (V×T))(H:Hp)(σ:St)(q:Sq)(R:List T->Sq->Prop)(W:Sq->QW)(Q:List V->Hp->Prop)(Es:St->XK),cJ K dl H₀ hs H σ q->qa q R W->(∀vs ts q' H',cJ K dl H₀ hs H' σ q'->Rps K dl H' vs ts []->R ts q'->Q vs H')->XOk K dl H₀ hs W Es->te Es σ H Q
structure Ao(X:Cx)(K:BT)(es:List EQ)(te:(St->XK)->TA)(qa:QAG):Prop where
 h:∀Es,hV (CX1 X.prog X.w) X Es->PA X es (te Es)
 s:Xp K te qa
def su(C:J)(m:Str)(sp:Sp)(Es:St->XK)(ta:TE)(t:TA):TE:=λσ H Q=>ta σ H λx H1=>∃a dx fs,x=.ref a/\H1 a=Z (.ins C dx fs)/\fs.lookup m=Y/\t σ H1 λvs g=>sp (x::vs) g Q (Es σ)
variable{gd:List (J×Obj)}{s:ϋ}{us:List B}{pl:Sem Bool}
section
variable{X:Cx}{CX:CXT}{k:Nat}{f C:J}{sp:Sp}{Es:St->XK}{m:Str}{pos apos:Pos}{e o:EQ}{es:List EQ}{ta:TE}{t:TA}
theorem FA{σ:St}{Q:VK}{vs:List V}(F:aV X.prog X.w X.K X.mg X.base CX k f fd ps sp)(hr:bP k X.A)(z:Binds X.K fd ps [])(hx:hV CX X Es)
  (I:Inv X gd σ H s) (r:Vals vs us) (h:sp vs H Q (Es σ)):XV X (call (.ref f) us) (EP X gd σ Q) X.xe s:=by
 have hl:(us ++ []).length=ps.length:=by rw[qp,<- r.length];exact F.len _ _ _ _ h
 have q:=z s us I.kIn hl;rw[qp]at q;refine wpAny_call (codeAny_mono (F.run X.A X.stack s H (us,[]) us vs Q (Es σ) hr I.L7 q r h) λr s' g=>?_)
 cases r with
 |error e=>exact hx gd σ H s e s' I g
 |ok fl =>
  cases fl with
  |ret u=>exact I.after g
  |next=>exact False.elim g
  |brk=>exact False.elim g
  |cont=>exact False.elim g
theorem Bk{pl:Sem Bool}(he:PE X o ta)(c:Cls X.K C)(hm:Meth X.K C m f)(F:aV X.prog X.w X.K X.mg X.base CX k f fd ps sp)(hr:bP k X.A)(hb:Binds X.K fd ps [])(hx:hV CX X Es)(ha:PA X (e::es) t)
  (g:‹AC X e es›) (z:‹AM X pos es›)
  (ht:‹eval (.Call (.Attribute o m apos) (e::es) [] pos) X.env=(do
   let ov <- eval o X.env
   standAt apos.atName
   let(f,first) <- holding [ov] (getMethod ov m pl)
   callWith pos f first (backTo pos (dO (e::es) X.env)) (backToKw pos (keywordEach [] X.env)))›):
  PE X (.Call (.Attribute o m apos) (e::es) [] pos) (su C m sp Es ta t):=by
 intro gd s σ H Q I h;refine W.methodCall_KW (thn (he gd s σ H _ I h) λu s1 P=>?_) ht
 let(x,H1,V,rx,a,dx,fs,ex,ea,l,q):=P;subst ex;obtain rfl:=rx;refine lH V ea c hm l ?_;exact W.callWith_K (h₀:=X.base) V.ok.mod.kin hm.kp (thn (ha pos gd s1 σ H1 _ V q) λus s2 (vs,H2,I2,r,q2)=>(I2.kIn,FA (vs:=.ref a::vs) F hr hb hx I2 (.cons U r) q2)) g z
theorem HD(he:PE X o ta)(c:Cls X.K C)(hm:Meth X.K C m f)(F:aV X.prog X.w X.K X.mg X.base CX k f fd ps sp)(hr:bP k X.A)(hb:Binds X.K fd ps [])(hx:hV CX X Es)
  (ht:‹eval (.Call (.Attribute o m apos) [] [] pos) X.env=(do
   let P <- eval o X.env
   standAt apos.atName
   let(f,first) <- holding [P] (getMethod P m pl)
   callWith pos f first (backTo pos (dO [] X.env)) (backToKw pos (keywordEach [] X.env)))›):
  PE X (.Call (.Attribute o m apos) [] [] pos) (su C m sp Es ta fK):=by
 intro gd s σ H Q I h;refine W.methodCall_KW (thn (he gd s σ H _ I h) λu s1 g=>?_) ht
 let(x,H1,z,V,a,dx,fs,ex,ea,l,q):=g;subst ex;obtain rfl:=V;refine lH z ea c hm l ?_;exact W.callWith_K0 z.kIn hm.kp (FA (vs:=[.ref a]) F hr hb hx z (.cons U .nil) q)
end
variable{n:Nat}
section
variable{X:Cx}{K:BT}{i k:Nat}{a b e o:EQ}{es:List EQ}{te to:TE}{tg:(St->XK)->TE}{ta:(St->XK)->TA}{qe:QE}{qg:QG}{qa:QAG}{tl:TA}{ql:QA}{qo:QL}{qel:QEL}{pos apos pos':Pos}{m:Str}{C f:J}{prs:List Str}{ps:ox}{pq:PSp}{H₀:Hp}{hs:List (V×T)}{σ:St}{q:Sq}
def cJ.hold{v:V}{t:T}(r:cJ K dl H₀ hs H σ q)(h:Rp K dl H v t []):cJ K dl H₀ ((v,t)::hs) H σ q:=by
 let(F,r):=r;refine(F,r.d,r.g,r.n,r.z,r.o,λp hp=>?_,r.f,r.l)
 obtain z|z:=fx.mp hp
 ·rw[z];exact([],h,λ_ _ _ _ _ z=>nomatch z)
 ·exact r.h p z
def cJ.Rh{v:V}{t:T}(r:cJ K dl H₀ ((v,t)::hs) H σ q)(im:t.im=O):cJ K dl H₀ hs H σ q/\Rp K dl H v t []:=by
 let(F,r):=r;let(Fp,g,_):=r.h (v,t) di;obtain rfl:=g.r.im im;exact((F,r.jy (hv:=[(v,t)])),g)
def hZ(h:QPE X K e te qe):QPG X K e (λ_=>te) (λq R _=>qe q λt=>t.im=O/\R t q):=(λ_ _=>h.h,λdl H₀ hs H σ q R W Q Es (F,r) V z _=>h.s dl H σ q _ _ r.rd V λv t Fv H' e1 g (im,P)=>by
 obtain rfl:=g.r.im im;exact z v t q H' (F,r.evo e1) g P)
def vM(h:Xs X K e te qel):QPG X K e (λ_=>te) (λq R _=>qel q R):=(λ_ _=>h.h,λdl H₀ hs H σ q R W Q Es r z g _=>h.s dl H₀ hs H σ q R Q r z g)
def cy:Ao X K [] (λ_=>fK) (λq R _=>R [] q):=(λ_ _=>dC,λdl H₀ hs H σ q R W Q Es r P g _=>g [] [] q H r (.nil,λ_ z=>nomatch z) P)
def cP(he:QPG X K e tg qg)(hr:Ao X K es ta qa)(hs:‹AC X e es›):Ao X K (e::es) (λEs=>bH (tg Es) (ta Es)) (λq R W=>qg q (λt q'=>t.im=O/\qa q' (λts P=>R (t::ts) P) W) W) :=
 (λEs a=>bh (he.h Es a) (hr.h Es a) hs,λdl H₀ hs H σ q R W Q Es r hq kk kx=>he.s dl H₀ hs H σ q _ W _ Es r hq (λv t q' H' r' rv (im,V) =>
  hr.s dl H₀ ((v,t)::hs) H' σ q' _ W _ Es (r'.hold rv) V (λvs ts P H2 r2 rs V=>by
   let(r3,g):=r2.Rh im;exact kk _ _ P H2 r3 (.cons (F:=[]) g.r rs.r,λ_ z=>nomatch z) V) (kx.holds (hv:=[(v,t)]))) kx)
def mT{P}(ha:Ao X K es ta qa):QPG X K (.Tuple es P pos) (λEs=>Jt (ta Es)) (λq R W=>qa q (λts q'=>ts.length<=ot/\R (.t ts) q') W) :=
 (λEs a=>DU (ha.h Es a),λdl H₀ hs H σ q R W Q Es r hq kk V=>ha.s dl H₀ hs H σ q _ W _ Es r hq (λvs ts q' H' (F,r') rs (hl,hz)=>(by rw[rs.r.len];exact hl,λp hp=>by
  have ev:Evo dl H' (upd H' p (.tup vs)):=(Evo.refl r'.d).new hp;have g:=rs.evo r'.d ev;exact kk _ _ q' _ (F,r'.evo ev) (.t aC g.r,λ_ z=>nomatch z) hz)) V)
theorem Hx(F:aV X.prog X.w X.K X.mg X.base CX0 k f fd prs (spQ K pq))(hr:bP k X.A)(hg:Gl X x)(hm:X.mg x=Z (.ref f))(hk:W.keepIn X.K (.ref f)=O)(hb:Binds X.K fd prs [])(ho:PE X o (cc i))(ha:Ao X K es ta qa)
  (ak:autoParam (AS x) zdc._auto_1) (he:‹AC X o es›) (ah:‹AM X pos es›):
  QPG X K (.Call (.Name x pos') (o::es) [] pos) (λEs=>AR (spQ K pq) [] E0 (bH (cc i) (ta Es))) (λq R W=>(∃t,q[i]?=Z (.o t))/\qa q (λts q'=>Ex2 (λt=>q'[i]?=Z (.o t)) λt=>pq (t::ts) λt=>t.im=O/\R t q') W) :=
 (λEs a=>zz F hr hg hm hk hb .nil ub (bh ho (ha.h Es a) he) ak he ah,λdl H₀ hs H σ q R W Q Es r V kk kx=>by
  let((t0,e0),V):=V;let(F,r):=r;let(v,hv,aw):=r.g i _ _ e0 U;refine(v,hv,ha.s dl H₀ hs H σ q _ W _ Es (F,r) V (λvs ts q' H' (F,r') rs z=>?_) kx)
  let(t,e1,z):=z;let(v',P,rp):=r'.g i _ _ e1 U;rw[hv]at P;cases P;show spQ K pq (v::vs ++ []) H' Q E0;rw[qp];refine(dl,t::ts,F i ++ [],_,r'.d,(.cons rp.r rs.r,λb hb=>rp.n b (by rwa [qp]at hb)),z,λv t F' H2 ev rv _ _ au=>?_)
  let(im,z):=au;obtain rfl:=rv.r.im im;exact kk v t q' H2 (F,r'.evo ev) rv z)
def Sb(i:Nat)(ps:ox)(qa:QAG):QG:=λq R W=>(∃t,q[i]?=Z (.o t))/\qa q (λts q'=>Ex2 (λt=>q'[i]?=Z (.o t)) λt=>∀a,ps (lv a t::ts) (λr us=>r.im=O/\on1 us λu=>R r (q'.set i (.o (lb t u)))) (W (q'.set i .no))) W
theorem jq(F:aV X.prog X.w X.K X.mg X.base (CX1 X.prog X.w) k f fd prs (spG K [0] [0] ps))(hr:bP k X.A)(hg:Gl X x)(hm:X.mg x=Z (.ref f))(hk:W.keepIn X.K (.ref f)=O)(hb:Binds X.K fd prs [])(ho:PE X o (cc i))(ha:Ao X K es ta qa)
  (ah:autoParam (AS x) zdc._auto_1) (he:‹AC X o es›) (V:‹AM X pos es›):
  QPG X K (.Call (.Name x pos') (o::es) [] pos) (λEs=>sv (spG K [0] [0] ps) Es (bH (cc i) (ta Es))) (Sb i ps qa) :=
 (λEs a=>qP F hr hg hm hk hb a (bh ho (ha.h Es a) he) ah he V,λdl H₀ hs H σ q R W Q Es r P kk kx=>by
  let((t0,e0),P):=P;let(F,r):=r;let(v,hv,ak):=r.g i _ _ e0 U;refine(v,hv,ha.s dl H₀ hs H σ q _ W _ Es (F,r) P (λvs ts q' H' (F,r') rs z=>?_) kx)
  let(t,e1,z):=z;exact Qj r' e1 hv (p:=[]) U U rs z kk kx)
def R9(i j:Nat)(ps:ox)(qa:QAG):QG:=λq R W=>(∃t,q[i]?=Z (.o t))/\(∃t,q[j]?=Z (.o t))/\qa q (λts q'=>Ex2 (λt=>q'[i]?=Z (.o t)) λt=>Ex2 (λt=>q'[j]?=Z (.o t)) λg=>∀a b,ps (lv a t::lv b g::ts) (λr us=>r.im=O/\on2 us λu z=>R r ((q'.set i (.o (lb t u))).set j (.o (lb g z)))) (W ((q'.set i .no).set j .no))) W
theorem Kl{o2:EQ}(au:i≠j)(F:aV X.prog X.w X.K X.mg X.base (CX1 X.prog X.w) k f fd prs (spG K [0,1] [0,1] ps))(hr:bP k X.A)(hg:Gl X x)(hm:X.mg x=Z (.ref f))(hk:W.keepIn X.K (.ref f)=O)(hb:Binds X.K fd prs [])(ho:PE X o (cc i))(ak:PE X o2 (cc j))(ha:Ao X K es ta qa)
  (aD:autoParam (AS x) zdc._auto_1) (he:‹dO (o::o2::es) X.env=(ϊ,eval o X.env)::dO (o2::es) X.env›) (aw:‹AC X o2 es›) (ah:‹(backTo pos (dO (o2::es) X.env)).any (·.1)=false›):
  QPG X K (.Call (.Name x pos') (o::o2::es) [] pos) (λEs=>sv (spG K [0,1] [0,1] ps) Es (bH (cc i) (bH (cc j) (ta Es)))) (R9 i j ps qa) :=
 (λEs a=>qP F hr hg hm hk hb a (bh ho (bh ak (ha.h Es a) aw) he) aD he ah,λdl H₀ hs H σ q R W Q Es r V kk kx=>by
  let((t0,e0),(t1,e1),V):=V;let(F,r):=r;let(v,hv,_):=r.g i _ _ e0 U;let(v2,z,_):=r.g j _ _ e1 U;refine(v,hv,v2,z,ha.s dl H₀ hs H σ q _ W _ Es (F,r) V (λvs ts q' H' (F,r') rs P=>?_) kx)
  let(t,e1,t2,e2,P):=P;exact Qi r' au e1 hv (p:=[]) U U e2 z (p2:=[]) U U rs P kk kx)
def DN(j:Nat)(C:J)(m:Str)(ps:ox)(ql:QL)(qa:QA):QG:=λq R W=>ql q λp u=>match u with
 |.om x C' ns ts=>C'=C/\(ns.zip ts).lookup m=Y/\qa q λus=>T.ims us=O/\Ex2 (λt=>q[j]?=Z (.o t)) λt=>ps (.om x C' ns ts::us) (λr us=>r.im=O/\on1 us λu'=>R r (q.set j (.o (T.put u' p t)))) (W (q.set j .no))
 |_=>False
def x5(ho:UM K j to qo)(ha:An K n tl ql):Xn K (λEs=>su C m (spG K [0] [0] ps) Es to tl) (DN j C m ps qo ql):=λdl H₀ hs H σ q R W Q Es hr hq kk kx=>by
 let(F,r):=hr;refine ho dl H σ q _ _ r.rd hq λt v p u w hj hv z hw g=>?_
 split at g
 ·rename_i x C' ns ts;let(U,hl,g):=g;let(Fu,ru):=r.rd.part hj hv z hw;let(dx,vs,G,U,eF,h1,h2,h3,h4):=ru.r.omm;let(v2,w2,au,V,P,_):=r.mod hj z;rw[hv]at V;cases V;cases hw.uniq (P H (.refl r.d));refine(x,dx,_,U,h1,(yg h4.len).mp hl,ha dl H σ q _ _ r.rd g λws us Fa H2 e2 r2 _ g=>?_)
  let(ak,g):=g;obtain rfl:=r2.r.im ak;let(t',ah,g):=g;rw[hj]at ah;cases ah;exact Qj (r.evo e2) hj hv z (P H2 e2) r2 (λ_=>g) kk kx
 ·exact g.elim
def gp(V:Cls K C)(hm:Meth K C m f)(G:aV X.prog X.w X.K X.mg X.base (CX1 X.prog X.w) k f fd prs (spG K [0] [0] ps))(hr:bP k X.A)(hb:Binds K fd prs [])(ho:QPL X K j o to qo)(ha:QPA X K (e::es) tl ql)(hK:‹X.K=K›)
  {g:Sem Bool} (q:‹AC X e es›) (z:‹AM X pos es›)
  (Q:‹eval (.Call (.Attribute o m apos) (e::es) [] pos) X.env=(do
   let P <- eval o X.env
   standAt apos.atName
   let(f,first) <- holding [P] (getMethod P m g)
   callWith pos f first (backTo pos (dO (e::es) X.env)) (backToKw pos (keywordEach [] X.env)))›):
  QPG X K (.Call (.Attribute o m apos) (e::es) [] pos) (λEs=>su C m (spG K [0] [0] ps) Es to tl) (DN j C m ps qo ql):=(λEs a=>by subst hK;exact Bk ho.h V hm G hr hb a ha.h q z Q,x5 ho.s ha.s)
def cH(P:Cls K C)(hm:Meth K C m f)(G:aV X.prog X.w X.K X.mg X.base (CX1 X.prog X.w) k f fd prs (spG K [0] [0] ps))(hr:bP k X.A)(V:Binds K fd prs [])(ho:QPL X K j o to qo)(hK:‹X.K=K›)
  {g:Sem Bool} (z:‹eval (.Call (.Attribute o m apos) [] [] pos) X.env=(do
   let q <- eval o X.env
   standAt apos.atName
   let(f,first) <- holding [q] (getMethod q m g)
   callWith pos f first (backTo pos (dO [] X.env)) (backToKw pos (keywordEach [] X.env)))›):
  QPG X K (.Call (.Attribute o m apos) [] [] pos) (λEs=>su C m (spG K [0] [0] ps) Es to fK) (DN j C m ps qo λ_ Q=>Q []):=(λEs a=>by subst hK;exact HD ho.h P hm G hr V a z,x5 ho.s vD)
def N5(j i:Nat)(C:J)(m:Str)(ps:ox)(ql:QL):QG:=λq R W=>ql q λp u=>match u with
 |.om x C' ns ts=>C'=C/\(ns.zip ts).lookup m=Y/\Ex2 (λt=>q[j]?=Z (.o t)) λt=>Ex2 (λt=>q[i]?=Z (.o t)) λg=>∀b,ps [.om x C' ns ts,lv b g] (λr us=>r.im=O/\on2 us λu' z=>R r ((q.set j (.o (T.put u' p t))).set i (.o (lb g z)))) (W ((q.set j .no).set i .no))
 |_=>False
def Bb(aH:j≠i)(hc:Cls K C)(hm:Meth K C m f)(G:aV X.prog X.w X.K X.mg X.base (CX1 X.prog X.w) k f fd prs (spG K [0,1] [0,1] ps))(hr:bP k X.A)(hb:Binds K fd prs [])(ho:QPL X K j o to qo)(he:PE X e (cc i))(hK:‹X.K=K›)
  {aw:Sem Bool} (ah:‹AC X e []›) (aD:‹(backTo pos (dO [] X.env)).any (·.1)=false›)
  (ht:‹eval (.Call (.Attribute o m apos) [e] [] pos) X.env=(do
   let ov <- eval o X.env
   standAt apos.atName
   let(f,first) <- holding [ov] (getMethod ov m aw)
   callWith pos f first (backTo pos (dO [e] X.env)) (backToKw pos (keywordEach [] X.env)))›):
  QPG X K (.Call (.Attribute o m apos) [e] [] pos) (λEs=>su C m (spG K [0,1] [0,1] ps) Es to (bH (cc i) fK)) (N5 j i C m ps qo):=(λEs a=>by subst hK;exact Bk ho.h hc hm G hr hb a (bh he dC ah) ah aD ht,λdl H₀ hs H σ q R W Q Es hr hq kk kx=>by
 let(F,r):=hr;refine ho.s dl H σ q _ _ r.rd hq λt v p u w hj hv ak hw P=>?_
 split at P
 ·rename_i x C' ns ts;let(U,hl,t',au,t2,hi,P):=P;rw[hj]at au;cases au;let(Fu,ru):=r.rd.part hj hv ak hw;let(dx,vs,G,U,eF,h1,h2,h3,h4):=ru.r.omm;let(v2,V,_):=r.g i _ _ hi U;refine(x,dx,_,U,h1,(yg h4.len).mp hl,v2,V,?_);exact Qi r aH hj hv ak hw hi V (p2:=[]) U U (ws:=[]) (ts:=[]) (.nil,λ_ z=>nomatch z) (λ_ b=>P b) kk kx
 ·exact P.elim)
end
variable{op:CmpOp}{rq:Q2}
section
variable{X:Cx}{K:BT}{i:Nat}{a b e o c:EQ}{es:List EQ}{sa sb:List Fk}{tb to:TE}{tg:(St->XK)->TE}{ta:(St->XK)->TA}{ts us:(St->XK)->TS}{qs qr:QSX}{qb:QE}{qg:QG}{qa:QAG}{qo:QL}{pos apos pos' a5 gh:Pos}{m:Str}{C f:J}{H₀:Hp}{hs:List (V×T)}{σ:St}{q:Sq}
def dA(he:QPG X K e tg qg)(hs:‹swapsWith e Y pos.line X.env=pure false›):ou X K (.Expr e pos) (λEs=>mD (tg Es)) (λW D q=>qg q (λ_ q'=>D.nx q') W) :=
 (λEs a _=>jD (he.h Es a) hs,λdl H₀ hs H σ q Dq D W Es r z E x=>he.s dl H₀ hs H σ q _ W _ Es r z (λv t q' H' r' _ g=>E.nx H' σ q' r' g) x)
def qz(he:QPG X K e tg qg):ou X K (.Return (Z e) pos) (λEs=>Ju (tg Es)) (λW D q=>qg q (λt q'=>D.ru q' t) W) :=
 (λEs a _=>pj (he.h Es a),λdl H₀ hs H σ q Dq D W Es r Q E x=>he.s dl H₀ hs H σ q _ W _ Es r Q (λv t q' H' (F,r') g P=>E.ru H' σ q' F v t [] r' g (λ_ z=>nomatch z) mz (λ_ _ z=>nomatch z) P) x)
def cX(V:X.N.Nodup)(he:QPG X K e tg qg)(hi:‹X.N[i]?=Z x›)(hx:Loc X.env.scope x:=by first|exact .inl rfl|exact .inr U)(hs:‹swapsWith e (Z (.Name x pos')) pos.line X.env=pure false›)(hf:AT X x:=by first|exact .inl rfl|exact .inr rfl|assumption):
  ou X K (.Assign [.Name x pos'] e pos) (λEs=>uM (tg Es) (jF i)) (λW D q=>qg q (λt q'=>D.nx (q'.set i (.o t))) W):=(λEs a _=>lj V hi hx (he.h Es a) hs hf,λdl H₀ hs H σ q Dq D W Es r Q E x=>he.s dl H₀ hs H σ q _ W _ Es r Q (λv t q' H' (F,r') g P=>E.nx H' _ _ (r'.f9 (.refl r'.d) g (λ_ z=>nomatch z) mz) P) x)
def Kc(Q:X.N.Nodup)(ha:Ao X K es ta qa)(hi:‹X.N[i]?=Z x›)(hx:Loc X.env.scope x:=by first|exact .inl rfl|exact .inr U)(hs:‹swapsWith (.List es a5) (Z (.Name x pos')) pos.line X.env=pure false›)(hf:AT X x:=by first|exact .inl rfl|exact .inr rfl|assumption):
  ou X K (.Assign [.Name x pos'] (.List es a5) pos) (λEs=>uM (Rr (ta Es)) (jF i)) (λW D q=>qa q (λts q'=>ts.length<=ot/\D.nx (q'.set i (.o (.l ts)))) W):=(λEs a _=>lj Q hi hx (K5 (ha.h Es a)) hs hf,λdl H₀ hs H σ q Dq D W Es r P E x=>ha.s dl H₀ hs H σ q _ W _ Es r P (λvs ts q' H' (F,r') rs (hl,z)=>(by rw[rs.r.len];exact hl,λp hp=>by
  have ev:Evo dl H' (upd H' p (.lst vs)):=(Evo.refl r'.d).new hp;exact E.nx _ _ _ (r'.f9 ev (t:=.l ts) (F':=[p]) (.l aC (rs.evo r'.d ev).r,λb g=>by rw[aB.mp g];exact r'.d.nd0 hp) (λb g=>by rw[aB.mp g];exact hp) (by simp)) z)) x)
def jA(ho:PE X o (cc i))(he:QPG X K e tg qg)(hK:‹X.K=K›)(eI:‹attributeBase o "append" X.env (eval o X.env)=eval o X.env›)
  (kb:‹At X a5 [e]›)
  (eD:‹(apos.endLine==a5.line)=true›) (hs:‹AC X e []›) (dg:‹(backTo a5 (dO [] X.env)).any (·.1)=false›)
  (au:‹swapsWith (.Call (.Attribute o "append" apos) [e] [] a5) Y gh.line X.env=pure false›):
  ou X K (.Expr (.Call (.Attribute o "append" apos) [e] [] a5) gh) (λEs=>mD (tBM K "list" k8 (cc i) (bH (tg Es) fK))) (λW D q=>(∃xs,q[i]?=Z (.o (.l xs)))/\qg q (λt q'=>Ex2 (λxs=>q'[i]?=Z (.o (.l xs))) λxs=>xs.length<ot/\D.nx (q'.set i (.o (.l (xs ++ [t]))))) W) :=
 (λEs a _=>jD (pH hK ho (he.h Es a) eI kb eD hs dg) au,λdl H₀ hs H σ q Dq D W Es (F,r) hq E x=>by
  let((xs,ei),hq):=hq;let(v,hv,rp):=r.g i _ _ ei U;let(p,vs,G,U,eF,h1,h2):=rp.r.lst;refine(_,hv,.inl (U,vs,SqL.of h1),he.s dl H₀ hs H σ q _ W _ Es (F,r) hq (λw t q' H' (F',r') rw hz=>?_) x)
  let(ys,z,hl,hz):=hz;let(v',P,ak):=r'.g i _ _ z U;rw[hv]at P;cases P;let(o1,o2,o3):=r'.o i _ z;let(p',ah,G',e2,V,aw,Q):=ak.r.lst;cases e2;refine(p,ah,w,U,U,aw,by rw[Q.len];exact hl,?_)
  refine E.nx _ σ _ (r'.vK z hv V (.refl r'.d) (Q.append (.cons rw.r .nil)) ?_ λb hb=>?_) hz
  ·rw[qp,qp];rw[V]at o1;exact(xj.mp o1).2
  ·rw[qp,qp]at hb;exact .inl hb)
def NP(hc:Cls K C)(hn:bS K C m)(ho:QPL X K j o to qo)(he:QPG X K e tg qg)(hs:‹swapsWith e (Z (.Attribute o m pos')) pos.line X.env=pure false›)(hK:‹X.K=K›):
  ou X K (.Assign [.Attribute o m pos'] e pos) (λEs=>NF K to (tg Es) m) (λW D q=>qg q (λy q'=>qo q' λp u=>match u with
   |.om x C' ns ts=>C'=C/\ns.length<1000/\Ex3 (λt=>q'[j]?=Z (.o t)) (λt=>(q'.set j (.o (T.put (.om x C (putN m ns) (f9 m y ns ts)) p t)))) D.nx
   |_=>False) W):=(λEs a _=>by subst hK;exact DR ho.h (he.h Es a) hs,λdl H₀ hs H σ q Dq D W Es r hq E x=>by
 refine he.s dl H₀ hs H σ q _ W _ Es r hq (λy ty q' H1 (F,r) r1 g=>(ho.s dl H1 σ q' _ _ r.rd g λt v p u w hj ah hs hw g=>?_)) x
 split at g
 ·rename_i x C' ns ts;let(U,hl,t',Q,g):=g;rw[hj]at Q;cases Q;let(v2,w2,Fu,P,V,ru,nu,md):=r.mod hj hs;rw[ah]at P;cases P;cases hw.uniq (V H1 (.refl r.d));let(dx,vs,G,U,U,h1,h2,h3,h4):=ru.r.omm;have ak:=h4.len;let(Fu',q1,q2,q3):=Rp.fC (f:=m) ru (.refl r.d) r.d h1 r1 nu mz (λ_ z=>nomatch z) (by omega)
  let(F',r'):=md _ _ Fu' (eQ.yY (.refl r.d) di ru.n λxs h=>by rw[h]at h1;cases h1) q1 q2 q3
  exact(x,_,dx,_,U,h1,hc,hn,by rw[ZG];omega,E.nx _ σ _ (_,r') g)
 ·exact g.elim)
def RP{r:R2}(V:OpR X (compareOp op) r)(Q:gK K r rq)(ah:behindInMarks op b=ϊ)(he:QPG X K a tg qg)(hb:QPE X K b tb qb)(h1:kO X K sa ts qs)(h2:kO X K sb us qr):
  ou X K (.If (.Compare a [op] [b] a5) sa sb pos) (λEs=>Ni (AQ (tOp r (tg Es) tb)) (ts Es) (us Es)) (λW D q=>qg q (λv q'=>qb q' λu=>rq v u λt=>match t with|.b c=>if c=O then qs W D q' else qr W D q' |_=>False) W) :=
 (λEs a b=>FK (nP V (he.h Es a) hb.h ah) (h1.h Es a b) (h2.h Es a b),λdl H₀ hs H σ q Dq D W Es r hq E x=>by
  refine he.s dl H₀ hs H σ q _ W _ Es r hq (λv t q' H' (F,r') rv g=>?_) x
  refine hb.s dl H' σ q' _ _ r'.rd g λw u Fw H1 e1 P g=>?_
  refine Q dl H1 v w t u [] Fw _ _ e1.d (rv.evo r'.d e1) P g λy z Fx H2 e2 rx _ _ g=>?_
  have r2:cJ K dl H₀ hs H2 σ q':=(F,(r'.evo e1).evo e2);cases z with
  |b c =>
   let(U,_):=rx.r.bl;refine(c,U,?_);cases c with
   |true=>exact h1.s dl H₀ hs H2 σ q' Dq D W Es r2 g E x
   |false=>exact h2.s dl H₀ hs H2 σ q' Dq D W Es r2 g E x
  |_=>exact g.elim)
end
section
variable{X:Cx}{K:BT}{i k:Nat}{a b e o c:EQ}{es:List EQ}{te tb to:TE}{ta:(St->XK)->TA}{qa:QAG}{ql:QA}{qo:QL}{pos apos pos' a5 gh:Pos}{m:Str}{C f:J}{prs:List Str}{ps:ox}{H₀:Hp}{hs:List (V×T)}{σ:St}{q:Sq}
def Vy(n:Int)(ql:QL):QL:=λq P=>ql q λp u=>match u with
 |.lp _ xs=>∃m x,ixN xs.length n=Z m/\xs[m]?=Z x/\P (p ++ [.inr m]) x
 |_=>False
def Kg{n:Int}(he:QPL X K j e te qo)(hb:PE X b tb)(hn:∀σ H R,R (.int n) H->tb σ H R)(hs:rW b:=by intro _ _;rfl)(hK:‹X.K=K›):QPL X K j (.Subscript e b pos) (tOp (rIx K) te tb) (Vy n qo) :=
 (by subst hK;exact FT zT he.h hb hs,λdl H σ q P R rd hq k=>he.s dl H σ q _ _ rd hq λt v p u w Q hv hs hw g=>by
  split at g
  ·let(m,x,hm,hx,g):=g;let(Fu,V):=rd.part Q hv hs hw;let(vs,G,U,U,h1,h2):=V.r.lpp;let(z,_,_,l1,_):=h2.itm hx;refine hn _ _ _ (.inl (_,vs,n,z,U,U,SqL.of h1,pQ (by rw[h2.len];exact hm) l1,k t v _ x z Q hv (T.sub_snoc hs (by unfold T.sub;rw[hx];rfl)) (hw.snoc (show VAt H [.inr m] (.ref _) z from(_,_,z,U,h1,l1,U))) g))
  ·exact g.elim)
def Kf(Q:i≠j)(hc:Cls K C)(hn:bS K C m)(ho:QPL X K j o to qo)(he:PE X e (cc i))(hs:‹swapsWith e (Z (.Attribute o m pos')) pos.line X.env=pure false›)(hK:‹X.K=K›):
  QPS X K (.Assign [.Attribute o m pos'] e pos) (NF K to (cc i) m) (λD q=>Ex2 (λy=>q[i]?=Z (.o y)) λy=>qo q λp u=>match u with
   |.om x C' ns ts=>C'=C/\ns.length<1000/\(ns.zip ts).lookup m=Y/\Ex3 (λt=>q[j]?=Z (.o t)) (λt=>((q.set i .no).set j (.o (T.put (.om x C (putN m ns) (f9 m y ns ts)) p t)))) D.nx
   |_=>False):=(by subst hK;exact DR ho.h he hs,λdl H₀ hs H σ q Dq D (F,r) hq E=>by
 let(y,hy,hq):=hq;let(vy,aL,ry):=r.g i _ y hy U;refine(vy,aL,ho.s dl H σ q _ _ r.rd hq λt v p u w hj hv aX hw hz=>?_)
 split at hz
 ·rename_i x C' ns ts;let(U,hl,a0,t',ak,hz):=hz;rw[hj]at ak;cases ak;let(v',ah,rp):=r.g j _ t hj U;rw[hv]at ah;cases ah;let(w',Fu,G,a1,a2,a3,a4):=rp.r.zip p aX;cases hw.uniq (a1 H λ_ _ _ z=>z)
  let(dx,vs,G1,U,U,h1,h2,h3,h4):=a2.omm;let(o1,o2,o3):=r.o j t hj;let(y1,y2,y3):=r.o i y hy;have a5:=h4.len;have m1:∀b,b∈x::dx::G1\/b∈G->b∈F j:=λb P=>a3.mem_iff.mpr (mu.mpr P)
  let(n1,n2,n3):=x2.mp (a3.nodup_iff.mp o1);have apart:∀b,b∈F j->b ∉ F i:=λb P=>o3 i Q b P
  have eF:[i,j].flatMap F=F i++F j:=by simp
  let H':=upd H x (.ins C' dx (L2.fC m vy (ns.zip vs)))
  have V:=m1 x (.inl di);have bx:eQ dl H [x] H':=eQ.yY (.refl r.d) (aB.mpr U) (λb P=>by rw[aB.mp P];exact rp.n x V) (λxs h=>by rw[h]at h1;cases h1)
  have tf:=bx.tf (λb P=>by rw[aB.mp P];exact r.bM V) r.d
  have keep:∀b,b≠x->∀o,H b=Z o->H' b=Z o:=λb ne o h=>by show upd _ _ _ _=_;rw[ax ne];exact h
  have nx:=xj.mp n1;have au:=ry.r.eC tf (λ_ z=>z) λb P=>keep b λz=>apart b (z▸V) P
  have aw:=h4.eC tf (λ_ z=>z) λb P=>keep b λz=>nx.1 (by rw[<- z];exact aJ _ P)
  have rN:=aA.EA (f:=m) au aw h3 a0;have hd2:H' dx=Z (.own x):=keep dx (λz=>nx.1 (by rw[<- z];exact di)) _ h2
  have aH:H' x=Z (.ins C' dx ((putN m ns).zip (f9 m vy ns vs))):=by show upd _ _ _ _=_;rw[aC,E4 (by omega)]
  have aD:aI K dl H' (.ref x) (.om x C' (putN m ns) (f9 m y ns ts)) _:=.om aH hd2 (zr (by omega)) rN
  let(F2,g1,g2):=a4 H' _ _ tf (λb P o h=>keep b (λz=>n3 x di b P z.symm) o h) aD
  have mem:∀b∈F2,b∈F j\/b∈F i:=λb P=>by
   obtain z|z:=mu.mp (g2.mem_iff.mp P)
   ·obtain z|z:=fx.mp z
    ·exact .inl (z▸V)
    ·obtain z|z:=fx.mp z
     ·exact .inl (m1 b (.inl (by rw[z];exact aJ _ di)))
     ·obtain z|z:=mu.mp z
      ·exact .inl (m1 b (.inl (aJ _ (aJ _ z))))
      ·rw[qp]at z;exact .inr z
   ·exact .inl (m1 b (.inr z))
  have nd:F2.Nodup:=by
   refine g2.nodup_iff.mpr ?_;rw[qp];have p0:(x::dx ::(G1++F i)++G).Perm ((x::dx::G1++G)++F i):=by
    show(x::dx ::(G1++F i++G)).Perm (x::dx ::(G1++G++F i));refine(List.Perm.cons _ (List.Perm.cons _ ?_));rw[Ay,Ay];exact List.perm_append_comm.append_left G1
   exact p0.nodup_iff.mpr (x2.mpr (a3.nodup_iff.mp o1,y1,λc hc d hd e=>apart c (a3.mem_iff.mpr hc) (e▸hd)))
  have Lr:eQ dl H ([i,j].flatMap F) H':=by
   rw[eF];refine(λb o e n=>bx.k b o e λz=>n (by rw[aB.mp z];exact lO _ V),λb y e n=>bx.r b y e λz=>n (by rw[aB.mp z];exact lO _ V),λb xs P e=>?_,bx.d)
   by_cases z:b ∈ [x]
   ·exact bx.l b xs z e
   ·exact(xs,bx.k b _ e z ((mu.mp P).elim (ry.n b) (rp.n b)) λ_ z=>nomatch z)
  have r3:=r.BM (S:=[i,j]) (u':=λ_=>T.put (.om x C' (putN m ns) (f9 m y ns ts)) p t) (F':=λn=>if n=j then F2 else []) (q':=(q.set i .no).set j (.o (T.put (.om x C' (putN m ns) (f9 m y ns ts)) p t)))
   (λn hn=>by
    obtain z|z:=fx.mp hn
    ·rw[z];exact(y,hy)
    ·rw[aB.mp z];exact(t,hj)) Lr
   (λn hn z=>by
    obtain e|e:=fx.mp hn
    ·rw[e,ui Q.symm,u6 (kf.mp hy).1]at z;cases z
    ·rw[aB.mp e];simp only[if_pos];exact(v,hv,g1,λb P=>(mem b P).elim (rp.n b) (ry.n b)))
   (λn hn=>by split;exact nd;exact mz)
   (λn hn b P=>by
    rw[eF]
    split at P
    ·exact .inl ((mem b P).elim (lO _) (px _))
    ·cases P)
   (λn hn l hl ne b P z=>by
    split at P
    ·rename_i e1
     split at z
     ·rename_i e2;exact ne (e2.trans e1.symm)
     ·cases z
    ·cases P)
   (by simp) (λn hn=>by rw[ui λz=>hn (by rw[z];exact aJ _ di),ui λz=>hn (by rw[z];exact di)])
   (λn hn=>by
    obtain e|e:=fx.mp hn
    ·right;rw[e,ui Q.symm,u6 (kf.mp hy).1];exact(U,if_neg Q)
    ·left;rw[aB.mp e,u6 (by rw[Az];exact(kf.mp hj).1)])
  exact(x,C',dx,_,U,h1,hc,hn,by rw[ZG];omega,E.nx _ σ _ (_,r3) hz)
 ·exact hz.elim)
def V5:Passes (CX1 X.prog X.w) X E0:=λ_ _ _ _ _ _ _ h=>by
 let(_,_,_,_,_,_,_,_,_,_,_,_,_,_,g):=h;exact g.elim
def Sd(k i:Nat)(C:J)(ps:ox)(qa:QAG):QSX:=λW D q=>(∃xs,q[k]?=Z (.o (.l xs)))/\(∃t,q[i]?=Z (.o t))/\qa q (λts q'=>Ex2 (λxs=>q'[k]?=Z (.o (.l xs))) λxs=>Ex2 (λt=>q'[i]?=Z (.o t)) λt=>xs.length<ot/\∀x,ps (.om x C [] []::t::ts) (λr us=>r=.n/\on1 us λu=>D.nx ((q'.set i .no).set k (.o (.l (xs ++ [u]))))) λ_ _ _=>False) W
def Hv(ak:i≠k)(M:Mk K C f)(G:aV X.prog X.w X.K X.mg X.base (CX1 X.prog X.w) j f fd prs (spG K [0] [0,1] ps))(hr:bP (j+1) X.A)(hg:Gl X x)(hm:X.mg x=Z (.ref C))(P:Binds K fd prs [])(ho:PE X o (cc k))(hy:PE X b (cc i))(ha:Ao X K es ta qa)(hK:‹X.K=K›)
  (eI:‹attributeBase o "append" X.env (eval o X.env)=eval o X.env›)
  (kb:‹((backTo a5 (dO [.Call (.Name x pos') (b::es) [] pos] X.env)).all (λx=>!x.1)&&(backToKw a5 (keywordEach [] X.env)).all (λx=>x.1.isSome)
   && decide (([.Call (.Name x pos') (b::es) [] pos]:List EQ).length+([]:List Keyword).length+(if([]:List Keyword).isEmpty then 0 else 1)<30))=true›)
  (eD:‹(apos.endLine==a5.line)=true›) (hs:‹dO [.Call (.Name x pos') (b::es) [] pos] X.env=(ϊ,eval (.Call (.Name x pos') (b::es) [] pos) X.env)::dO [] X.env›) (dg:‹(backTo a5 (dO [] X.env)).any (·.1)=false›)
  (a9:‹swapsWith (.Call (.Attribute o "append" apos) [.Call (.Name x pos') (b::es) [] pos] [] a5) Y gh.line X.env=pure false›)
  (bf:autoParam (AS x) zdc._auto_1) (aL:‹AC X b es›) (bb:‹AM X pos es›):
  ou X K (.Expr (.Call (.Attribute o "append" apos) [.Call (.Name x pos') (b::es) [] pos] [] a5) gh) (λEs=>mD (tBM K "list" k8 (cc k) (bH (E9 C (spG K [0] [0,1] ps) [] E0 (bH (cc i) (ta Es))) fK))) (Sd k i C ps qa) :=
 (λEs a _=>jD (pH hK ho (by subst hK;exact FR M G hr hg hm P .nil V5 (bh hy (ha.h Es a) aL) bf aL bb) eI kb eD hs dg) a9,λdl H₀ hs H σ q Dq D W Es (F,r) hq E kx=>by
  let((xs,ek),(t0,ei),hq):=hq;let(v,hv,rp):=r.g k _ _ ek U;let(p,vs,G0,U,eF,h1,h2):=rp.r.lst;let(vy,aH,_):=r.g i _ _ ei U;refine(_,hv,.inl (U,vs,SqL.of h1),vy,aH,ha.s dl H₀ hs H σ q _ W _ Es (F,r) hq (λws ts q' H' (F',r') rs hz=>?_) kx)
  clear eF h1 h2 rp ek ei;let(xs,ek,t,ei,hl,hz):=hz;let(v',ah,rp):=r'.g k _ _ ek U;rw[hv]at ah;cases ah;let(p',vs,G0,ep,eF,h1,h2):=rp.r.lst;cases ep;let(v',ah,ry):=r'.g i _ _ ei U;rw[aH]at ah;cases ah;let(o1,o2,o3):=r'.o k _ ek;let(y1,y2,y3):=r'.o i _ ei;have apart:∀b,b∈F' k->b ∉ F' i:=λb P=>o3 i ak b P
  intro z dz nz V ne;show spG K [0] [0,1] ps (.ref z ::(vy::ws ++ [])) _ _ E0;rw[qp];have Q:Evo dl H' (upd (upd H' dz (.own z)) z (.ins C dz [])):=((Evo.refl r'.d).new V).new (by rw[ax ne.symm];exact nz)
  have ro:Rp K dl (upd (upd H' dz (.own z)) z (.ins C dz [])) (.ref z) (.om z C [] []) [z,dz]:=(.om aC (by rw[ax ne,aC]) U .nil,λb P=>by
   obtain e|e:=fx.mp P
   ·rw[e];exact r'.d.nd0 nz
   ·rw[aB.mp e];exact r'.d.nd0 V)
  have old:∀{n b},b∈F' n->b ∉ [z,dz]:=λ{n b} P e=>by
   have th:=r'.bM P;obtain e|e:=fx.mp e
   ·rw[e]at th;exact th.no nz
   ·rw[aB.mp e]at th;exact th.no V
  have eU:[0,1].flatMap (λn:Nat=>if n=0 then [z,dz]else if n=1 then F' i else [])=[z,dz]++F' i:=by simp
  have aD:=ry.evo r'.d Q;have a6:=rs.evo r'.d Q;refine(dl,_,λn=>if n=0 then [z,dz]else if n=1 then F' i else [],_,_,Q.d,congrArg (· + 2) rs.r.len,λn x y e1 Q=>?_,λn hn=>?_,λn hn=>?_,hz z,λvr r2 Fr us F2 H2 bx told rv _ _ hz=>?_,λ_ _ _ _ _ _ _ hw=>hw.elim)
  ·match n with
   | 0=>cases e1;cases Q;exact ro
   | 1=>cases e1;cases Q;exact aD
   |n+2=>exact(a6.r.im0 U n x y (by simpa using e1) (by simpa using Q),λ_ z=>nomatch z)
  ·rw[my,my]at hn;rw[if_neg (by omega),if_neg (by omega)]
  ·obtain e|e:=fx.mp hn
   ·rw[e];refine(by simp[ne.symm],λl hl b P h=>?_)
    rw[if_neg hl]at h
    split at h
    ·exact old h P
    ·cases h
   ·rw[aB.mp e];refine(y1,λl hl b P h=>?_)
    split at h
    ·exact old P h
    ·first|cases h|(rw[if_neg hl]at h;cases h)
  ·let(U,hz):=hz;let(u,U,hz):=on1.inv hz;let(U,_):=rv.r.non;have c1:=told.r 0 0 u (.ref z) U U U;let(d1,d2,_):=told.n 0 Z6;rw[eU]at bx d2;have sep:∀b∈F' k,b ∉ [z,dz]++F' i:=λb P h=>(mu.mp h).elim (old P) (apart b P)
   have kp:∀b∈F' k,∀o,H' b=Z o->H2 b=Z o:=λb P o h=>bx.k b o (Q.k b o h (rp.n b P) (.of (r'.bM P) h)) (sep b P) (rp.n b P) (.of (r'.bM P) h)
   have pk:p∈F' k:=by rw[eF];exact di
   have gk:∀b∈G0,b∈F' k:=λb P=>by rw[eF];exact aJ _ P
   have aX:=kp p pk _ h1;have a0:∀b ∈ [z,dz]++F' i,gJ (upd (upd H' dz (.own z)) z (.ins C dz [])) b:=λb P=>(mu.mp P).elim (λh=>ro.r.there b h) λh=>aD.r.there b h
   have aw:=(Q.tf r'.d);have a4:=bx.tf a0 Q.d;have l2:=(h2.eC aw (λ_ z=>z) λb P o h=>Q.k b o h (rp.n b (gk b P)) (.of (r'.bM (gk b P)) h)).eC a4 (λ_ z=>z) λb P o h=>bx.k b o h (sep b (gk b P)) (rp.n b (gk b P)) (.of ((h2.eC aw (λ_ z=>z) λb P o h=>Q.k b o h (rp.n b (gk b P)) (.of (r'.bM (gk b P)) h)).there b P) h)
   have pn:=rp.n p pk;have S5:∀b∈F2 0,b ∉ F' k:=λb P h=>(d2 b P).elim (sep b h) λe=>(r'.bM h).no (Q.free e)
   have a3:=eQ.tf (eQ.yY (o:=.lst (vs ++ [.ref z])) (.refl bx.d) (aB.mpr U) (λb P=>by rw[aB.mp P];exact pn) (λxs _=>(_,U))) (λb P=>by rw[aB.mp P];exact(_,aX,U)) bx.d
   rw[eF]at o1;have au:=xj.mp o1;have rl:aI K dl (upd H2 p (.lst (vs ++ [.ref z]))) (.ref p) (.l (xs ++ [u])) (p ::(G0++(F2 0 ++ []))):=.l aC ((l2.append (.cons c1.r .nil)).eC a3 (λ_ z=>z) λb P o h=>by
    rw[ax λe=>?_];exact h
    subst e;obtain P|P:=mu.mp P
    ·exact au.1 P
    ·rw[qp]at P;exact S5 _ P pk)
   rw[qp]at rl;have eS:[i,k].flatMap F'=F' i++F' k:=by simp
   have Wn:eQ dl H' ([i,k].flatMap F') (upd H2 p (.lst (vs ++ [.ref z]))):=by
    rw[eS];refine(λb o e n nd nr=>?_,λb y e n=>?_,λb ys P e=>?_,λd hd=>(bx.d d hd).other (pn d hd).1 (pn d hd).2)
    ·rw[ax λe=>n (by rw[e];exact lO _ pk)]
     exact bx.k b o (Q.k b o e nd nr) (λh=>(mu.mp h).elim (λh=>by
      obtain h|h:=fx.mp h
      ·rw[h,nz]at e;cases e
      ·rw[aB.mp h,V]at e;cases e) λh=>n (px _ h)) nd nr
    ·rw[ax λe=>n (by rw[e];exact lO _ pk)]
     let(y1,g1,g2):=Q.r b y e;let(y2,g3,g4):=bx.r b y1 g2 (λh=>(mu.mp h).elim (λh=>by
      obtain h|h:=fx.mp h
      ·rw[h,nz]at e;cases e
      ·rw[aB.mp h,V]at e;cases e) λh=>n (px _ h))
     exact(y2,Za g3 g1,g4)
    ·by_cases ep:b=p
     ·rw[ep];exact(_,aC)
     ·rw[ax ep];obtain P|P:=mu.mp P
      ·exact bx.l b ys (lO _ P) (Q.k b _ e (ry.n b P) λ_ z=>nomatch z)
      ·exact(ys,kp b P _ e)
   have r3:=r'.BM (S:=[i,k]) (u':=λ_=>.l (xs ++ [u])) (F':=λn=>if n=k then p ::(G0++F2 0)else []) (q':=(q'.set i .no).set k (.o (.l (xs ++ [u]))))
    (λn hn=>by
     obtain e|e:=fx.mp hn
     ·rw[e];exact(t,ei)
     ·rw[aB.mp e];exact(_,ek)) Wn
    (λn hn e=>by
     obtain h|h:=fx.mp hn
     ·rw[h,ui ak.symm,u6 (kf.mp ei).1]at e;cases e
     ·rw[aB.mp h];simp only[if_pos];refine(.ref p,hv,rl,λb P=>?_)
      obtain e|P:=fx.mp P
      ·rw[e];exact pn
      ·exact(mu.mp P).elim (λh=>rp.n b (gk b h)) (c1.n b))
    (λn hn=>by
     split
     ·refine xj.mpr (λh=>(mu.mp h).elim au.1 λh=>S5 _ h pk,x2.mpr (au.2,d1,λc hc d hd e=>S5 d hd (e▸gk c hc)))
     ·exact mz)
    (λn hn b P=>by
     rw[eS]
     split at P
     ·obtain e|P:=fx.mp P
      ·rw[e];exact .inl (lO _ pk)
      ·obtain h|h:=mu.mp P
       ·exact .inl (lO _ (gk b h))
       ·obtain h|h:=d2 b h
        ·obtain h|h:=mu.mp h
         ·obtain h|h:=fx.mp h
          ·rw[h];exact .inr nz
          ·rw[aB.mp h];exact .inr V
         ·exact .inl (px _ h)
        ·exact .inr (Q.free h)
     ·cases P)
    (λn hn l hl ne b P h=>by
     split at P
     ·rename_i e1
      split at h
      ·rename_i Q;exact ne (Q.trans e1.symm)
      ·cases h
     ·cases P)
    (by simp) (λn hn=>by rw[ui λe=>hn (by rw[e];exact aJ _ di),ui λe=>hn (by rw[e];exact di)])
    (λn hn=>by
     obtain e|e:=fx.mp hn
     ·right;rw[e,ui ak.symm,u6 (kf.mp ei).1];exact(U,if_neg ak)
     ·left;rw[aB.mp e,u6 (by rw[Az];exact(kf.mp ek).1)])
   exact(U,p,vs,.ref z,U,U,aX,by rw[h2.len];exact hl,E.nx _ σ _ (_,r3) hz))
end
variable{tg:EQ}
section
variable{X:Cx}{K:BT}{i k:Nat}{a b e o c:EQ}{pos apos a5 p1 p2:Pos}{m:Str}{C f:J}{prs:List Str}{ps:PSp}{H₀:Hp}{hs:List (V×T)}{σ:St}{q:Sq}
theorem aA.PQ:∀{ts us:List T}{vs:List V}{F:List J},aA K dl H vs (ts++us) F->∃q g P z,vs=q++g/\F=P++z/\aA K dl H q ts P/\aA K dl H g us z
 |[],us,vs,F,h=>([],vs,[],F,U,U,.nil,h)
 |t::ts,us,vs,F,h=>by
  have h:aA K dl H vs (t ::(ts++us)) F:=h;cases h with
  |cons hx hr =>
   let(q,g,P,z,U,U,g1,g2):=aA.PQ hr;exact(_::q,g,_++P,z,U,(Ay ..).symm,.cons hx g1,g2)
inductive Xr(k:Nat)(C:J)(m:Str)(ps:PSp)(q:Sq)(R:T->Sq->Prop):Prop
 |mk (a ys x ns ts) (h1:q[k]?=Z (.o (.lp a (ys ++ [.om x C ns ts])))) (h2:(ns.zip ts).lookup m=Y) (h3:ps [.om x C ns ts] λt=>t.im=O/\R t (q.set k (.o (.lp a ys))))
def NX(hc:Cls K C)(hm:Meth K C m f)(G:aV X.prog X.w X.K X.mg X.base CX0 j f fd prs (spQ K ps))(hr:bP j X.A)(P:Binds K fd prs [])(ho:PE X o (cc k))(hK:‹X.K=K›)
  (eI:‹attributeBase o "pop" X.env (eval o X.env)=eval o X.env›) (eD:‹(apos.endLine==a5.line)=true›)
  {aw:Sem Bool} (ht:‹eval (.Call (.Attribute (.Call (.Attribute o "pop" apos) [] [] a5) m p1) [] [] pos) X.env=(do
   let ov <- eval (.Call (.Attribute o "pop" apos) [] [] a5) X.env
   standAt p1.atName
   let(f,first) <- holding [ov] (getMethod ov m aw)
   callWith pos f first (backTo pos (dO [] X.env)) (backToKw pos (keywordEach [] X.env)))›):
  QPG X K (.Call (.Attribute (.Call (.Attribute o "pop" apos) [] [] a5) m p1) [] [] pos) (λ_=>tY C m (spQ K ps) [] E0 (Vb K "list" Vo (cc k)) fK) (λq R _=>Xr k C m ps q R) :=
 (λ_ _=>by subst hK;exact vU (Lb PySem.F.plainAttrs_list PySem.F.slot_list_pop PySem.F.type_list_pop Lk ho eI eD) hc hm G hr P .nil ub ht,λdl H₀ hs H σ q R W Q Es (F,r) hq kk _=>by
  let(a,ys,x,ns,ts,ek,hl,hz):=hq;let(v,hv,rp):=r.g k _ _ ek U;let(o1,o2,o3):=r.o k _ ek;let(vs,G0,U,eF,h1,h2):=rp.r.lpp;let(ah,aX,F1,F2,U,U,g1,g2):=h2.PQ;cases g2 with
  |cons hx hn =>
   rename_i w ws Fx Fn;cases hn;rw[qp]at eF;have ak:a∈F k:=by rw[eF];exact di
   have s1:∀b∈F1,b∈F k:=λb P=>by rw[eF];exact aJ _ (px _ P)
   have s2:∀b∈Fx,b∈F k:=λb P=>by rw[eF];exact aJ _ (lO _ P)
   rw[eF]at o1;let(n0,n1):=xj.mp o1;let(n2,n3,n4):=x2.mp n1;have an:=rp.n a ak;have V:eQ dl H [a] (upd H a (.lst ah)):=eQ.yY (.refl r.d) (aB.mpr U) (λb P=>by rw[aB.mp P];exact an) (λ_ _=>(_,U))
   have tf:=V.tf (λb P=>by rw[aB.mp P];exact r.bM ak) r.d
   have kp:∀b,b≠a->∀o,H b=Z o->upd H a (.lst ah) b=Z o:=λb ne o h=>by rw[ax ne];exact h
   have aL:=g1.eC tf (λ_ z=>z) λb P=>kp b λz=>n0 (by rw[<- z];exact px _ P)
   have au:=hx.eC tf (λ_ z=>z) λb P=>kp b λz=>n0 (by rw[<- z];exact lO _ P)
   have eS:[k].flatMap F=F k:=by simp
   have r2:=r.BM (S:=[k]) (u':=λ_=>.lp a ys) (F':=λ_=>a::F1) (q':=q.set k (.o (.lp a ys)))
    (λn hn=>by rw[aB.mp hn];exact(_,ek))
    (by
     rw[eS];refine(λb o e n=>V.k b o e λz=>n (by rw[aB.mp z];exact ak),λb y e n=>V.r b y e λz=>n (by rw[aB.mp z];exact ak),λb xs P e=>?_,V.d)
     by_cases z:b ∈ [a]
     ·exact V.l b xs z e
     ·exact(xs,V.k b _ e z (rp.n b P) λ_ z=>nomatch z))
    (λn hn _=>by
     rw[aB.mp hn];exact(_,hv,.lp aC aL,λb P=>rp.n b ((fx.mp P).elim (λz=>z▸ak) (s1 b))))
    (λ_ _=>xj.mpr (λz=>n0 (px _ z),n2))
    (λ_ _ b P=>.inl (by rw[eS];exact(fx.mp P).elim (λz=>z▸ak) (s1 b)))
    (λn hn l hl ne=>absurd ((aB.mp hl).trans (aB.mp hn).symm) ne)
    (by simp) (λn hn=>by rw[ui λz=>hn (by rw[z];exact aB.mpr U)])
    (λn hn=>by left;rw[aB.mp hn,u6 (kf.mp ek).1])
   have aD:=au;let(dx,ws,G1,U,eG,i1,i2,i3,i4):=aD.omm;refine(_,hv,.inl (U,_,SqL.of h1),a,_,.ref x,U,U,h1,by simp,?_)
   rw[aa3];refine(x,dx,_,U,i1,(yg i4.len).mp hl,?_);show spQ K ps [.ref x] _ Q E0;refine(dl,[.om x C ns ts],Fx ++ [],_,r2.d,(.cons au .nil,λb P=>rp.n b (s2 b (by rwa [qp]at P))),hz,λv t F' H2 ev rv _ _ aH=>?_)
   let(im,hz):=aH;obtain rfl:=rv.r.im im;exact kk v t _ H2 (_,r2.evo ev) rv hz)
def Itv(K:BT)(a:J)(n:Nat):It :=
 (λi H=>i<n/\∃xs,SqL K H a xs/\xs.length=n,λi H x H'=>H'=H/\∀xs,SqL K H a xs->xs[n - 1 - i]?=Z x,λi _=>i=n)
theorem Jr{w:Da}{K:BT}(a it:J)(n:Nat):Turn P w K tg (Itv K a n) [it] it (λi h=>h.IsRevIter it a ((n:Int) - 1 - i)) where
 mem:=by simp
 obj:=λi h st b q=>by
  have e:=by simpa using q
  subst e;let(o,e,c,d):=st;exact(o,e,λv z=>by rw[d]at z;cases z)
 keep:=λi h h' st k=>st.at λo e=>k it (by simp) o e
 item:=by
  intro X Q hw V hc i gd s σ H E I hf st hg;subst Q hw V;let(hi,xs,hq,hx):=hg;let(its,rv,p,hz):=I.list hq;let(u,hu,ru):=rv.get (i:=n - 1 - i) (x:=xs[n - 1 - i]'(by omega)) (rY _)
  let(f0,f1,f2,f3,f4,f5):=hf it (by simp)
  have g:s.heap.IsRevIter it a ((n - 1 - i:Nat):Int):=by rw[show((n - 1 - i:Nat):Int)=(n:Int) - 1 - i by omega];exact st
  refine wpAny_pyNext_rev_item g p.isList (by simpa using hu) λh' g sb=>?_
  have I1:=I.turned (t':=s.toks) (λb o q e=>(sb.2 b q).trans e) f0 f1 f3 f4 f5
  let(o,e,c,d):=id g;exact(u,U,Ca e c d (by decide) (_,H,I1,ru,(U,λys hy=>by rw[I.wg hy hq];exact rY _),by rw[show(n:Int) - 1 - ((i+1:Nat):Int)=((n - 1 - i:Nat):Int) - 1 by omega];exact g,λb q=>(hf b q).1))
 done:=by
  intro X Q hw V hc i gd s σ H E I hf st hg;subst Q hw V;have hg:i=n:=hg;subst hg;let(f0,f1,f2,f3,f4,f5):=hf it (by simp)
  exact wpAny_pyNext_rev_end (I.ok.hd hc) (by rw[show(-1:Int)=(i:Int) - 1 - i by omega];exact st) λh' eb=>(U,I.turned (λb o q e=>eb b o q e) f0 f1 f3 f4 f5)
 self:=λ_ _ _ _ _ st h=>wpAny_pyIter_revIter st h
def WD(K:BT)(tl:TE):TI:=λσ H R=>tl σ H λx H1=>∃a xs,x=.ref a/\SqL K H1 a xs/\R (Itv K a xs.length) H1
def SR{l:EQ}{tl:TE}(hg:Gl X "reversed")(hm:X.mg "reversed"=Y)(hl:PE X l tl)(hs:‹AD X l›):PI X tg (.Call (.Name "reversed" p2) [l] [] pos) (WD X.K tl):=by
 intro gd s σ H R I h;refine MI (nc I hg hm boot_reversed (PyProof.Rows.callWith_type1 ?_ hs U));rw[hs];refine Calls.spliced_cons (thn (hl gd s σ H _ I h) λu s1 z=>?_)
 let(x,H1,g,Q,a,xs,ex,V,q):=z;subst ex;cases Q;refine Calls.spliced_nil ?_;let(its,P,pl,hz):=g.list V;refine call_reversed_list pl.isList ?_;refine wpAny_pyIter_revIter (l:=a) (i:=(its.toArray.size:Int) - 1) (_,u3 _ U,U,U) ?_;refine(s1.heap.objs.size,[s1.heap.objs.size],_,_,H1,U,g.kept λb o e=>iP _ e,Jr a _ xs.length,(_,u3 _ U,U,by simp[revObj,P.length]),λb hb=>?_,q)
 have e:=by simpa using hb
 subst e;exact g.Iw (oa _) (g.hok.fresh (oa _))
def TY{a:J}{xs:List T}:As K dl (Itv K a xs.length) xs.reverse [(.ref a,.l xs)] where
 go:=λH i D h hi=>by
  let(F,r):=h _ (aB.mpr U);let(p,vs,G,e,_,h1,h2):=r.r.lst;cases e;exact(by rw[YJ]at hi;exact hi,vs,SqL.of h1,h2.len)
 yld:=λH i x fp v H' D h hx y=>by
  have r:=h _ (aB.mpr U);let(p,vs,G,e,z,h1,h2):=r.r.lst;cases e;let(U,y):=y;have hi:=(kf.mp hx).1;rw[YJ]at hi;rw[aa0 hi]at hx;let(w,Q,hw,g,hs):=h2.get hx;have P:=y vs (SqL.of h1);rw[hw]at P;cases P;refine(.refl D,Q,(g,λb q=>r.n b ?_),λb q=>.inr (_,aB.mpr U,?_))
  ·rw[z];exact aJ _ (hs b q)
  ·rw[z];exact aJ _ (hs b q)
 stop:=λH D h=>YJ
def Xf(i:Nat):QJ:=λq Q=>match q[i]? with
 |some (.r (.l xs))=>Q xs.reverse q
 |_=>False
def RU(hg:Gl X "reversed")(hm:X.mg "reversed"=Y)(h:PE X e (cc i))(hs:‹AD X e›)(hK:‹X.K=K›):QPJ X K tg (.Call (.Name "reversed" p2) [e] [] pos) (WD K (cc i)) (Xf i):=(by subst hK;exact SR hg hm h hs,λdl H₀ hs H σ q Q R (F0,V) P k=>by
 unfold Xf at P
 split at P
 ·rename_i xs e1;let(v,hv,r):=V.g i _ _ e1 U;have r1:=V.hold r λj u hj b hb=>(V.o j u hj).2.2 i (λz=>by rw[z,hj]at e1;cases e1) b hb
  let(p,vs,G,U,_,h1,h2):=r.r.lst;refine(_,hv,p,vs,U,SqL.of h1,?_);rw[h2.len];exact k _ _ _ H q (F0,r1) TY P
 ·exact P.elim)
end
variable{r':R2}
section
variable{X:Cx}{K:BT}{a b c e:EQ}{ta tb tc:TE}{qa qb qc:QE}{pos:Pos}
def R7(rq g:Q2)(qa qb qc:QE):QE:=λq Q=>qa q λt=>qb q λu=>rq t u λz=>match z with
 |.b k=>if k=O then qc q λw=>g u w Q else Q (.b ϊ)
 |_=>False
def Kq{P:CmpOp}{r:R2}{ah:Q2}(ho:OpR X (compareOp op) r)(hs:gK K r rq)(au:OpR X (compareOp P) r')(ak:gK K r' ah)(ha:QPE X K a ta qa)(hb:QPE X K b tb qb)(hc:QPE X K c tc qc)
  (hm:lastMarks [op,P] [b,c]=false:=by with_unfolding_all rfl):QPF X K (.Compare a [op,P] [b,c] pos) (Jx r r' ta tb tc) (R7 rq ah qa qb qc):=(La ho au ha.h hb.h hc.h hm,λdl H σ q Q R rd hq k =>
 ha.s dl H σ q _ _ rd hq λv t F H1 e1 r1 hq=>hb.s dl H1 σ q _ _ (rd.evo e1) hq λw u G H2 e2 r2 hq=>hs dl H2 v w t u F G _ _ e2.d (r1.evo e1.d e2) r2 hq λx z F3 H3 e3 r3 _ _ V=>by
  cases z with
  |b l =>
   let(U,_):=r3.r.bl;refine(l,U,?_);have g:=(e1.trans e2).trans e3;cases l with
   |false=>exact k _ _ [] H3 g (.c (.b ϊ)) (λ_ z=>nomatch z) mz V
   |true =>
    exact hc.s dl H3 σ q _ _ (rd.evo g) V λy s F4 H4 e4 r4 V=>ak dl H4 w y u s G F4 _ _ e4.d ((r2.evo e2.d e3).evo e3.d e4) r4 V λx z F' H5 e5 r5 f5 n5 V=>k x z F' H5 ((g.trans e4).trans e5) r5 (λb hb=>(g.trans e4).free (f5 b hb)) n5 V
  |_=>exact V.elim)
def DJ(h:QPE X K e ta qa):QPI X K tg e (WC ta) (asS qa):=(SQ h.h,λdl H σ q Q R rd P k=>h.s dl H σ q _ _ rd P λv t F H' V r g=>by
 split at g
 ·let(U,_):=r.r.str;exact(_,U,k _ _ [] H' V TX (λ_ z=>nomatch z) g)
 ·exact g.elim)
end
section
variable{X:Cx}{K:BT}{H₀:Hp}{hs:List (V×T)}{σ:St}{q:Sq}{F:Nat->List J}{i k:Nat}{ps:ox}{e:EQ}{es:List EQ}{tl:TA}{ql:QA}{pos pos':Pos}{f:J}{prs:List Str}
def Wo{t:T}{v:V}{vs:List V}{ts:List T}{R:T->Sq->Prop}{W:Sq->QW}{Q:VK}{Es:St->XK}(r:Rel K dl H₀ hs H σ q F)(hi:q[i]?=Z (.o t))(hv:σ[i]?=Z (Z v))(hl:vs.length=ts.length)(hj:vs[j]?=Z v)(ro:∀n w u,n≠j->vs[n]?=Z w->ts[n]?=Z u->Rp K dl H w u [])
  (hp:∀a,ps (ts.set j (lv a t)) (λr us=>r.im=O/\on1 us λu=>R r (q.set i (.o (lb t u)))) (W (q.set i .no))) (kk:∀v t q' H',cJ K dl H₀ hs H' σ q'->Rp K dl H' v t []->R t q'->Q v H') (kx:XOk K dl H₀ hs W Es):spG K [j] [j] ps vs H Q (Es σ):=by
 let(v2,w2,Fu,ak,aw,ru,nu,md):=r.mod (p:=[]) hi U;rw[hv]at ak;cases ak;cases aw H (.refl r.d);let(v3,ah,rp):=r.g i _ t hi U;rw[hv]at ah;cases ah;obtain rfl:=ru.r.uniq rp.r;let(a,r1,bk):=Gb ru.r;have aD:=(kf.mp hj).1;have eU:[j].flatMap (λn=>if n=j then F i else [])=F i:=by simp
 refine(dl,_,λn=>if n=j then F i else [],_,_,r.d,by rw[Az];exact hl,λn w u e1 e2=>?_,λn hn=>if_neg λz=>?_,λn hn=>?_,hp a,λv r' Fr us F' H' bx told rv _ _ P=>?_,λa C ns us H' bx rx au=>?_)
 ·by_cases e:n=j
  ·subst e;rw[hj]at e1;cases e1;rw[u6 (by omega)]at e2
   cases e2;rw[if_pos rfl];exact(r1,ru.n)
  ·rw[if_neg e];rw[ui (Ne.symm e)]at e2;exact ro n w u e e1 e2
 ·rw[Az]at hn;omega
 ·rw[aB.mp hn,if_pos rfl];exact(nu,λk hk b _ z=>by rw[if_neg hk]at z;cases z)
 ·let(im,P):=P;let(u',U,P):=on1.inv P;have rp:=told.r 0 j u' _ U U hj;let(n1,n2,_):=told.n 0 Z6;rw[eU]at bx n2;let(F2,r2):=md H' _ (F' 0) bx (bk H' u' _ rp.r,rp.n) n1 n2;obtain rfl:=rv.r.im im;exact kk v r' _ H' (F2,r2) rv P
 ·rw[eU]at bx;have eF:[i].flatMap F=F i:=by simp
  have r2:=r.Mb (S:=[i]) (q':=q.set i .no) (λn hn=>by rw[aB.mp hn];exact(t,hi)) (by rw[eF];exact bx) (by simp) (λn hn=>ui λz=>hn (by rw[z];exact aB.mpr U)) (λn hn=>by rw[aB.mp hn];exact u6 (kf.mp hi).1)
  exact kx H' σ _ a C ns us r2 rx au
def R8(i j:Nat)(ps:ox)(ql:QA):QG:=λq R W=>Ex2 (λt=>q[i]?=Z (.o t)) λt=>ql q λts=>∀a,ps (ts.set j (lv a t)) (λr us=>r.im=O/\on1 us λu=>R r (q.set i (.o (lb t u)))) (W (q.set i .no))
theorem mU(G:aV X.prog X.w X.K X.mg X.base (CX1 X.prog X.w) k f fd prs (spG K [j] [j] ps))(hr:bP k X.A)(hg:Gl X x)(hm:X.mg x=Z (.ref f))(hk:W.keepIn X.K (.ref f)=O)(hb:Binds X.K fd prs [])(ha:PK X K (e::es) tl i j ql)
  (V:autoParam (AS x) zdc._auto_1) (he:‹AC X e es›) (P:‹AM X pos es›):
  QPG X K (.Call (.Name x pos') (e::es) [] pos) (λEs=>sv (spG K [j] [j] ps) Es tl) (R8 i j ps ql) :=
 (λEs a=>qP G hr hg hm hk hb a ha.h V he P,λdl H₀ hs H σ q R W Q Es (F,r) z kk kx=>by
  let(t,hi,z):=z;let(v,hv,_):=r.g i _ _ hi U;refine ha.s dl H σ q v _ _ r.rd hv z λvs ts H1 e1 hl hj ro hz=>?_
  exact Wo (r.evo e1) hi hv hl hj ro hz kk kx)
end
variable{i:Nat}{H₀:Hp}{q:Sq}{elts:List EQ}{tl:TA}{ql:QA}
section
variable{X:Cx}{K:BT}{a b e o o':EQ}{te to tk tk' tv:TE}{qe qo qk qk' qv:QE}{pos apos a5 p1 p2 p3:Pos}
inductive FD(x:V)(xs:List V)(H:Hp)(Q:VK):Prop
 |mk(z y:Str)(h1:x=.str z)(h2:xs=[.str y])(h0:y.length≠0)(h3:z.length<ot)(h4:(Txt.split z y).length<=ot)(h5:∀p,H p=Y->Q (.ref p) (upd H p (.lst ((Txt.split z y).map V.str))))
def HN:MtR X "str.split" FD:=by
 intro gd s σ H x xs v us Q I g rs h;let(z,y,U,U,h0,K,hn,q):=h;let(t,U):=g;let(u,U,ru):=Vals.one rs;let(u,U):=ru;have h0:(y.length==0)=false:=by simpa using h0
 have go:∀(its:List B)(tk:Nat),Vals ((Txt.split z y).map V.str) its->EP X gd σ Q (.ref s.heap.objs.size) {s with toks:=tk,heap:=s.heap.push {cls:=.type "list",data:=.seq its.toArray}}:=λits tk hv =>
  (.ref _,_,I.laid (o:=.lst ((Txt.split z y).map V.str)) (λb o e=>iP _ e) (oa _) (by rw[gV];exact hn,its,0,hv,u3 _ U),U,q _ (I.hok.fresh (oa _)))
 have one:Txt.split z y=[z]->Vals ((Txt.split z y).map V.str) [.str z t]:=λe=>by rw[e];exact .cons (t,U) .nil
 cases h1:(decide (z.length<y.length)||decide (Builtin.Str.strKind z<Builtin.Str.strKind y))with
 |true =>
  have e:Txt.split z y=[z]:=by unfold Txt.split;rw[if_pos h1]
  exact call_meets PySem.F.slot_str_split (typeIs_str _ _ _) PySem.F.entry_str_split (PySem.F.args_str_split_2 _ _) (meets_str_split_cannot_occur z y t u h1) (go _ _ (one e))
 |false =>
  cases h2:(Builtin.Str.occurrences z y 0 z.length (z.length+1)).isEmpty with
  |true =>
   have e:Txt.split z y=[z]:=by unfold Txt.split;rw[if_neg (by rw[h1];exact rZ),if_pos h2]
   exact call_meets PySem.F.slot_str_split (typeIs_str _ _ _) PySem.F.entry_str_split (PySem.F.args_str_split_2 _ _) (meets_str_split_not_found z y t u h1 h0 h2) (go _ _ (one e))
  |false =>
   have e:Txt.split z y=Builtin.Str.partsBetween z (Builtin.Str.occurrences z y 0 z.length (z.length+1)) y.length:=by unfold Txt.split;rw[if_neg (by rw[h1];exact rZ),if_neg (by rw[h2];exact rZ)]
   exact call_meets PySem.F.slot_str_split (typeIs_str _ _ _) PySem.F.entry_str_split (PySem.F.args_str_split_2 _ _) (meets_str_split_sep z y t u h1 h0 h2 (wh K) (by rw[<- e];exact hn)) (go _ _ (by rw[e];exact xX _ _))
def gC(x y:Str):(Txt.split x y).length<=x.length+2:=by
 unfold Txt.split
 split
 ·simp
 ·split
  ·simp
  ·rw[PyProof.Rows.len_partsBetween]
   have:=StrLaws.occ_length_le x y 0 x.length (x.length+1)
   omega
def N1(qo qe:QE):QE:=λq Q=>qo q λs=>match s with
 |.s x=>qe q λt=>match t with
  |.s y=>y.length≠0/\x.length+2<ot/\Q (.l ((Txt.split x y).map .s))
  |_=>False
 |_=>False
def gH(ho:QPE X K o to qo)(he:QPE X K e te qe)(hK:‹X.K=K›)(eI:‹attributeBase o "split" X.env (eval o X.env)=eval o X.env›)
  (kb:‹At X a5 [e]›)
  (eD:‹(apos.endLine==a5.line)=true›) (hs:‹AC X e []›) (dg:‹(backTo a5 (dO [] X.env)).any (·.1)=false›):
  QPF X K (.Call (.Attribute o "split" apos) [e] [] a5) (tBM K "str" FD to (bH te fK)) (N1 qo qe):=(by
 subst hK;exact ye PySem.F.plainAttrs_str PySem.F.slot_str_split PySem.F.type_str_split HN ho.h (bh he.h dC hs) eI kb eD hs dg,λdl H σ q Q R rd g k=>ho.s dl H σ q _ _ rd g λv t F H1 e1 r1 g=>by
  cases t with
  |s x =>
   let(U,_):=r1.r.str;refine(U,he.s dl H1 σ q _ _ (rd.evo e1) g λw u F2 H2 P r2 g=>?_)
   cases u with
   |s y =>
    let(U,_):=r2.r.str;let(h0,hl,g):=g;have hn:=gC x y;refine(x,y,U,U,h0,by omega,by omega,λp hp=>?_)
    have rs:Rps K dl H2 ((Txt.split x y).map V.str) _ []:=(aA.ofS _,λ_ z=>nomatch z)
    exact k _ _ [p] _ ((e1.trans P).new hp) (rs.lst P.d hp) (λb hb=>by rw[aB.mp hb];exact(e1.trans P).free hp) (by simp) g
   |_=>exact g.elim
  |_=>exact g.elim)
def U8(t:TE):TO:=λσ H Q=>t σ H λx H1=>(x=.non/\Q Y H1)\/∃i,x=.int i/\Q (Z i) H1
def SJ(h:PE X e te):PO X (Z e) (U8 te):=by
 intro gd s σ H Q I hw;refine thn (h gd s σ H _ I hw) λu s1 g=>?_
 let(x,H1,K,z,P):=g;obtain⟨rfl,q⟩|⟨i,rfl,q⟩:=P
 ·cases z;exact(Y,H1,K,.none,q)
 ·let(t,U):=z;exact(Z i,H1,K,.int i t,q)
def RT(h:QPE X K e te qe):QPO X K (Z e) (U8 te) (λq Q=>qe q λt=>match t with|.n=>Q Y|.i x=>Q (Z x)|_=>False):=(SJ h.h,λdl H σ q Q R rd z k=>h.s dl H σ q _ _ rd z λv t F H' e r g=>by
 cases t with
 |n =>
  let(U,U):=r.r.non;exact .inl (U,k _ H' e g)
 |i x =>
  let(U,U):=r.r.int;exact .inr (_,U,k _ H' e g)
 |_=>exact g.elim)
inductive UN(i:Nat)(qk:QE)(x:Str)(q:Sq)(Q:Sq->Prop):Prop
 |mk (xs) (h1:q[i]?=Z (.o (.l xs))) (h2:qk q λu=>∃n j,u=.i n/\ixN xs.length n=Z j/\T.ims xs=O/\Q (q.set i (.o (.l (xs.set j (.s x))))))
def VF(i:Nat)(qv qk qk':QE):QS:=λD q=>qv q λt=>∃x y,t=.t [.s x,.s y]/\UN i qk x q λq'=>UN i qk' y q' D.nx
def AZ{hs:List (V×T)}{σ:St}{Q:Sq->Prop}{R:St->Hp->Prop}(hk:kN K tk qk)(r:cJ K dl H₀ hs H σ q)(h:UN i qk x q Q)(k:∀H' q',cJ K dl H₀ hs H' σ q'->Q q'->R σ H'):Iv (cc i) tk x8 (.str x) σ H R:=by
 let(F,r):=r;let(xs,ei,hq):=h;let(v,P,rp):=r.g i _ _ ei U;refine(v,P,hk dl H σ q _ _ r.rd hq λy u F2 H2 e2 r2 hq=>?_)
 let(n,j,U,hj,hm,hq):=hq;let(U,_):=r2.r.int;have ah:=rp.evo r.d e2;let(p,vs,G,U,eF,h1,h2):=ah.r.lst;have eG:=h2.im hm;subst eG;exact(p,vs,_,j,U,U,h1,by rw[h2.len];exact hj,k _ _ (r.vK ei P eF e2 (aA.set (.s x) j h2 U) mz λ_ z=>nomatch z) hq)
def NQ{k1:_}(ho:PE X o (cc i))(V:PE X o' (cc i))(hv:QPE X K e tv qv)(hk:QPE X K a tk qk)(P:QPE X K b tk' qk')(hK:‹X.K=K›)(hc:‹X.calm=true›)
  (hs:‹swapsWithSole [.Tuple [.Subscript o a p1,.Subscript o' b p2] k1 p3] e pos.line X.env=pure false›) (hw:‹swappedStores [.Tuple [.Subscript o a p1,.Subscript o' b p2] k1 p3] e X.env=pure none›)
  (h1:‹(assignEach [.Tuple [.Subscript o a p1,.Subscript o' b p2] k1 p3] X.env).map (·.2)=[assign (.Tuple [.Subscript o a p1,.Subscript o' b p2] k1 p3) X.env]›)
  (g1:‹(assignEach [.Subscript o a p1,.Subscript o' b p2] X.env).map (·.2)=assign (.Subscript o a p1) X.env ::(assignEach [.Subscript o' b p2] X.env).map (·.2)›)
  (g2:‹(assignEach [.Subscript o' b p2] X.env).map (·.2)=assign (.Subscript o' b p2) X.env ::(assignEach [] X.env).map (·.2)›)
  (hn:‹(assignEach [.Subscript o a p1,.Subscript o' b p2] X.env).length=2›) (Q:‹(assignEach [.Subscript o a p1,.Subscript o' b p2] X.env).findIdx? (·.1)=none›)
  (ha:∀v,assign (.Subscript o a p1) X.env v=(do
   let g <- holding [v] (eval o X.env)
   let iv <- holding [v,g] (eval a X.env)
   standAt p1
   holding [v,g,iv] (setItem g iv v)
   release [v,g,iv] []):=by intro _;rfl)
  (hb:∀v,assign (.Subscript o' b p2) X.env v=(do
   let g <- holding [v] (eval o' X.env)
   let iv <- holding [v,g] (eval b X.env)
   standAt p2
   holding [v,g,iv] (setItem g iv v)
   release [v,g,iv] []):=by intro _;rfl):
  QPS X K (.Assign [.Tuple [.Subscript o a p1,.Subscript o' b p2] k1 p3] e pos) (uM tv (LR K 2 (yl (Iv (cc i) tk x8) (yl (Iv (cc i) tk' x8) Pe)))) (VF i qv qk qk'):=by
 subst hK;refine(KJ hv.h (K0 hc (fD (DT ho hk.h set_list ha) (fD (DT V P.h set_list hb) vh g2) g1) hn Q) hs hw h1,λdl H₀ hs H σ q Dq D R z E=>?_)
 let(F,r):=R;refine hv.s dl H σ q _ _ r.rd z λw t F1 H1 e1 r1 z=>?_
 let(x,y,U,z):=z;let(p,vs,U,h1,h2):=r1.r.tup;let(U,_):=h2.vs U;refine(p,_,U,SqT.of h1,U,_,_,U,AZ hk.s (F,r.evo e1) z λH2 q2 r2 z=>(_,_,U,AZ P.s r2 z λH3 q3 r3 z=>(U,E.nx _ _ _ r3 z)))
def Xh(ql:QA):QI:=λq Q=>ql q λts=>match ts with|[.l xs]=>Q (rn xs)|_=>False
def Kj{V}(hg:Gl X "enumerate")(hm:X.mg "enumerate"=Y)(wA:bootBuiltins "enumerate"=Z (.type "enumerate"))(ha:QPA X K [a] tl ql)(hs:‹AD X a›)(hK:‹X.K=K›):
  QPI X K (.Tuple elts V pos') (.Call (.Name "enumerate" p) [a] [] pos) (B4 K ϊ tl) (Xh ql):=(vT hK hg hm wA ha.h hs,λdl H σ q Q R rd hq k=>ha.s dl H σ q _ _ rd hq λvs ts F H' e1 r _ z=>by
 split at z
 ·let(v,U,P):=r.one;let(l1,g,G,U,_,h1,h2):=P.r.lst;exact(l1,U,(g,SqL.of h1),k _ _ _ H' e1 qZ (λp hp=>by rw[aB.mp hp];exact(_,P)) z)
 ·exact z.elim)
end
section
variable{X:Cx}{K:BT}{b e o:EQ}{te to:TE}{qe qo:QE}{apos a5:Pos}
inductive onL(t:T)(Q:List T->Prop):Prop
 |mk(xs:List T)(h1:t.lst=Z xs)(h2:Q xs)
def R5(qo qe:QE):QE:=λq Q=>qo q λs=>match s with
 |.s sep=>qe q λt=>onL t λxs=>Ex4 (λys=>txs xs=Z ys) (λys=>(ys.map (·.length)).sum+ys.length*sep.length<=16777216) (λys=>(.s (Txt.join sep ys))) Q
 |_=>False
def qE(ho:QPE X K o to qo)(he:QPE X K e te qe)(hK:‹X.K=K›)(eI:‹attributeBase o "join" X.env (eval o X.env)=eval o X.env›)
  (kb:‹At X a5 [e]›)
  (eD:‹(apos.endLine==a5.line)=true›) (hs:‹AC X e []›) (dg:‹(backTo a5 (dO [] X.env)).any (·.1)=false›):
  QPF X K (.Call (.Attribute o "join" apos) [e] [] a5) (tBM K "str" (rJoin K) to (bH te fK)) (R5 qo qe):=(by
 subst hK;exact ye PySem.F.plainAttrs_str PySem.F.slot_str_join PySem.F.type_str_join F9 ho.h (bh he.h dC hs) eI kb eD hs dg,λdl H σ q Q R rd g k=>ho.s dl H σ q _ _ rd g λv t F H1 P r1 g=>by
  cases t with
  |s sep =>
   let(U,_):=r1.r.str;refine(U,he.s dl H1 σ q _ _ (rd.evo P) g λw u F2 H2 e2 V g=>?_)
   let(xs,hx,ys,hy,hz,g):=g;let(p,vs,G,U,h1,h2):=V.OX hx;have ev:=h2.txs hy;subst ev;exact(_,p,ys,U,U,h1,hz,k _ _ [] H2 (P.trans e2) (.c (.s _)) (λ_ z=>nomatch z) mz g)
  |_=>exact g.elim)
def N0:QC:=λts Q=>on1 ts λt=>onL t λxs=>T.ims xs=O/\Q (.l xs)
def Dk:rR K (λxs H Q=>∃p ys,xs=[.ref p]/\(SqL K H p ys\/SqT K H p ys)/\∀l,H l=Y->Q (.ref l) (upd H l (.lst ys))) N0:=by
 intro dl H vs ts F Q R D r g k
 replace g:=on1.inv g
 let(t,U,xs,hx,hi,g):=g;let(v,U,r'):=r.one;let(p,vs,G,U,h1,h2):=r'.OX hx;obtain rfl:=h2.im hi;refine(p,vs,U,.inl h1,λl hl=>?_)
 have rs:Rps K dl H vs _ []:=(h2,λc q=>nomatch q)
 exact k _ _ _ _ ((Evo.refl D).new hl) (rs.lst D hl) (λb z=>by rw[aB.mp z];exact hl) (by simp) g
end
end L2
namespace PySem
open Sem (wp)
end PySem
namespace L2
open PySem PySem.Spec PyProof.Rows
end L2
namespace PySem
open Sem (wp)
end PySem
namespace L2
open PySem PySem.Spec PyProof.Rows
namespace TM
open Sem (wp)
open Builtin
end TM
end L2
namespace L2
open PySem PySem.Spec PyProof.Rows
end L2
namespace K03
open PySem L2
abbrev We:Str:="self"
abbrev WF:Str:="_law_deal_here"
abbrev WP:Str:="_law_words"
abbrev W1:Str:="_law_at"
abbrev Th:Str:="_law_pool_here"
abbrev Tk:Str:="_law_text"
abbrev Tl:Str:="_law_word_here"
abbrev Tm:Str:="_law_script"
abbrev Tu:Str:="_law_k"
abbrev Ty:Str:="_law_row"
abbrev TD:Str:="_law_many"
abbrev TW:Str:="_law_body_here"
abbrev TZ:Str:="_law_lines"
abbrev T0:Str:="_law_cell"
abbrev Sa:Str:="_law_room"
abbrev Sc:Str:="_law_long"
abbrev Su:Str:="_law_base"
abbrev SB:Str:="_law_other"
abbrev SC:Str:="_law_found"
abbrev SL:Str:="_law_most"
abbrev ST:Str:="_law_depth"
abbrev SZ:Str:="_law_program"
def top(i:Nat):Fk:=PySem.Challenge.pw_pursewright_k03_the_first_wrong_row.main.body.getD i (.Pass (0,0,0,0))
def inClass(s:Fk)(j:Nat):Fk:=match s with
 |.ClassDef _ _ _ b _ _ _ _ _ _ _=>b.getD j (.Pass (0,0,0,0))
 |s=>s
abbrev fns:List Str:=["row","word","name","maker"]
theorem zO:("row":Str)∈fns:=by simp[fns]
theorem Ez:FOk "row":=by unfold FOk;kernel_rfl
abbrev sC:Fk:=inClass (top 2) 0
theorem Ds:aE [We,"row"] [We,"row"] (av sC):=by symm
abbrev p9:Fk:=inClass (top 3) 0
abbrev vE:Fk:=inClass (top 5) 0
abbrev vF:Fk:=inClass (top 7) 0
abbrev ie:Fk:=inClass (top 20) 0
theorem sD:aE [We,"row","number"] [We,"row","number"] (av ie):=by symm
abbrev gN:Fk:=inClass (top 20) 1
theorem qq:aE [We] [We] (av gN):=by symm
abbrev fw:Fk:=inClass (top 20) 2
theorem mI:aE [We] [We] (av fw):=by symm
abbrev ic:Fk:=inClass (top 20) 3
theorem kr:aE [We,"word"] [We] (av ic):=by symm
abbrev fv:Fk:=inClass (top 20) 4
theorem mH:aE [We,"due"] [We,"due"] (av fv):=by symm
abbrev eV:Fk:=inClass (top 20) 5
theorem hW:aE [We,"word"] [We] (av eV):=by symm
abbrev cR:Fk:=inClass (top 20) 6
theorem fW:aE [We,"due","names"] [We,"due"] (av cR):=by symm
abbrev dR:Fk:=inClass (top 20) 7
theorem gS:aE [We,"word"] [We] (av dR):=by symm
abbrev gD:Fk:=inClass (top 20) 8
theorem oX:aE [We] [We] (av gD):=by symm
abbrev ig:Fk:=inClass (top 21) 0
theorem sE:aE [We,"heads","looked"] [We,"heads","looked"] (av ig):=by symm
abbrev eY:Fk:=inClass (top 21) 1
theorem hX:aE [We,"words","maker"] [We,"words"] (av eY):=by symm
abbrev dS:Fk:=inClass (top 21) 2
theorem kW:aE [We,"body"] [We,"body"] (av dS):=by symm
abbrev gO:Fk:=inClass (top 21) 3
theorem qw:aE [We] [We] (av gO):=by symm
abbrev sG:Fk:=top 15
theorem Dt:aE ["text"] ["text"] (av sG):=by symm
abbrev oZ:Fk:=top 16
theorem A4:aE ["text"] ["text"] (av oZ):=by symm
abbrev zf:Fk:=top 17
theorem JT:aE ["text","signs","longest"] ["text","signs","longest"] (av zf):=by symm
abbrev Dx:Fk:=top 19
theorem kR:aE ["text","kinds","functions","rows","number","row","words"] ["text"] (av Dx):=by symm
abbrev mJ:Fk:=top 22
theorem kQ:aE ["words","name","makers"] ["words"] (av mJ):=by symm
abbrev kX:Fk:=top 23
theorem jV:aE ["words","maker","fields"] ["words"] (av kX):=by symm
abbrev iQ:Fk:=top 24
theorem cB:aE ["words","name","params","param","kind","body"] ["words"] (av iQ):=by symm
abbrev mL:Fk:=top 25
theorem dX:aE ["words","cases","heads","word","whole"] ["words"] (av mL):=by symm
abbrev kZ:Fk:=top 26
theorem oB:aE ["words","cases","body"] ["words","cases","body"] (av kZ):=by symm
abbrev jW:Fk:=top 27
theorem jm:aE ["heads","body","head"] ["heads","body"] (av jW):=by symm
abbrev mK:Fk:=top 28
theorem qi:aE ["words","word","coins"] ["words","word"] (av mK):=by symm
abbrev oY:Fk:=top 29
theorem jz:aE ["words","bound","word","used"] ["words"] (av oY):=by symm
abbrev DE:Fk:=top 31
theorem qm:aE [Tm,Su,"_law_cells","_law_number",T0] [Tm,Su] (av DE):=by symm
abbrev DD:Fk:=top 32
theorem vb:aE [WF,TD,"_law_number","_law_one_here",SB] [WF,TD] (av DD):=by symm
abbrev Dz:Fk:=top 33
theorem nL:aE [WF,"_law_taken","_law_form_here","_law_near",TD,Tl] [WF] (av Dz):=by symm
abbrev Dy:Fk:=top 34
theorem kS:aE [WF,SC,Tl,W1,Tu,"_law_letter",SB] [WF] (av Dy):=by symm
abbrev mM:Fk:=top 35
theorem qj:aE [Tl,"_law_taken"] [Tl] (av mM):=by symm
abbrev JU:Fk:=top 36
theorem RJ:aE [WF,Th] [WF,Th] (av JU):=by symm
abbrev Dv:Fk:=top 37
theorem ND:aE [WF,Th,SL] [WF,Th,SL] (av Dv):=by symm
abbrev DA:Fk:=top 38
theorem zd:aE [WF,Th,"_law_makers",Tu] [WF,Th] (av DA):=by symm
abbrev DF:Fk:=top 39
theorem i7:aE [WF,Th,Sa,ST,Sc,"_law_form_here","_law_coins","_law_x","_law_y","_law_names",TD,"_law_arms",Tu] [WF,Th,Sa,ST,Sc] (av DF):=by symm
abbrev DB:Fk:=top 40
theorem gR:aE [WF,Th,"_law_large","_law_kinds","_law_functions",Sa,Sc,Tu,"_law_params","_law_j",TW] [WF] (av DB):=by symm
abbrev mP:Fk:=top 41
theorem bX:aE [TW,SC,"_law_arms","_law_maker","_law_names","_law_inner"] [TW] (av mP):=by symm
abbrev Dw:Fk:=top 42
theorem gQ:aE [SZ,TZ,"_law_name_here","_law_makers","_law_parts","_law_params","_law_kind_here",TW,WP,"_law_param"] [SZ] (av Dw):=by symm
abbrev Du:Fk:=top 43
theorem NC:aE [WP,W1] [WP,W1] (av Du):=by symm
abbrev jn:Fk:=top 44
theorem lS:aE [WP,W1] [WP,W1] (av jn):=by symm
abbrev kY:Fk:=top 45
theorem xr:aE [Tl] [Tl] (av kY):=by symm
abbrev k6:Fk:=top 46
theorem oC:aE [WP,W1] [WP,W1] (av k6):=by symm
abbrev jY:Fk:=top 47
theorem fA:aE [WP,W1,Tl,"_law_good","_law_deed"] [WP,W1] (av jY):=by symm
abbrev jZ:Fk:=top 48
theorem bZ:aE [WP,W1,"_law_cases"] [WP,W1] (av jZ):=by symm
abbrev mO:Fk:=top 49
theorem kU:aE [WP,W1] [WP] (av mO):=by symm
abbrev iR:Fk:=top 50
theorem ko:aE [WP,W1] [WP] (av iR):=by symm
abbrev jX:Fk:=top 51
theorem dy:aE [Tk,"_law_functions",Ty,"_law_line",WP] [Tk] (av jX):=by symm
abbrev sH:Fk:=top 52
theorem cG:aE [WF,"_law_a","_law_b","_law_some_here","_law_head"] [WF,"_law_a","_law_b"] (av sH):=by symm
abbrev vH:Fk:=top 53
theorem eR:aE [WF,TZ,Th,"_law_turn",W1,"_law_bad",Ty,SB,"_law_turned",WP,"_law_place"] [WF,TZ,Th] (av vH):=by symm
abbrev vI:Fk:=top 54
theorem x6:aE [Ty,"_law_parts"] [Ty] (av vI):=by symm
abbrev sF:Fk:=top 55
theorem ij:aE [Tk,SC,"e",SB] [Tk] (av sF):=by symm
abbrev ze:Fk:=top 56
theorem qf:aE [Tk,"_law_wrong","_law_ahead",SC] [Tk] (av ze):=by symm
abbrev t9:Fk:=top 57
theorem kT:aE [Tm,WF,"_law_good",Th,TZ,Tu,Tk,"_law_before"] [Tm] (av t9):=by symm
set_option genInjectivity false in
structure Adr where
 aH:J
 aX:J
 gi:J
 tG:Ch
 bC:J
 c6:J
 rB:Ch
 cE:J
 ck:J
 fO:J
 wM:Ch
 dJ:J
 cm:J
 fP:J
 wN:Ch
 fQ:J
 au:J
 cT:J
 iV:Ch
 dF:J
 iB:Ch
 cu:J
 gf:Ch
 eJ:J
 iU:Ch
 cq:J
 gc:Ch
 b8:J
 fF:Ch
 bD:J
 dh:Ch
 bU:J
 fb:Ch
 c7:J
 g9:Ch
 aD:J
 cU:J
 iW:Ch
 b9:J
 fG:Ch
 bV:J
 fc:Ch
 dG:J
 iC:Ch
 nY:J
 yq:Ch
 lJ:J
 wQ:Ch
 vp:J
 Gz:Ch
 wF:J
 EE:Ch
 jH:J
 uu:Ch
 i8:J
 rC:Ch
 gu:J
 lV:Ch
 jJ:J
 uw:Ch
 ja:J
 rE:Ch
 iG:J
 oJ:Ch
 jI:J
 uv:Ch
 lI:J
 wO:Ch
 Aa:J
 Mp:Ch
 z9:J
 Mn:Ch
 z7:J
 Ml:Ch
 z6:J
 Mj:Ch
 jK:J
 ux:Ch
 Gq:J
 QU:Ch
 zZ:J
 Mh:Ch
 z8:J
 Mm:Ch
 Ab:J
 Mq:Ch
 wG:J
 EF:Ch
 jM:J
 uz:Ch
 z5:J
 Mi:Ch
 zY:J
 Mg:Ch
 gZ:J
 ni:Ch
 i9:J
 rD:Ch
 jb:J
 rF:Ch
 iI:J
 oM:Ch
 iJ:J
 oN:Ch
 jL:J
 uy:Ch
 gw:J
 lW:Ch
 iH:J
 oK:Ch
 nZ:J
 yr:Ch
 q9:J
 Cj:Ch
 rg:J
 Ck:Ch
 nW:J
 yp:Ch
 vo:J
 Gy:Ch
 yn:J
 QV:Ch
 fS:J
structure Txt(K:BT)(mg:Str->Option B)(a:Adr):Prop where
 pX:cv K fns a.aH (bmV) Y
 oF:mg "PurseError"=Z (.ref a.aH)
 MZ:W.keepIn K (.ref a.aH)=O
 cV:cv K fns a.aX (.ref a.aH::bmV) (Z a.gi)
 iy:mg "NoText"=Z (.ref a.aX)
 jg:W.keepIn K (.ref a.aX)=O
 n8:Fun K "__init__" "NoText.__init__" sC a.gi a.tG
 jh:W.isFn K (.ref a.gi)=O
 jj:Binds K a.tG [We,"row"] []
 AI:cv K fns a.bC (.ref a.aH::bmV) (Z a.c6)
 zL:mg "NoProgram"=Z (.ref a.bC)
 O2:W.keepIn K (.ref a.bC)=O
 lP:Fun K "__init__" "NoProgram.__init__" p9 a.c6 a.rB
 Pm:W.isFn K (.ref a.c6)=O
 Pw:Binds K a.rB [We,"word","name"] []
 GZ:cv K fns a.cE (.ref a.aH::bmV) Y
 D9:mg "NoValue"=Z (.ref a.cE)
 Tx:W.keepIn K (.ref a.cE)=O
 G4:cv K fns a.ck (.ref a.aH::bmV) (Z a.fO)
 Ea:mg "NoPaper"=Z (.ref a.ck)
 Tz:W.keepIn K (.ref a.ck)=O
 pV:Fun K "__init__" "NoPaper.__init__" vE a.fO a.wM
 Um:W.isFn K (.ref a.fO)=O
 Ut:Binds K a.wM [We,"row"] []
 Jj:cv K fns a.dJ (.ref a.aH::bmV) Y
 HM:mg "NoTurn"=Z (.ref a.dJ)
 UX:W.keepIn K (.ref a.dJ)=O
 G5:cv K fns a.cm (.ref a.aH::bmV) (Z a.fP)
 Eb:mg "NoChain"=Z (.ref a.cm)
 TB:W.keepIn K (.ref a.cm)=O
 pW:Fun K "__init__" "NoChain.__init__" vF a.fP a.wN
 Uo:W.isFn K (.ref a.fP)=O
 Uu:Binds K a.wN [We,"maker"] []
 Nf:cv K fns a.fQ (.ref a.aH::bmV) Y
 Lj:mg "NoRow"=Z (.ref a.fQ)
 Wv:W.keepIn K (.ref a.fQ)=O
 aw:Cls K a.au
 BE:mg "RowWords"=Z (.ref a.au)
 BG:Mk K a.au a.cT
 gX:bS K a.au "words"
 bG:bS K a.au "number"
 fi:bS K a.au "place"
 gy:Fun K "__init__" "RowWords.__init__" ie a.cT a.iV
 HR:Meth K a.au "__init__" a.cT
 uS:Binds K a.iV [We,"row","number"] []
 fU:Fun K "ahead" "RowWords.ahead" gN a.dF a.iB
 cg:Meth K a.au "ahead" a.dF
 cF:Binds K a.iB [We] []
 dw:Fun K "has_more" "RowWords.has_more" fw a.cu a.gf
 c3:Meth K a.au "has_more" a.cu
 du:Binds K a.gf [We] []
 gx:Fun K "take" "RowWords.take" ic a.eJ a.iU
 dE:Meth K a.au "take" a.eJ
 eM:Binds K a.iU [We] []
 dv:Fun K "take_due" "RowWords.take_due" fv a.cq a.gc
 a6:Meth K a.au "take_due" a.cq
 a9:Binds K a.gc [We,"due"] []
 c8:Fun K "take_name" "RowWords.take_name" eV a.b8 a.fF
 aL:Meth K a.au "take_name" a.b8
 aO:Binds K a.fF [We] []
 bY:Fun K "take_names_to" "RowWords.take_names_to" cR a.bD a.dh
 fY:Meth K a.au "take_names_to" a.bD
 gm:Binds K a.dh [We,"due"] []
 cN:Fun K "take_coins" "RowWords.take_coins" dR a.bU a.fb
 lD:Meth K a.au "take_coins" a.bU
 mn:Binds K a.fb [We] []
 fm:Fun K "finish" "RowWords.finish" gD a.c7 a.g9
 pI:Meth K a.au "finish" a.c7
 rM:Binds K a.g9 [We] []
 bB:Cls K a.aD
 BF:mg "OpenCase"=Z (.ref a.aD)
 BH:Mk K a.aD a.cU
 jE:bS K a.aD "heads"
 jr:bS K a.aD "looked"
 iw:bS K a.aD "arms"
 fE:bS K a.aD "arm_head"
 gA:Fun K "__init__" "OpenCase.__init__" ig a.cU a.iW
 HS:Meth K a.aD "__init__" a.cU
 uT:Binds K a.iW [We,"heads","looked"] []
 c9:Fun K "begin_arm" "OpenCase.begin_arm" eY a.b9 a.fG
 ib:Meth K a.aD "begin_arm" a.b9
 iO:Binds K a.fG [We,"words"] []
 cO:Fun K "finish_arm" "OpenCase.finish_arm" dS a.bV a.fc
 lE:Meth K a.aD "finish_arm" a.bV
 mq:Binds K a.fc [We,"body"] []
 fV:Fun K "whole" "OpenCase.whole" gO a.dG a.iC
 qT:Meth K a.aD "whole" a.dG
 tP:Binds K a.iC [We] []
 nd:[a.aH,a.aX,a.bC,a.cE,a.ck,a.dJ,a.cm,a.fQ].Nodup
 yL:Dn K mg "is_name" sG a.nY a.yq ["text"]
 xh:Dn K mg "is_coins" oZ a.lJ a.wQ ["text"]
 AF:Dn K mg "is_of" zf a.vp a.Gz ["text","signs","longest"]
 AE:Dn K mg "read" Dx a.wF a.EE ["text"]
 jO:Dn K mg "read_kind" mJ a.jH a.uu ["words"]
 eB:Dn K mg "read_maker" kX a.i8 a.rC ["words"]
 gB:Dn K mg "read_function" iQ a.gu a.lV ["words"]
 jQ:Dn K mg "read_body" mL a.jJ a.uw ["words"]
 jc:Dn K mg "close_arms" kZ a.ja a.rE ["words","cases","body"]
 gn:Dn K mg "under_heads" jW a.iG a.oJ ["heads","body"]
 jP:Dn K mg "read_head" mK a.jI a.uv ["words","word"]
 lQ:Dn K mg "read_let" oY a.lI a.wO ["words"]
 AG:Dn K mg "_law_deal" DE a.Aa a.Mp [Tm,Su]
 bt:Dn K mg "_law_draw" DD a.z9 a.Mn [WF,TD]
 MV:Dn K mg "_law_name" Dz a.z7 a.Ml [WF]
 EZ:Dn K mg "_law_pool" Dy a.z6 a.Mj [WF]
 cb:Dn K mg "_law_good_name" mM a.jK a.ux [Tl]
 jR:Dn K mg "_law_one" JU a.Gq a.QU [WF,Th]
 AA:Dn K mg "_law_some" Dv a.zZ a.Mh [WF,Th,SL]
 MW:Dn K mg "_law_kind" DA a.z8 a.Mm [WF,Th]
 gg:Dn K mg "_law_body" DF a.Ab a.Mq [WF,Th,Sa,ST,Sc]
 MX:Dn K mg "_law_form" DB a.wG a.EF [WF]
 nH:Dn K mg "_law_body_text" mP a.jM a.uz [TW]
 AB:Dn K mg "_law_rows" Dw a.z5 a.Mi [SZ]
 cL:Dn K mg "_law_word" Du a.zY a.Mg [WP,W1]
 fJ:Dn K mg "_law_behind_names" jn a.gZ a.ni [WP,W1]
 si:Dn K mg "_law_good_coins" kY a.i9 a.rD [Tl]
 lR:Dn K mg "_law_behind_arm" k6 a.jb a.rF [WP,W1]
 oU:Dn K mg "_law_behind_head" jY a.iI a.oM [WP,W1]
 oV:Dn K mg "_law_behind_body" jZ a.iJ a.oN [WP,W1]
 uH:Dn K mg "_law_good_kind" mO a.jL a.uy [WP]
 mf:Dn K mg "_law_good_function" iR a.gw a.lW [WP]
 oS:Dn K mg "_law_first_wrong" jX a.iH a.oK [Tk]
 yM:Dn K mg "_law_bad_row" sH a.nZ a.yr [WF,"_law_a","_law_b"]
 CN:Dn K mg "_law_spoilt" vH a.q9 a.Cj [WF,TZ,Th]
 CO:Dn K mg "_law_beyond" vI a.rg a.Ck [Ty]
 yK:Dn K mg "_law_refused" sF a.nW a.yp [Tk]
 vt:Dn K mg "_law_right" ze a.vo a.Gy [Tk]
 Xv:Dn K mg "law" t9 a.yn a.QV [Tm]
 gI:mg "len"=Y
 MB:mg "all"=Y
 QY:mg "any"=Y
 tO:mg "list"=Y
 fR:mg "tuple"=Y
 Xb:mg "str"=Y
 kL:mg "int"=Y
 Uv:mg "bool"=Y
 w5:mg "reversed"=Y
 Xd:mg "max"=Y
 Xc:mg "min"=Y
 iL:mg "range"=Y
 hJ:mg "isinstance"=Y
 nq:mg "enumerate"=Y
 Ah:mg "ValueError"=Y
 Ag:mg "KEPT_WORDS"=Z (.ref a.fS)
 zo:∀H:Hp,SqT K H a.fS ([("kind":Str),"def","to","let","make","call","name","case","end","pay","get","give"].map V.str)
 IT:∃t,mg "LETTERS"=Z (.str "abcdefghijklmnopqrstuvwxyz" t)
 IU:∃t,mg "FIGURES"=Z (.str "0123456789" t)
 wZ:∃t,mg "LONGEST_NAME"=Z (.int 8 t)
 uR:∃t,mg "LONGEST_COINS"=Z (.int 7 t)
def fN:Str:="abcdefghijklmnopqrstuvwxyz"
def Gh:List Str:=["kind","def","to","let","make","call"]
def yi:List Str:=["name","case","end","pay","get","give"]
def kept:List Str:=Gh++yi
def near:List Str:=["lets","callx","payer","ender","tom","nameb","makes","gets","giver","kinds","defs","cases"]
theorem Gd{i:Int}(h0:0<=i)(h1:i<26):atI (Str.cps fN).toList i=Z (Ei i.toNat):=by
 obtain⟨n,rfl⟩:∃n:Nat,i=n:=(i.toNat,by lia)
 have h2:n<26:=by lia
 have h3:∀n:Fin 26,atI (Str.cps fN).toList (n.val)=Z (Ei n.val):=by decide +kernel
 have:=h3 (n,h2)
 simpa using this
def tM(m:Mk1):T:=.t [.s m.1,.t (m.2.map .s)]
def tMs(ms:List Mk1):T:=.t (ms.map tM)
def tK(k:Kd):T:=.t [.s k.1,tMs k.2]
def tKs(ks:List Kd):T:=.t (ks.map tK)
theorem fj{α:Type}{f:α->T}(h:∀x,(f x).im=O):∀xs:List α,T.ims (xs.map f)=O
 |[]=>rfl
 |x::r=>by show((f x).im&&T.ims (r.map f))=O;rw[h x,fj h r];rfl
theorem BY(m:Mk1):(tM m).im=true:=by show(O&&(T.ims (m.2.map T.s)&&O))=O;rw[fj (λ_=>rfl)];rfl
theorem T9(m:List Mk1):(tMs m).im=true:=fj BY m
theorem BZ(m:Kd):(tK m).im=true:=by show(O&&((tMs m.2).im&&O))=O;rw[T9];rfl
theorem wx{w:Str}{ws:List Str}:inT (.s w) (ws.map T.s)=inV (.str w) (ws.map V.str):=by
 unfold inT inV;rw[Z1,Z1];rfl
theorem aW(ws:List Str):T.ims (ws.map T.s)=true:=fj (λ_=>rfl) ws
theorem noq{w z:Str}(h:z∈yi):w++("q":Str)≠z:=by
 intro e;have h1:(w++("q")).cps.toList.getLast?=Z 113:=by simp[Str.cps_append,show(Str.ofString "q").cps=#[113]from by decide +kernel]
 rw[e]at h1;have h2:∀z∈yi,z.cps.toList.getLast? ≠ Z 113:=by decide +kernel
 exact h2 z h h1
theorem S3{w:Str}:inV (.str (w++("q":Str))) (yi.map V.str)=false:=by
 cases e:inV (.str (w++("q"))) (yi.map V.str)with
 |false=>rfl
 |true=>exact absurd U (noq (vm.mp e))
theorem Et{w:Str}:inV (.str w) (kept.map V.str)=(inV (.str w) (Gh.map V.str)||inV (.str w) (yi.map V.str)):=by
 unfold kept inV;rw[uj,List.any_append]
theorem rO{ws:List Str}{i:Int}(h0:0<=i)(h1:i<ws.length):∃w,atI (ws.map T.s) i=Z (.s w)/\w∈ws:=by
 let(v,e,hm):=Uw (xs:=ws.map T.s) h0 (by simpa using h1)
 let(w,hw,U):=YY.mp hm;exact(w,e,hw)
theorem rH{α β:Type}(f:α->β)(xs:List α)(lo hi:Option Int):dq (xs.map f) lo hi=(dq xs lo hi).map f:=by
 unfold dq;rw[gV,<- ab0,<- ab1]
variable{n:Nat}
theorem aM(h:n<=1002000):n<ot:=Y9 h (by decide)
abbrev nV:Str:="0123456789"
def sgn(signs:Str)(c:Nat):Bool:=!(Builtin.Str.occurrences signs ⟨#[c]⟩ 0 signs.length 1).isEmpty
def ofB(x signs:Str)(n:Int):Bool:=decide (1 <=(x.length:Int))&&(decide ((x.length:Int)<=n)&&x.cps.toList.all (sgn signs))
def ar(x:Str):Bool:=ofB x fN 8 && !inT (.s x) (kept.map .s)
def dH(x:Str):Bool:=ofB x nV 7 && !decide (x.cps.toList.head?=Z 48)
inductive Sz(ts:List L2.T)(Q:L2.T->Prop):Prop
 |mk(x signs n:_)(h1:ts=[.s x,.s signs,.i n])(h2:x.length<=1000000)(h3:Q (.b (ofB x signs n)))
inductive KP(ts:List L2.T)(Q:L2.T->Prop):Prop
 |mk(x:_)(h1:ts=[.s x])(h2:x.length<=1000000)(h3:Q (.b (ar x)))
inductive yc(ts:List L2.T)(Q:L2.T->Prop):Prop
 |mk(x:_)(h1:ts=[.s x])(h2:x.length<=1000000)(h3:Q (.b (dH x)))
def rT(C x:J)(ws:List Str)(n:Int)(p:Nat):L2.T:=.om x C ["words","number","place"] [.l (ws.map .s),.i n,.i p]
inductive Rw(C x:J)(n:Int)(l:List Str):L2.T->Prop
 |mk(ws:List Str)(p:Nat):ws.drop p=l->ws.length<=1000000->(∀w∈ws,w.length<=1000000)->Rw C x n l (rT C x ws n p)
abbrev hd(l:List Str):Str:=l.headD ""
variable{l:List Str}
theorem WV{ws:List Str}{p:Nat}(h:ws.drop p=l):ws[p]?=l.head?:=by rw[<- h,List.head?_drop]
theorem drop_tail{ws:List Str}{p:Nat}(h:ws.drop p=l):ws.drop (p+1)=l.tail:=by rw[<- h,CG]
variable{C:J}
theorem Rw.next{x:J}{n:Int}{ws:List Str}{p:Nat}(h:ws.drop p=l)(h1:ws.length<=1000000)(h2:∀w∈ws,w.length<=1000000):Rw C x n l.tail (rT C x ws n (p+1)):=.mk ws (p+1) (drop_tail h) h1 h2
theorem Rw.adr{C x:J}{n:Int}{l:List Str}{t:L2.T}(h:Rw C x n l t):t.adr=Z x:=by cases h;rfl
theorem Rw.hd{C x:J}{n:Int}{l:List Str}{t:L2.T}(h:Rw C x n l t):(K03.hd l).length<=1000000:=by
 cases h with
 |mk ws p h1 h2 h3 =>
  cases l with
  |nil=>exact Je _
  |cons w r=>exact h3 w (UT (by rw[h1];exact di))
theorem Rw.len{x:J}{n:Int}{t:L2.T}(h:Rw C x n l t):l.length<=1000000:=by
 cases h with
 |mk ws p h1 h2 h3=>rw[<- h1,xH];lia
theorem qX(x:Str):x.length=x.cps.toList.length:=rfl
theorem join_le{c:Nat}:∀{ws:List Str}{w:Str},w∈ws->w.length <=(Str.join ⟨#[c]⟩ ws).length
 |[x],w,h=>by rw[aB.mp h];exact oa _
 |x::y::r,w,h=>by
  rw[qX (Str.join _ _),kF,qd,my];obtain z|z:=fx.mp h
  ·rw[z,qX x];lia
  ·have:=join_le (c:=c) z
   rw[qX (Str.join _ _)]at this
   lia
variable{x:Str}
theorem split_le{w:Str}{c:Nat}(h:w∈Txt.split x ⟨#[c]⟩):w.length<=x.length:=by
 have:=join_le (c:=c) h
 rw[StrLaws.join_split]at this;exact this
inductive Hz(C:J)(ts:List L2.T)(Q:L2.T->L2.T->Prop):Prop
 |mk(x row n:_)(h1:ts=[.om x C [] [],.s row,.i n])(h2:row.length<=900000)(h3:∀t,Rw C x n (Txt.split row " ") t->Q .n t)
inductive Ou(C:J)(ts:List L2.T)(Q:L2.T->Prop):Prop
 |mk(x n l t:_)(h1:ts=[t])(h2:Rw C x n l t)(h3:Q (.s (hd l)))
inductive Sy(C:J)(ts:List L2.T)(Q:L2.T->Prop):Prop
 |mk(x n l t:_)(h1:ts=[t])(h2:Rw C x n l t)(h3:Q (.b (!l.isEmpty)))
inductive Sr(C:J)(ts:List L2.T)(Q:L2.T->L2.T->Prop):Prop
 |mk(x n l t:_)(h1:ts=[t])(h2:Rw C x n l t)(h3:∀t',Rw C x n l.tail t'->Q (.s (hd l)) t')
abbrev Pf:=List Str->Option (L2.T×List Str)
inductive Par(C NT:J)(args:List L2.T)(f:Pf)(ts:List L2.T)(Q:L2.T->List L2.T->Prop)(W:QW):Prop
 |mk(x n l t:_)(h1:ts=t::args)(h2:Rw C x n l t)(h3:∀r l',f l=Z (r,l')->∀t',Rw C x n l' t'->Q r [t'])(h4:f l=Y->W NT ["row"] [.i n])
def oo(due:Str):Pf:=λl=>if hd l=due then Z (.n,l.tail)else Y
def uo:Pf:=λl=>if ar (hd l)=O then Z (.s (hd l),l.tail)else Y
def fNames(due:Str):List Str->Option (List Str×List Str)
 |[]=>Y
 |w::l=>if w=due then Z ([],l)else if ar w=O then(fNames due l).map λz=>(w::z.1,z.2)else Y
def tN(z:List Str×List Str):L2.T×List Str:=(.t (z.1.map .s),z.2)
def intOf(x:Str):Int:=(PySem.intText? x).getD 0
def tF:Pf:=λl=>if dH (hd l)=O then Z (.i (intOf (hd l)),l.tail)else Y
def Pn:Pf:=λl=>if l.isEmpty then Z (.n,[])else Y
theorem tI(h:dH x=O):1<=x.length/\x.length<=7:=by
 unfold dH ofB at h;simp only[ti,decide_eq_true_eq]at h
 lia
theorem va{signs:Str}{c:Nat}(h:sgn signs c=O):c∈signs.cps.toList:=by
 unfold sgn at h;cases e:Builtin.Str.occurrences signs ⟨#[c]⟩ 0 signs.length 1 with
 |nil=>rw[e]at h;cases h
 |cons i r =>
  have:=(PySem.StrLaws.occ_spec signs ⟨#[c]⟩ 0 signs.length 1 i (by rw[e];exact di)).2
  have q:signs.cps.extract i (i+1)=#[c]:=eq_of_beq this;have g:c∈(signs.cps.extract i (i+1)).toList:=by rw[q];exact aB.mpr U
  rw[Array.toList_extract]at g;exact UT (YZ g)
theorem tu:∀c∈nV.cps.toList,48<=c/\c<=57:=by decide +kernel
theorem yu(h:dH x=O):PySem.intText? x=Z (intOf x):=by
 have hl:=tI h;unfold dH ofB at h;simp only[ti]at h;have hd:=λc q=>tu c (va (Av.mp h.1.2.2 c q))
 have g:x.cps.toList ≠ []:=λz=>by have:x.length=0:=congrArg YH z;lia
 have e:=PySem.intText_digits hd g (by lia)
 unfold intOf;rw[e];rfl
abbrev yb(C NT:J)(args:List L2.T)(f:Pf):ox:=Par C NT args f
inductive V0(C NT:J)(ts:List L2.T)(Q:L2.T->List L2.T->Prop)(W:QW):Prop
 |mk(due:_)(h1:due.length<=100)(h2:Par C NT [.s due] (oo due) ts Q W)
inductive Oh(C NT:J)(ts:List L2.T)(Q:L2.T->List L2.T->Prop)(W:QW):Prop
 |mk (due:Str) (h1:due ≠ "") (h2:ar due=ϊ) (h3:due.length<=100) (h4:Par C NT [.s due] (λl=>(fNames due l).map tN) ts Q W)
theorem as1{t:L2.T}{r:List L2.T}{as:List J}{x:J}(ha:IV [0] (t::r) as)(h:t.adr=Z x):as=[x]:=by
 match as,ha with
 |[b],((u,q,g),_)=>cases q;rw[h]at g;cases g;rfl
theorem as2{t u:L2.T}{r:List L2.T}{as:List J}{x y:J}(ha:IV [0,1] (t::u::r) as)(h:t.adr=Z x)(h2:u.adr=Z y):as=[x,y]:=by
 match as,ha with
 |[b,c],((_,K,q),(_,z,g),_)=>cases K;cases z;rw[h]at q;rw[h2]at g;cases q;cases g;rfl
variable{y:Str}
theorem dQ(h:(!decide ((L2.T.s x).v=(L2.T.s y).v))=O):x≠y:=λz=>by rw[z]at h;simp at h
theorem nh(h:¬(!decide ((L2.T.s x).v=(L2.T.s y).v))=O):x=y:=by
 cases e:decide ((L2.T.s x).v=(L2.T.s y).v)with
 |false=>rw[e]at h;exact absurd U h
 |true=>exact V.str.inj (of_decide_eq_true e)
def df(hts:List (List L2.T))(b:L2.T):L2.T:=hts.foldr (λh b=>.t (h++[b])) b
def Jb(hts:List (List L2.T)):Prop:=∀h∈hts,T.ims h=O/\h.length<=10
inductive Oa(ts:List L2.T)(Q:L2.T->Prop):Prop
 |mk(hts b:_)(h1:ts=[.l (hts.map .t),b])(h2:Jb hts)(h3:b.im=O)(h4:hts.length<=1000000)(h5:Q (df hts b))
def oT(C x:J)(hts:List (List L2.T))(lk:Str)(arms ah:List L2.T):L2.T:=.om x C ["heads","looked","arms","arm_head"] [.l (hts.map .t),.s lk,.l arms,.t ah]
inductive KO(C:J)(ts:List L2.T)(Q:L2.T->List L2.T->Prop)(_W:QW):Prop
 |mk(x hts lk:_)(h1:ts=[.om x C [] [],.l (hts.map .t),.s lk])(h2:Q .n [oT C x hts lk [] []])
inductive Oe(C:J)(ts:List L2.T)(Q:L2.T->L2.T->Prop):Prop
 |mk(x hts lk arms ah b:_)(h1:ts=[oT C x hts lk arms ah,b])(h2:T.ims ah=O)(h3:b.im=O)(h4:(arms.length<=1000000/\ah.length<=10))(h5:Q .n (oT C x hts lk (arms++[.t (ah++[b])]) ah))
def lL(l:List Str):Option (List L2.T×List Str):=if ar (hd l)=O then(fNames ":" l.tail).map λz=>([.s (hd l),.t (z.1.map .s)],z.2)else Y
variable{l1:List Str}
theorem cn{r:L2.T}(h:uo l=Z (r,l1)):ar (hd l)=O/\r=.s (hd l)/\l1=l.tail:=by
 unfold uo at h
 split at h
 ·rename_i e;cases h;exact(e,U,U)
 ·cases h
theorem cp(h:uo l=Y):¬ ar (hd l)=true:=λe=>by
 unfold uo at h;rw[if_pos e]at h;cases h
inductive Og(C CR NT:J)(ts:List L2.T)(Q:L2.T->List L2.T->Prop)(W:QW):Prop
 |mk(x hts lk arms ah y n l t:_)(h1:ts=[oT C x hts lk arms ah,t])(h2:Rw CR y n l t)(h3:(∀ah' l',lL l=Z (ah',l')->∀t',Rw CR y n l' t'->Q .n [oT C x hts lk arms ah',t']))(h4:(lL l=Y->W NT ["row"] [.i n]))
inductive HB(C:J)(ts:List L2.T)(Q:L2.T->Prop):Prop
 |mk(x hts lk arms ah:_)(h1:ts=[oT C x hts lk arms ah])(h2:Jb hts)(h3:T.ims arms=O)(h4:hts.length<=1000000)(h5:Q (df hts (.t [.s "case",.s lk,.t arms])))
def bL:List Str->Option (List Str×List Str)
 |[]=>Z ([],[])
 |w::l=>if w="|" then Z ([],w::l)else if ar w=O then(bL l).map λz=>(w::z.1,z.2)else Y
def iA(l:List Str):Option (Mk1×List Str):=if ar (hd l)=O then(bL l.tail).map λz=>((hd l,z.1),z.2)else Y
def tMk(z:Mk1×List Str):L2.T×List Str:=(tM z.1,z.2)
variable{due:Str}
theorem cC{r:L2.T}(h:oo due l=Z (r,l1)):hd l=due/\r=.n/\l1=l.tail:=by
 unfold oo at h
 split at h
 ·rename_i e;cases h;exact(e,U,U)
 ·cases h
theorem ji(h:oo due l=Y):hd l≠due:=λe=>by
 unfold oo at h;rw[if_pos e]at h;cases h
def bK:Nat->List Str->Option (List Mk1)
 | 0,_=>Y
 |n+1,l=>match iA l with
  |none=>Y
  |some (m,l1)=>if l1.isEmpty then Z [m]else if hd l1="|" then(bK n l1.tail).map (m :: ·)else Y
def i5(l:List Str):Option (Kd×List Str):=match oo "kind" l with
 |none=>Y
 |some (_,l1)=>if ar (hd l1)=O then(bK (l.length+1) l1.tail).map λms=>((hd l1,ms),[])else Y
def tKd(z:Kd×List Str):L2.T×List Str:=(tK z.1,z.2)
theorem ur:∀{l:List Str}{z:List Str×List Str},bL l=Z z->z.2.length<=l.length
 |[],z,h=>by cases h;exact oa _
 |w::l,z,h=>by
  rw[bL]at h
  split at h
  ·cases h;exact oa _
  ·split at h
   ·let(y,h1,U):=kg.mp h
    have:=ur h1
    exact Nat.le_succ_of_le this
   ·cases h
theorem qS(h:ar (hd l)=O):∃w r,l=w::r:=by
 cases l with
 |nil=>exact absurd h (by decide +kernel)
 |cons w r=>exact(w,r,U)
theorem wI{m:Mk1}(h:iA l=Z (m,l1)):l1.length<l.length:=by
 unfold iA at h
 split at h
 ·rename_i g;let(w,r,U):=qS g;let(z,h1,h2):=kg.mp h;cases h2;exact Nat.lt_succ_of_le (ur h1)
 ·cases h
def wK(k:Nat)(L:List Mk1)(l:List Str):Option (List Mk1):=if l.isEmpty then Z L else if hd l="|" then(bK k l.tail).map (L ++ ·)else Y
theorem uq{k:Nat}{m:Mk1}(h:iA l=Z (m,l1)):bK (k+1) l=wK k [m] l1:=by
 rw[bK,h];rfl
variable{l2:List Str}
theorem Iy{k:Nat}{L:List Mk1}{m:Mk1}(h:l.isEmpty=ϊ)(hd:hd l="|")(hm:iA l.tail=Z (m,l2)):wK (k+1) L l=wK k (L++[m]) l2:=by
 unfold wK;rw[h,if_neg (by decide),if_pos hd,uq hm]
 unfold wK
 split
 ·rfl
 ·split
  ·cases bK k l2.tail <;> simp
  ·rfl
def lK(l:List Str):Option (List L2.T×List Str):=if ar (hd l)=O then
  if hd l.tail="make" \/ hd l.tail="call" \/ hd l.tail="name" then
   if ar (hd l.tail.tail)=O then
    if hd l.tail="name" then(oo ";" l.tail.tail.tail).map λz=>([.s (hd l.tail),.s (hd l),.s (hd l.tail.tail)],z.2)
    else(fNames ";" l.tail.tail.tail).map λz=>([.s (hd l.tail),.s (hd l),.s (hd l.tail.tail),.t (z.1.map .s)],z.2)
   else Y
  else Y
 else Y
def tH(z:List L2.T×List Str):L2.T×List Str:=(.t z.1,z.2)
def cQ(word:Str)(l:List Str):Option (List L2.T×List Str):=if word="let" then lK l
 else if word="pay" \/ word="get" then
  if dH (hd l)=O then(oo ";" l.tail).map λz=>([.s word,.i (intOf (hd l))],z.2)else Y
 else Y
inductive SA(C NT:J)(ts:List L2.T)(Q:L2.T->List L2.T->Prop)(W:QW):Prop
 |mk (word) (h1:word.length<=1000000) (h2:Par C NT [.s word] (λl=>(cQ word l).map tH) ts Q W)
variable{q:Sq}{j:Nat}{m:Str}{Qb:Bool->Prop}
theorem qF{w:Str}(h:q[j]?=Z (.o (.s w))\/q[j]?=Z (.r (.s w)))(g:Qb (!decide (w=m))):jB (qOp qNe (iT j) (qC (.s m))) q Qb:=by
 have e:(!decide ((L2.T.s w).v=(L2.T.s m).v)) = !decide (w=m):=by
  congr 1
  exact decide_eq_decide.mpr (λh=>V.str.inj h,λh=>by rw[h])
 rw[<- e]at g;unfold jB qOp iT;obtain h|h:=h <;> rw[h] <;> exact(U,g)
theorem XE{w c n:Str}(h:q[2]?=Z (.o (.s w)))(g:Qb (!decide (w=m)&&(!decide (w=c) && !decide (w=n)))):DO (jB (qOp qNe (iT 2) (qC (.s m)))) (DO (jB (qOp qNe (iT 2) (qC (.s c)))) (jB (qOp qNe (iT 2) (qC (.s n))))) q Qb:=by
 refine qF (.inl h) ?_;cases e:decide (w=m)with
 |true=>rw[e]at g;exact g
 |false =>
  rw[e]at g;refine qF (.inl h) ?_;cases e:decide (w=c)with
  |true=>rw[e]at g;exact g
  |false=>rw[e]at g;exact qF (.inl h) g
theorem XF{w c:Str}(h:q[1]?=Z (.r (.s w)))(g:Qb (!decide (w=m) && !decide (w=c))):DO (jB (qOp qNe (iT 1) (qC (.s m)))) (jB (qOp qNe (iT 1) (qC (.s c)))) q Qb:=by
 refine qF (.inr h) ?_;cases e:decide (w=m)with
 |true=>rw[e]at g;exact g
 |false=>rw[e]at g;exact qF (.inr h) g
theorem Ce{r:L2.T}(h:tF l=Z (r,l1)):dH (hd l)=O/\r=.i (intOf (hd l))/\l1=l.tail:=by
 unfold tF at h
 split at h
 ·rename_i e;cases h;exact(e,U,U)
 ·cases h
theorem Cf(h:tF l=Y):¬ dH (hd l)=true:=λe=>by
 unfold tF at h;rw[if_pos e]at h;cases h
theorem Gr{z:List L2.T×List Str}(h:lK l=Z z):T.ims z.1=O/\z.1.length<=10:=by
 unfold lK at h
 split at h
 ·split at h
  ·split at h
   ·split at h
    ·let(y,_,U):=kg.mp h;exact(U,by simp)
    ·let(y,_,U):=kg.mp h;refine(?_,by simp)
     show(O&&(O&&(O&&(T.ims (y.1.map .s)&&O))))=O;rw[aW];rfl
   ·cases h
  ·cases h
 ·cases h
theorem LY{w:Str}{z:List L2.T×List Str}(h:cQ w l=Z z):T.ims z.1=O/\z.1.length<=10:=by
 unfold cQ at h
 split at h
 ·exact Gr h
 ·split at h
  ·split at h
   ·let(y,_,U):=kg.mp h;exact(U,by simp)
   ·cases h
  ·cases h
theorem Wb{w c n:Str}(h:w=m\/w=c\/w=n):(!decide (w=m)&&(!decide (w=c) && !decide (w=n)))=false:=by
 obtain h|h|h:=h <;> rw[decide_eq_true h] <;> simp
theorem Wa{w c n:Str}(h:¬(w=m\/w=c\/w=n)):(!decide (w=m)&&(!decide (w=c) && !decide (w=n)))=true:=by
 rw[decide_eq_false λz=>h (.inl z),decide_eq_false λz=>h (.inr (.inl z)),decide_eq_false λz=>h (.inr (.inr z))]
 rfl
theorem Wd{w c:Str}(h:w=m\/w=c):(!decide (w=m) && !decide (w=c))=false:=by
 obtain h|h:=h <;> rw[decide_eq_true h] <;> simp
theorem Wc{w c:Str}(h:¬(w=m\/w=c)):(!decide (w=m) && !decide (w=c))=true:=by
 rw[decide_eq_false λz=>h (.inl z),decide_eq_false λz=>h (.inr z)]
 rfl
structure Oc where
 hts:List (List L2.T)
 lk:Str
 arms:List L2.T
 ah:List L2.T
def Oc.t(C x:J)(c:Oc):L2.T:=oT C x c.hts c.lk c.arms c.ah
inductive OcL(C:J):List Oc->List L2.T->Prop
 |nil:OcL C [] []
 |cons{c:Oc}{cs:List Oc}{xs:List L2.T}{x:J}:OcL C cs xs->OcL C (c::cs) (xs++[c.t C x])
variable{cs:List Oc}
theorem OcL.len{xs:List L2.T}(h:OcL C cs xs):xs.length=cs.length:=by
 induction h with
 |nil=>rfl
 |cons _ g=>rw[qd,g];rfl
structure tR(c:Oc):Prop where
 h:Jb c.hts
 a:T.ims c.arms=O
 i:T.ims c.ah=O
 l:c.ah.length<=10
def wts(cs:List Oc):Nat:=(cs.map λc=>c.arms.length+c.hts.length+1).sum
theorem kh{c:Oc}:wts (c::cs)=c.arms.length+c.hts.length+1+wts cs:=rfl
theorem Ge:∀cs:List Oc,cs.length<=wts cs
 |[]=>Je _
 |c::cs=>by rw[kh,my];have:=Ge cs;lia
inductive Res
 |fin(b:L2.T)(l:List Str)
 |on(cs:List Oc)(l:List Str)
 |bad
def Oc.fed(c:Oc)(b:L2.T):Oc:={c with arms:=c.arms++[.t (c.ah++[b])]}
def Oc.whole(c:Oc):L2.T:=df c.hts (.t [.s "case",.s c.lk,.t c.arms])
def bu:List Oc->L2.T->List Str->Res
 |[],b,l=>.fin b l
 |c::cs,b,l=>if hd l="|" then
   match lL l.tail with
   |some (ah,l2)=>.on ({c.fed b with ah:=ah}::cs) l2
   |none=>.bad
  else if hd l="end" then bu cs (c.fed b).whole l.tail else .bad
inductive Om(C CR NT:J)(ts:List L2.T)(Q:L2.T->List L2.T->Prop)(W:QW):Prop
 |mk(x n l t a cs xs b:_)(h1:ts=[t,.lp a xs,b])(h2:Rw CR x n l t)(h3:OcL C cs xs)(h4:(∀c∈cs,tR c))(h5:b.im=O)(h6:wts cs+l.length<=900000)(h7:(∀b' l',bu cs b l=.fin b' l'->∀t',Rw CR x n l' t'->Q b' [t',.lp a []]))(h8:(∀cs' l',bu cs b l=.on cs' l'->∀t' xs',Rw CR x n l' t'->OcL C cs' xs'->Q .n [t',.lp a xs']))(h9:(bu cs b l=.bad->W NT ["row"] [.i n]))
theorem AK{hts:List (List L2.T)}{b:L2.T}(h:Jb hts)(z:b.im=O):(df hts b).im=true:=by
 induction hts with
 |nil=>exact z
 |cons g r q =>
  show T.ims (g++[df r b])=O;rw[ju,(h g di).1];show(O&&((df r b).im&&O))=O;rw[q λg hg=>h g (aJ _ hg)]
  rfl
theorem tR.fed{c:Oc}{b:L2.T}(h:tR c)(g:b.im=O):tR (c.fed b):=by
 refine(h.h,?_,h.i,h.l);show T.ims (c.arms++[.t (c.ah++[b])])=O;rw[ju,h.a];show(O&&(T.ims (c.ah++[b])&&O))=O;rw[ju,h.i];show(O&&((O&&(b.im&&O))&&O))=O;rw[g];rfl
theorem tR.whole{c:Oc}(h:tR c):c.whole.im=true:=AK h.h (by
 show(O&&(O&&(T.ims c.arms&&O)))=O;rw[h.a];rfl)
theorem KD{a:J}{xs:List L2.T}{u v:L2.T}:T.put v [.inr xs.length] (.lp a (xs++[u]))=.lp a (xs++[v]):=by
 have h:(xs++[u])[xs.length]?=Z u:=by rw[CF (oa _),Z3];rfl
 show(match(xs++[u])[xs.length]? with|some x=>L2.T.lp a ((xs++[u]).set xs.length v)|none=>.lp a (xs++[u]))=_
 rw[h];simp
theorem nU{α:Type}(xs:List α)(u:α):ixN (xs++[u]).length (-1)=Z xs.length/\(xs++[u])[xs.length]?=Z u:=by
 refine(?_,by rw[CF (oa _),Z3];rfl)
 unfold ixN;have e:(xs++[u]).length=xs.length+1:=by simp
 rw[e,if_neg (by decide),if_pos (by lia)]
 congr 1
 lia
structure BS where
 cs:List Oc
 hts:List (List L2.T)
 l:List Str
inductive Stp
 |fin(b:L2.T)(l:List Str)
 |on(s:BS)
 |bad
def Res.stp:Res->Stp
 |.fin b l=>.fin b l
 |.on cs l=>.on (cs,[],l)
 |.bad=>.bad
def fu(s:BS):Stp:=if hd s.l="case" then
  if ar (hd s.l.tail)=O then
   match lL s.l.tail.tail with
   |some (ah,l2)=>.on ((s.hts,hd s.l.tail,[],ah)::s.cs,[],l2)
   |none=>.bad
  else .bad
 else if hd s.l="give" then
  if ar (hd s.l.tail)=O then(bu s.cs (df s.hts (.t [.s "give",.s (hd s.l.tail)])) s.l.tail.tail).stp else .bad
 else match cQ (hd s.l) s.l.tail with
  |some (h,l2)=>.on (s.cs,s.hts++[h],l2)
  |none=>.bad
inductive Run:BS->Option (L2.T×List Str)->Prop
 |on{s s':BS}{o}:fu s=.on s'->Run s' o->Run s o
 |fin{s:BS}{b l}:fu s=.fin b l->Run s (Z (b,l))
 |bad{s:BS}:fu s=.bad->Run s Y
inductive Oo(CR NT:J)(ts:List L2.T)(Q:L2.T->List L2.T->Prop)(W:QW):Prop
 |mk(x n l t:_)(h1:ts=[t])(h2:Rw CR x n l t)(h3:l.length<=900000)(h4:(∀b l',Run ([],[],l) (Z (b,l'))->b.im=O->∀t',Rw CR x n l' t'->Q b [t']))(h5:(Run ([],[],l) Y->W NT ["row"] [.i n]))
theorem pO{due:Str}:∀{l:List Str}{z:List Str×List Str},fNames due l=Z z->z.2.length<l.length
 |[],z,h=>by cases h
 |w::l,z,h=>by
  rw[fNames]at h
  split at h
  ·cases h;exact YQ _
  ·split at h
   ·let(y,h1,U):=kg.mp h
    have:=pO h1
    exact Nat.lt_succ_of_lt this
   ·cases h
theorem vq{ah:List L2.T}(h:lL l=Z (ah,l2)):l2.length<l.length/\T.ims ah=O/\ah.length<=10:=by
 unfold lL at h
 split at h
 ·let(z,h1,h2):=kg.mp h;cases h2
  have:=pO h1
  rw[xv]at this;refine(by(first|lia|omega),?_,by simp)
  show(O&&(T.ims (z.1.map .s)&&O))=O;rw[aW];rfl
 ·cases h
theorem Cd{z:L2.T×List Str}(h:oo due l=Z z):z.2.length<=l.length:=by
 let(_,_,e):=cC h;rw[e,xv];exact Z0 _ _
theorem LX{z:List L2.T×List Str}(h:lK l=Z z):z.2.length<=l.length:=by
 unfold lK at h
 split at h
 ·split at h
  ·split at h
   ·split at h
    ·let(y,e,U):=kg.mp h
     have:=Cd e
     simp only[xv]at this
     lia
    ·let(y,e,U):=kg.mp h
     have:=pO e
     simp only[xv]at this
     lia
   ·cases h
  ·cases h
 ·cases h
theorem tE{w:Str}{z:List L2.T×List Str}(h:cQ w l=Z z):w ≠ "" /\ z.2.length<=l.length:=by
 unfold cQ at h
 split at h
 ·rename_i e;exact(by rw[e];decide,LX h)
 ·split at h
  ·rename_i e;refine(by obtain e|e:=e <;> rw[e] <;> decide,?_)
   split at h
   ·let(y,e,U):=kg.mp h
    have:=Cd e
    simp only[xv]at this;show y.2.length<=_
    lia
   ·cases h
  ·cases h
theorem wU:∀{cs:List Oc}{b b':L2.T}{l l':List Str},bu cs b l=.fin b' l'->(∀c∈cs,tR c)->b.im=O->b'.im=O/\l'.length<=l.length
 |[],b,b',l,l',h,_,g=>by cases h;exact(g,oa _)
 |c::cs,b,b',l,l',h,hok,g=>by
  rw[bu]at h
  split at h
  ·split at h <;> cases h
  ·split at h
   ·let(h1,h2):=wU h (λc q=>hok c (aJ _ q)) ((hok c di).fed g).whole
    rw[xv]at h2;exact(h1,by lia)
   ·cases h
theorem yw:∀{cs cs':List Oc}{b:L2.T}{l l':List Str},bu cs b l=.on cs' l'->(∀c∈cs,tR c)->b.im=O->(∀c∈cs',tR c)/\l'.length<l.length/\wts cs'+l'.length<=wts cs+l.length
 |[],_,_,_,_,h,_,_=>by cases h
 |c::cs,cs',b,l,l',h,hok,q=>by
  rw[bu]at h
  split at h
  ·split at h
   ·rename_i ah l2 e;cases h;let(g1,g2,g3):=vq e;rw[xv]at g1;have g:=(hok c di).fed q;refine(λd hd=>?_,by lia,?_)
    ·obtain z|z:=fx.mp hd
     ·rw[z];exact(g.h,g.a,g2,g3)
     ·exact hok d (aJ _ z)
    ·rw[kh,kh];show(c.arms++[_]).length+c.hts.length+1+_+_<=_;rw[qd];show c.arms.length+1+_+1+_+_<=_
     lia
   ·cases h
  ·split at h
   ·let(h1,h2,h3):=yw h (λc K=>hok c (aJ _ K)) ((hok c di).fed q).whole
    rw[xv]at h2 h3;rw[kh];exact(h1,by lia,by lia)
   ·cases h
theorem Sg{xs:List L2.T}{u v:L2.T}:T.put v [.inr xs.length] (.l (xs++[u]))=.l (xs++[v]):=by
 have h:(xs++[u])[xs.length]?=Z u:=by rw[CF (oa _),Z3];rfl
 show(match(xs++[u])[xs.length]? with|some x=>L2.T.l ((xs++[u]).set xs.length v)|none=>.l (xs++[u]))=_
 rw[h];simp
theorem xY:∀{hts:List (List L2.T)}{ys:List L2.T},∃zs,df hts (.t ys)=.t zs
 |[],ys=>(ys,U)
 |h::r,ys=>(_,U)
theorem wR:∀{cs:List Oc}{ys:List L2.T}{b':L2.T}{l l':List Str},bu cs (.t ys) l=.fin b' l'->∃zs,b'=.t zs
 |[],ys,b',l,l',h=>by cases h;exact(_,U)
 |c::cs,ys,b',l,l',h=>by
  rw[bu]at h
  split at h
  ·split at h <;> cases h
  ·split at h
   ·let(zs,e):=xY;unfold Oc.whole at h;rw[e]at h;exact wR h
   ·cases h
def fParams:List Str->Option (List (Str×Str)×List Str)
 |[]=>Y
 |[w]=>if w="to" then Z ([],[])else Y
 |w::v::l=>if w="to" then Z ([],v::l)else if ar w=O then if ar v=O then(fParams l).map λz=>((w,v)::z.1,z.2)else Y else Y
def tPs(ps:List (Str×Str)):L2.T:=.t (ps.map λp=>.t [.s p.1,.s p.2])
theorem wy(ps:List (Str×Str)):T.ims (ps.map λp=>L2.T.t [.s p.1,.s p.2])=true:=fj (λ_=>rfl) ps
structure Fh where
 nm:Str
 ps:List (Str×Str)
 kd:Str
def fHd(l:List Str):Option (Fh×List Str):=if hd l="def" then
  if ar (hd l.tail)=O then
   match fParams l.tail.tail with
   |some (ps,l2)=>if ar (hd l2)=O then if hd l2.tail=":" then Z ((hd l.tail,ps,hd l2),l2.tail.tail)else Y else Y
   |none=>Y
  else Y
 else Y
def Fh.t(h:Fh)(b:L2.T):L2.T:=.t [.s h.nm,tPs h.ps,.s h.kd,b]
inductive oA(l:List Str):Option L2.T->Prop
 |Ct:fHd l=Y->oA l Y
 |EL{h l4}:fHd l=Z (h,l4)->Run ([],[],l4) Y->oA l Y
 |EK{h l4 b l5}:fHd l=Z (h,l4)->Run ([],[],l4) (Z (b,l5))->l5.isEmpty=ϊ->oA l Y
 |ok{h l4 b}:fHd l=Z (h,l4)->Run ([],[],l4) (Z (b,[]))->oA l (Z (h.t b))
inductive SG(CR NT:J)(ts:List L2.T)(Q:L2.T->List L2.T->Prop)(W:QW):Prop
 |mk(x n l t:_)(h1:ts=[t])(h2:Rw CR x n l t)(h3:l.length<=900000)(h4:(∀r,oA l (Z r)->r.im=O->∀t',Rw CR x n [] t'->Q r [t']))(h5:(oA l Y->W NT ["row"] [.i n]))
inductive eO:Nat->List Kd->List L2.T->List Str->L2.T ⊕ Nat->Prop
 |nil{n ks fs}:eO n ks fs [] (.inl (.t [tKs ks,.t fs]))
 |kind{n ks row rows k l o}:hd (Txt.split row " ")="kind"->i5 (Txt.split row " ")=Z (k,l)->eO (n+1) (ks++[k]) [] rows o->eO n ks [] (row::rows) o
 |uh{n ks row rows}:hd (Txt.split row " ")="kind"->i5 (Txt.split row " ")=Y->eO n ks [] (row::rows) (.inr n)
 |fn{n ks fs row rows f o}:¬(hd (Txt.split row " ")="kind" /\ fs=[])->oA (Txt.split row " ") (Z f)->eO (n+1) ks (fs++[f]) rows o->eO n ks fs (row::rows) o
 |fnX{n ks fs row rows}:¬(hd (Txt.split row " ")="kind" /\ fs=[])->oA (Txt.split row " ") Y->eO n ks fs (row::rows) (.inr n)
def rowsOf(text:Str):List Str:=if text="" then []else Txt.split text "\n"
inductive Ob(NT:J)(ts:List L2.T)(Q:L2.T->Prop)(W:QW):Prop
 |mk(text:_)(h1:ts=[.s text])(h2:text.length<=800000)(h3:(∀r,eO 0 [] [] (rowsOf text) (.inl r)->r.im=O->Q r))(h4:(∀n:Nat,eO 0 [] [] (rowsOf text) (.inr n)->W NT ["row"] [.i n]))
theorem XC{w:Str}{fs:List L2.T}{A ό:Prop}(h2:q[2]?=Z (.o (.l fs)))(K:w="kind" /\ fs=[]->A)(g:¬(w="kind" /\ fs=[])->ό):
  if decide ((L2.T.s w).v=(L2.T.s "kind").v)=O then(Ku (Ks (iT 2)) q λb=>if b=O then A else ό)else(λb=>if b=O then A else ό) false:=by
 refine a7 (λh=>?_) (λh=>?_)
 ·have h:=V.str.inj (of_decide_eq_true h);unfold Ku Ks iT;rw[h2];cases fs with
  |nil=>exact K (h,U)
  |cons f r=>exact g λz=>nomatch z.2
 ·exact g λz=>h (by rw[z.1];exact decide_eq_true U)
mutual
inductive Bd
 |give(x:Str)
 |mm(w:Str)(n:Nat)(b:Bd)
 |nam(x y:Str)(b:Bd)
 |mk(w x y:Str)(ns:List Str)(b:Bd)
 |cas(x:Str)(as:Ar)
inductive Ar
 |nil
 |cons(m:Str)(ns:List Str)(b:Bd)(r:Ar)
end
mutual
def Bd.t:Bd->L2.T
 |.give x=>.t [.s "give",.s x]
 |.mm w n b=>.t [.s w,.i n,b.t]
 |.nam x y b=>.t [.s "name",.s x,.s y,b.t]
 |.mk w x y ns b=>.t [.s w,.s x,.s y,.t (ns.map .s),b.t]
 |.cas x as=>.t [.s "case",.s x,.t as.ts]
def Ar.ts:Ar->List L2.T
 |.nil=>[]
 |.cons m ns b r=>.t [.s m,.t (ns.map .s),b.t]::r.ts
end
mutual
def Bd.ws:Bd->List Str
 |.give x=>["give",x]
 |.mm w n b=>w::ka n :: ";" :: b.ws
 |.nam x y b=>"let" :: x :: "name" :: y :: ";" :: b.ws
 |.mk w x y ns b=>"let" :: x::w::y ::(ns++(";":Str)::b.ws)
 |.cas x as=>"case" :: x ::(as.ws.tail++[("end":Str)])
def Ar.ws:Ar->List Str
 |.nil=>[]
 |.cons m ns b r=>"|" :: m ::(ns++(":":Str) ::(b.ws++r.ws))
end
mutual
def Bd.wt:Bd->Nat
 |.give _=>3
 |.mm _ _ b=>4+b.wt
 |.nam _ _ b=>6+b.wt
 |.mk _ _ _ ns b=>6+ns.length+b.wt
 |.cas _ as=>4+as.wt
def Ar.wt:Ar->Nat
 |.nil=>0
 |.cons _ ns b r=>3+ns.length+b.wt+r.wt
end
mutual
def Bd.ok:Bd->Prop
 |.give x=>ar x=O
 |.mm w n b=>(w="pay" \/ w="get")/\1<=n/\n<=9999999/\b.ok
 |.nam x y b=>ar x=O/\ar y=O/\b.ok
 |.mk w x y ns b=>(w="make" \/ w="call")/\ar x=O/\ar y=O/\(∀m∈ns,ar m=O)/\b.ok
 |.cas x as=>ar x=O/\as ≠ .nil/\as.ok
def Ar.ok:Ar->Prop
 |.nil=>True
 |.cons m ns b r=>ar m=O/\(∀k∈ns,ar k=O)/\b.ok/\r.ok
end
mutual
theorem Bd.im:∀b:Bd,b.t.im=O
 |.give x=>rfl
 |.mm w n b=>by show(O&&(O&&(b.t.im&&O)))=O;rw[b.im];rfl
 |.nam x y b=>by show(O&&(O&&(O&&(b.t.im&&O))))=O;rw[b.im];rfl
 |.mk w x y ns b=>by show(O&&(O&&(O&&(T.ims (ns.map T.s)&&(b.t.im&&O)))))=O;rw[aW,b.im];rfl
 |.cas x as=>by show(O&&(O&&(T.ims as.ts&&O)))=O;rw[as.im];rfl
theorem Ar.im:∀as:Ar,T.ims as.ts=O
 |.nil=>rfl
 |.cons m ns b r=>by show((O&&(T.ims (ns.map T.s)&&(b.t.im&&O)))&&T.ims r.ts)=O;rw[aW,b.im,r.im];rfl
end
theorem Tf:decide ((L2.T.s x).v=(L2.T.s x).v)=true:=decide_eq_true U
theorem HK(h:n<=9999999):(n:Int).natAbs.log2<1920:=by
 by_cases h0:n=0
 ·subst h0;decide
 ·exact Zj ((Nat.log2_lt (k:=24) h0).mpr (by lia)) (by decide)
def Ar.ls:Ar->List (Str×List Str×Bd)
 |.nil=>[]
 |.cons m ns b r=>(m,ns,b)::r.ls
def PB(z:Str×List Str×Bd):L2.T:=.t [.s z.1,.t (z.2.1.map .s),z.2.2.t]
theorem AL:∀as:Ar,as.ts=as.ls.map PB
 |.nil=>rfl
 |.cons m ns b r=>by rw[Ar.ts,AL r];rfl
theorem Py(z:Str×List Str×Bd):(PB z).im=true:=by
 show(O&&(T.ims (z.2.1.map T.s)&&(z.2.2.t.im&&O)))=O;rw[aW,z.2.2.im];rfl
theorem zI(n:Nat):(ka n).cps.toList=(Zu 10 n).map Char.toNat:=W.KIN.signs_num n
theorem Pl:∀c:Fin 10,sgn nV (48+c.val)=true:=by decide +kernel
theorem OT(n:Nat):∀c∈(ka n).cps.toList,48<=c/\c<=57:=λc q=>by
 rw[zI]at q;let(ch,g,e):=YY.mp q;have r:=PyProof.Rows.digit_range (Nat.isDigit_of_mem_toDigits (by decide) (by decide) g)
 rw[<- e];exact r
theorem zH(h:n<=9999999):1 <=(ka n).length/\(ka n).length<=7 :=
 (W.KLn.one_le (Zp n),PyProof.Rows.toString_length_le (Zp n) (by decide) (by lia))
theorem Me(n:Nat):1<=n->(Zu 10 n).head?.map Char.toNat≠Z 48:=by
 induction n using Nat.strongRecOn with
 |_ m g =>
  intro h1;by_cases hm:m<10
  ·rw[Nat.toDigits_of_lt_base hm]
   have:∀k:Fin 10,1<=k.val->(Nat.digitChar k.val).toNat≠48:=by decide
   exact λz=>this (m,hm) h1 (Option.some.inj z)
  ·have t:Zu 10 (m / 10)++Zu 10 (m % 10)=Zu 10 (10*(m / 10)+m % 10):=Nat.toDigits_append_toDigits (by decide) (by lia) (Nat.mod_lt _ (by decide))
   rw[Nat.div_add_mod]at t;rw[<- t]
   have:=g (m / 10) (by lia) (by lia)
   cases e:Zu 10 (m / 10)with
   |nil=>exact absurd (congrArg YH e) (by simp)
   |cons c r=>rw[e]at this;exact this
theorem Lf(h1:1<=n)(h:n<=9999999):dH (ka n)=O/\intOf (ka n)=n:=by
 have hl:=zH h;refine(?_,?_)
 ·unfold dH ofB;rw[decide_eq_true (by lia),decide_eq_true (by lia)]
  have z:(ka n).cps.toList.all (sgn nV)=true:=Av.mpr λc g=>by
   let(g1,g2):=OT n c g
   have:=Pl (c-48,by lia)
   rwa [show 48+(c-48)=c by lia]at this
  rw[z];have q:(ka n).cps.toList.head? ≠ Z 48:=by
   rw[zI,List.head?_map];exact Me n h1
  rw[decide_eq_false q];rfl
 ·unfold intOf;rw[show PySem.intText? (ka n)=Z (n)from W.KIN.num_reads (Zp n) (by lia)]
  rfl
theorem lT(sep:Str)(ws:List Str):Txt.join sep ws=Str.join sep ws:=StrLaws.glued_eq_join _ _
variable{sep:Str}
theorem gY{r:List Str}:Txt.join sep (x::y::r)=x++sep++Txt.join sep (y::r):=by rw[lT,lT];rfl
theorem Eo:Txt.join sep [x]=x:=by rfl
theorem tj{sep:Str}:∀{a b:List Str},a ≠ []->b ≠ []->Txt.join sep (a++b)=Txt.join sep a++sep++Txt.join sep b
 |[],_,h,_=>absurd U h
 |[x],[],_,h=>absurd U h
 |[x],y::r,_,_=>by exact gY
 |x::z::r,b,_,h=>by
  rw[Zk,Zk,gY,gY,<- Zk,tj (xT z r) h];simp only[Str.append_assoc]
def gM(k:Kd):Str:="kind " ++ k.1 ++ " " ++ Txt.join " | " (k.2.map λm=>Txt.join " " (m.1::m.2))
def pws(ps:List (Str×Str)):List Str:=ps.flatMap λp=>[p.1,p.2]
def fws(h:Fh)(b:Bd):List Str:="def" :: h.nm ::(pws h.ps++("to":Str)::h.kd :: ":" :: b.ws)
def iz(z:Fh×Bd):Str:=Txt.join " " (fws z.1 z.2)
def fT(z:Fh×Bd):L2.T:=z.1.t z.2.t
theorem QQ(z:Fh×Bd):(fT z).im=true:=by
 show(O&&(T.ims _&&(O&&(z.2.t.im&&O))))=O;rw[wy,z.2.im];rfl
structure xR(k:Kd):Prop where
 n:ar k.1=O
 l:k.2.length<=700
 ne:k.2 ≠ []
 m:∀m∈k.2,ar m.1=O/\m.2.length<=700/\∀f∈m.2,ar f=O
structure lZ(z:Fh×Bd):Prop where
 n:ar z.1.nm=O
 k:ar z.1.kd=O
 l:z.1.ps.length<=700
 p:∀p∈z.1.ps,ar p.1=O/\ar p.2=O
 b:z.2.ok
 w:z.2.wt<=2000
theorem bw(h:ar x=O):1<=x.length/\x.length<=8:=by
 unfold ar ofB at h;simp only[ti,decide_eq_true_eq]at h
 lia
def Sh(ws:List Str):Prop:=∀w∈ws,w.length<=8
theorem Sh.cons{w:Str}{ws:List Str}(h:w.length<=8)(hr:Sh ws):Sh (w::ws):=λx hx=>(fx.mp hx).elim (λz=>z▸h) (hr x)
variable{a:List Str}
theorem Sh.app{b:List Str}(ha:Sh a)(g:Sh b):Sh (a++b):=λx hx=>(mu.mp hx).elim (ha x) (g x)
theorem Sh.nil:Sh []:=λ_ h=>nomatch h
variable{ns:List Str}
theorem Sh.nm(h:∀m∈ns,ar m=O):Sh ns:=λx hx=>(bw (h x hx)).2
theorem Sh.tail{a:List Str}(h:Sh a):Sh a.tail:=λx hx=>h x (aa4 hx)
theorem Sh.sum:∀{ws:List Str},Sh ws->(ws.map (·.length)).sum<=8*ws.length
 |[],_=>oa _
 |w::r,h=>by
  have h1:=h w di;have h2:=Sh.sum λx hx=>h x (aJ _ hx)
  rw[CH,U5,my]
  lia
mutual
theorem Bd.sh:∀{b:Bd},b.ok->Sh b.ws
 |.give x,h=>.cons (by decide) (.cons (bw h).2 .nil)
 |.mm w n b,(h1,h2,h3,h4)=>.cons (by obtain h|h:=h1 <;> rw[h] <;> decide) (.cons (Nat.le_succ_of_le (zH h3).2) (.cons (by decide) (Bd.sh h4)))
 |.nam x y b,(h1,h2,h3)=>.cons (by decide) (.cons (bw h1).2 (.cons (by decide) (.cons (bw h2).2 (.cons (by decide) (Bd.sh h3)))))
 |.mk w x y ns b,(h1,h2,h3,h4,h5)=>.cons (by decide) (.cons (bw h2).2 (.cons (by obtain h|h:=h1 <;> rw[h] <;> decide) (.cons (bw h3).2 (.app (.nm h4) (.cons (by decide) (Bd.sh h5))))))
 |.cas x as,(h1,_,h3)=>.cons (by decide) (.cons (bw h1).2 (.app (Ar.sh h3).tail (.cons (by decide) .nil)))
theorem Ar.sh:∀{as:Ar},as.ok->Sh as.ws
 |.nil,_=>.nil
 |.cons m ns b r,(h1,h2,h3,h4)=>.cons (by decide) (.cons (bw h1).2 (.app (.nm h2) (.cons (by decide) (.app (Bd.sh h3) (Ar.sh h4)))))
end
mutual
theorem Bd.wl:∀b:Bd,b.ws.length<=b.wt
 |.give x=>by show 2<=3;(first|lia|omega)
 |.mm w n b=>by have:=b.wl;show b.ws.length+3<=4+b.wt;(first|lia|omega)
 |.nam x y b=>by have:=b.wl;show b.ws.length+5<=6+b.wt;(first|lia|omega)
 |.mk w x y ns b=>by have:=b.wl;show(ns++(";":Str)::b.ws).length+4<=6+ns.length+b.wt;rw[qd,my];(first|lia|omega)
 |.cas x as=>by have:=as.wl;show(as.ws.tail++[("end":Str)]).length+2<=4+as.wt;rw[qd,xv];show _-1+1+2<=_;(first|lia|omega)
theorem Ar.wl:∀as:Ar,as.ws.length<=as.wt
 |.nil=>oa _
 |.cons m ns b r=>by
  have:=b.wl
  have:=r.wl
  show(ns++(":":Str) ::(b.ws++r.ws)).length+2<=3+ns.length+b.wt+r.wt;rw[qd,my,qd];(first|lia|omega)
end
def pT(ks:List Kd)(fs:List (Fh×Bd)):L2.T:=.t [tKs ks,.t (fs.map fT)]
structure ET(ks:List Kd)(fs:List (Fh×Bd)):Prop where
 k:∀k∈ks,xR k
 f:∀z∈fs,lZ z
 l:ks.length<=100000/\fs.length<=100000
theorem Ll{m:Mk1}(h:ar m.1=O/\m.2.length<=700/\∀f∈m.2,ar f=O):((m.1::m.2).map (·.length)).sum<=5608:=by
 have h1:=Sh.sum (.cons (bw h.1).2 (.nm h.2.2));rw[my]at h1
 lia
theorem pK(sep:Str)(ws:List Str):(Txt.join sep ws).length <=(ws.map (·.length)).sum+ws.length*sep.length:=by
 have h:(Txt.join sep ws).length=_:=PySem.size_glued sep ws;rw[h];exact Nat.add_le_add_left (aa5 _ (Z0 _ _)) _
theorem Ta{m:Mk1}(h:ar m.1=O/\m.2.length<=700/\∀f∈m.2,ar f=O):(Txt.join " " (m.1::m.2)).length<=6400:=by
 have h1:=Ll h;have h2:=pK " " (m.1::m.2);rw[show(" ":Str).length=1 from by decide,my]at h2
 lia
theorem zN:∀{ms:List Mk1},(∀m∈ms,ar m.1=O/\m.2.length<=700/\∀f∈m.2,ar f=O)->((ms.map λm=>Txt.join " " (m.1::m.2)).map (·.length)).sum<=6400*ms.length
 |[],_=>oa _
 |m::r,h=>by
  have h1:=Ta (h m di);have h2:=zN λx hx=>h x (aJ _ hx)
  rw[CH,CH,U5,my]
  lia
theorem qG(ps:List (Str×Str)):(pws ps).length=2*ps.length:=by
 induction ps with
 |nil=>rfl
 |cons p r g=>show(pws r).length+2=2*(r.length+1);lia
theorem Kz{ps:List (Str×Str)}(h:∀p∈ps,ar p.1=O/\ar p.2=O):Sh (pws ps):=λx hx=>by
 let(p,hp,hx):=Y7.mp hx;obtain z|z:=fx.mp hx
 ·rw[z];exact(bw (h p hp).1).2
 ·rw[aB.mp z];exact(bw (h p hp).2).2
variable{z:Fh×Bd}
theorem LS(h:lZ z):Sh (fws z.1 z.2):=.cons (by decide) (.cons (bw h.n).2 (.app (Kz h.p) (.cons (by decide) (.cons (bw h.k).2 (.cons (by decide) (Bd.sh h.b))))))
theorem Pg(h:lZ z):(fws z.1 z.2).length<=3430:=by
 have h1:=z.2.wl;have h2:=h.w;have h3:=h.l;show(pws z.1.ps++("to":Str)::z.1.kd :: ":" :: z.2.ws).length+2<=_;rw[qd,qG];show _+(z.2.ws.length+3)+2<=_
 lia
theorem LW(h:lZ z):(iz z).length<=40000:=by
 have h1:=pK " " (fws z.1 z.2);have h2:=(LS h).sum;have h3:=Pg h;rw[show(" ":Str).length=1 from by decide]at h1
 show(Txt.join " " (fws z.1 z.2)).length<=_
 lia
theorem Lz{k:Kd}(h:xR k):(gM k).length<=4500000:=by
 have h1:=pK " | " (k.2.map λm=>Txt.join " " (m.1::m.2))
 have h2:=zN h.m;have h3:=h.l;have h4:=(bw h.n).2;unfold gM;rw[show(" | ":Str).length=3 from by decide,gV]at h1
 rw[Str.length_append,Str.length_append,Str.length_append,show("kind ":Str).length=5 from by decide,show(" ":Str).length=1 from by decide]
 lia
theorem oW{α:Type}{f:α->Nat}{n:Nat}:∀{xs:List α},(∀x∈xs,f x<=n)->(xs.map f).sum<=n*xs.length
 |[],_=>oa _
 |x::r,h=>by
  have h1:=h x di;have h2:=oW λy g=>h y (aJ _ g)
  rw[CH,U5,my,Nat.mul_add]
  lia
def kws(k:Kd):List Str:=("kind":Str)::k.1 ::(k.2.flatMap λm=>("|":Str)::m.1::m.2).tail
theorem MA{n:Nat}:∀{ms:List Mk1},(∀m∈ms,m.2.length<=n)->(ms.flatMap λm=>("|":Str)::m.1::m.2).length <=(n+2)*ms.length
 |[],_=>oa _
 |m::r,h=>by
  have h1:=h m di;have h2:=MA λx hx=>h x (aJ _ hx)
  rw[Y0,qd,my,my,my,Nat.mul_add]
  lia
theorem TJ{ms:List Mk1}(h1:ms.length<=5)(h:∀m∈ms,m.2.length<=4):(kws (x,ms)).length<=32:=by
 have:=MA h
 show(ms.flatMap λm=>("|":Str)::m.1::m.2).tail.length+2<=32
 rw[xv]
 lia
def nN(l:List Str):Nat:=(l.takeWhile ar).length
def dN(l:List Str):List Str:=l.dropWhile ar
theorem Po(l:List Str):l.drop (nN l)=dN l:=by
 unfold nN dN
 induction l with
 |nil=>rfl
 |cons w r g =>
  cases e:ar w with
  |true=>rw[YS e,YT e,my];exact g
  |false=>rw[YU (by rw[e];decide),YV (by rw[e];decide)];rfl
theorem m4(h:ar (hd l)=O):nN l=nN l.tail+1/\dN l=dN l.tail:=by
 let(w,r,U):=qS h;have h:ar w=true:=h;unfold nN dN;rw[YS h,YT h];exact(U,U)
theorem sX(h:¬ ar (hd l)=O):nN l=0/\dN l=l:=by
 unfold nN dN;cases l with
 |nil=>exact(U,U)
 |cons w r =>
  have h:¬ ar w=true:=h;rw[YU h,YV h];exact(U,U)
theorem F8(l:List Str):nN l<=l.length:=(List.takeWhile_sublist ar).length_le
inductive KU(ts:List L2.T)(Q:L2.T->Prop):Prop
 |mk(ws:List Str)(n:Nat)(h1:ts=[.l (ws.map .s),.i n])(h2:ws.length<=900000)(h3:n<=900009)(h4:(∀w∈ws,w.length<=900000))(h5:Q (.i ((n+nN (ws.drop n):Nat):Int)))
def Pos(ws:List Str)(o:Option (List Str))(r:Int):Prop:=match o with
 |none=>r = -1
 |some l=>∃n:Nat,r=n/\n<=ws.length/\ws.drop n=l
def Qc(f:List Str->Option (List Str)):PSp:=λts Q=>M2 λ(ws:List Str)(n:Nat)=>ts=[.l (ws.map .s),.i n]/\ws.length<=900000/\n<=900005/\(∀w∈ws,w.length<=900000)/\∀r,Pos ws (f (ws.drop n)) r->Q (.i r)
theorem tD{due:Str}(g:ar due=ϊ)(he:due ≠ ""):∀l:List Str,fNames due l=if hd (dN l)=due then Z (l.takeWhile ar,(dN l).tail)else Y
 |[]=>by rw[if_neg (λz=>he z.symm)];rfl
 |w::l=>by
  rw[fNames];cases e:ar w with
  |true =>
   have h:w≠due:=λz=>by rw[z,g]at e;cases e
   unfold dN;rw[if_neg h,if_pos U,tD g he l,YS e,YT e];unfold dN
   split
   ·rfl
   ·rfl
  |false =>
   unfold dN;rw[YU (by rw[e];decide),YV (by rw[e];decide)]
   show(if w=due then _ else if ϊ=O then _ else Y)=if w=due then _ else _
   split
   ·rfl
   ·rfl
inductive Sx(ts:List L2.T)(Q:L2.T->Prop):Prop
 |mk(h1:ts=[.gj])(h2:∀w:Str,ar w=O->Q (.s w))
inductive SD(ts:List L2.T)(Q:L2.T->Prop):Prop
 |mk(x:_)(h1:ts=[.s x])(h2:x.length<=900000)(h3:Q (.b (ar x)))
inductive Sw(ts:List L2.T)(Q:L2.T->Prop):Prop
 |mk(h1:ts=[.gj])(h2:∀ws:List Str,4<=ws.length->ws.length<=7->(∀w∈ws,ar w=O)->Q (.l (ws.map .s)))
inductive VZ(ts:List L2.T)(Q:L2.T->Prop):Prop
 |mk(ws:List Str)(h1:ts=[.gj,.zl (ws.map .s)])(h2:4<=ws.length)(h3:ws.length<=7)(h4:(∀w∈ws,ar w=O))(h5:∀w,ar w=O->Q (.s w))
inductive Ss(ts:List L2.T)(Q:L2.T->Prop):Prop
 |mk(ws:List Str)(m:Int)(h1:ts=[.gj,.zl (ws.map .s),.i m])(h2:4<=ws.length)(h3:ws.length<=7)(h4:(∀w∈ws,ar w=O))(h5:0<=m)(h6:m<=4)(h7:∀ns:List Str,(∀w∈ns,ar w=O)->ns.length<=4->Q (.t (ns.map .s)))
inductive Oi(ts:List L2.T)(Q:L2.T->Prop):Prop
 |mk(ws:List Str)(h1:ts=[.gj,.zl (ws.map .s)])(h2:4<=ws.length)(h3:ws.length<=7)(h4:(∀w∈ws,ar w=O))(h5:∀k,xR k->(kws k).length<=32->Q (tK k))
theorem OU:∀w∈near++[("pa":Str),"ki","en","t","o","d"],ar w=true:=by decide +kernel
theorem Lq:∀n:Fin 26,sgn fN (Ei n.val)=true:=by decide +kernel
theorem OY(n:Nat):sgn fN (Ei n)=true:=by
 have:=Lq (n % 26,Nat.mod_lt _ (by decide))
 unfold Ei at this ⊢;simpa using this
theorem Ly:∀w∈kept,w.length<=4:=by decide +kernel
theorem VE{w:Str}(h:inT (.s w) (kept.map .s)=O):inT (.s (w++("q":Str))) (kept.map .s)=false:=by
 rw[wx,Et,S3];cases e:inV (.str (w++("q"))) (Gh.map V.str)with
 |false=>rfl
 |true =>
  exfalso
  have h1:=vm.mp e;have h2:∀z∈Gh,z.cps.toList.getLast? ≠ Z 113:=by decide +kernel
  have h3:(w++("q")).cps.toList.getLast?=Z 113:=by simp[Str.cps_append,show(Str.ofString "q").cps=#[113]from by decide +kernel]
  exact h2 _ h1 h3
variable{i:Nat}{b:Bd}{s:BS}{ks:List Kd}{p:List Str}{ό:Bd}{bm:List B}{text:Str}{L:List Str}{qe:QE}{ql:QA}{rest:QS}{D:dP}
section
variable{P:Db}{w:Da}{K:BT}{mg:Str->Option B}{base:Ev}{a:Adr}
theorem iE(T:Txt K mg a):aV P w K mg base CX0 1 a.z9 a.Mn [WF,TD] JB:=by
 refine T.bt.F.ok vb (λvs H Q E h=>?_) (λcdv A outer s H vs Q E hr h=>?_)
 ·let(d,l,m,U,_):=h;rfl
 ·let(d,l,m,U,(s0,n0,au,D0),m0,m1,k):=h;have q:=cj hr;refine(_,((dB (vO PassesOwn.never (PW.pt (KA (nP Qg (ly q (pv 0) gF (λ_ _=>rfl)) b7 (a8 _)) (FH (nP FX (kB rL (by rfl) T.gI PySem.boot_len (bh (ly q (pv 0) gF (λ_ _=>rfl)) dC)) b7 (a8 _)))))
 (jC (zt q (pv 0) gF (Lb PySem.F.plainAttrs_list PySem.F.slot_list_pop PySem.F.type_list_pop Lk (ly q (pv 0) gF (λ_ _=>rfl))) U)))
 (dB (lj (i:=2) vb.nd U (Or.inl U) (ly q (pv 0) gF (λ_ _=>rfl)))
 (dB (FK (nP FX (pv 2) b7 (a8 _))
 (dB (zt q (pv 0) gF (fh Ld (pv 2) (pv 1)) U)
 (jC (pj (fh lz (pv 2) (pv 1)))))
 FJ)
 (dB (lj (i:=3) vb.nd U (Or.inl U) (fh lz (fh sR (fh pB (ly q (pv 0) gF (λ_ _=>rfl)) b7) b7) b7))
 (dB (zt q (pv 0) gF (fh lz (fh sR (fh pB (pv 3) b7) b7) b7) U)
 (dB (lj (i:=4) vb.nd U (Or.inl U) (fh lz (fh pB (ly q (pv 0) gF (λ_ _=>rfl)) (ly q (pv 0) gF (λ_ _=>rfl))) b7))
 (jC (pj (fh lz (fh sR (fh pB (fh lz (fh pB (pv 3) (pv 3)) b7) b7) (pv 4)) (pv 1))))))))))),?_)
  refine G8 (λc σ H1=>∃s n ls,σ=[Z (.ref d),Z (.int m),Y,Y,Y]/\fq H1 d l s n ls/\Kp d l H H1/\c=ls.length) (s0,n0,au,U,D0,Kp.refl,U) ?_ ?_
  ·rintro c σ H1 ⟨s1,n1,ls,rfl,D,K1,rfl⟩
   refine(_,U,d,_,U,D.W2,?_);refine(_,U,_,_,U,U,_,U,?_);refine a7 (λh1=>?_) (λh1=>?_)
   ·have h1:0<n1:=of_decide_eq_true h1;have q0:0<=n1 / m:=Int.ediv_nonneg (by lia) (by lia)
    refine(_,U,_,U,_,_,U,U,(m0,m1),_,U,d,_,U,D.V1,?_);refine(_,U,_,U,_,_,U,U,m0,?_);exact k _ _ (mod_lt m0).1 (mod_lt m0).2 (_,_,_,D.num q0) K1.Rg
   ·have b1:=mod_lt (x:=s1*48271+7919) (m:=2147483647) (by decide)
    refine(_,U,d,_,U,D.LP,_,_,U,U,.inr (by decide,by decide),_,_,U,U,_,_,U,U,(by show(0:Int)<2147483647;decide),?_)
    have b2:=mod_lt (x:=(s1*48271+7919) % 2147483647*40692+104729) (m:=2147483399) (by decide)
    refine(_,U,_,_,U,U,.inr (by decide,by decide),_,_,U,U,_,_,U,U,(by show(0:Int)<2147483399;decide),_,U,d,_,U,D.VY,?_)
    have z:=D.XJ (m:=((s1*48271+7919) % 2147483647*40692+104729) % 2147483399) b2.1 (by lia)
    refine(_,U,d,_,U,z.LP,_,U,d,_,U,z.LP,_,_,U,U,.inl (by lia,by lia),_,_,U,U,(by show(0:Int)<2147483563;decide),?_)
    have b4:=mod_lt (x:=(s1*48271+7919) % 2147483647*((s1*48271+7919) % 2147483647)) (m:=2147483629) (by decide)
    refine(_,U,_,U,_,_,U,U,.inl (by lia,by lia),_,_,U,U,(by show(0:Int)<2147483629;decide),_,_,U,U,.inr (by decide,by decide),_,U,_,_,U,U,_,U,_,_,U,U,m0,?_)
    exact k _ _ (mod_lt m0).1 (mod_lt m0).2 (_,_,_,z) K1.Rg
  ·rintro c σ H1 ⟨s1,n1,ls,rfl,D,K1,rfl⟩ hx
   refine(_,U,d,_,U,D.W2,U,_,U,?_);refine a7 (λh1=>?_) (λh1=>hx)
   refine(_,U,d,_,U,D.QN,l,_,U,.inl (SqL.of D.hl),_,_,U,U,_,U,?_);refine a7 (λh2=>?_) (λh2=>hx)
   have h2:(0:Int)<((ls.map V.int).length:Int):=of_decide_eq_true h2;obtain rfl |⟨ls',x,rfl⟩:=List.eq_nil_or_concat ls
   ·simp at h2
   ·have ak:H1 l=Z (.lst (ls'.map V.int++[.int x])):=by simpa using D.hl
    refine(λah H'=>∃s n g,ah=[Z (.ref d),Z (.int m),Y,Y,Y]/\fq H' d l s n g/\Kp d l H H'/\g.length<(ls' ++ [x]).length,λah H' (s2,n2,g,e,z,K2,h)=>(g.length,by simpa using h,s2,n2,g,e,z,K2,U),?_)
    have x0:0<=x:=D.l0 x (by simp)
    have z:=D.list (ls':=ls') λy hy=>D.l0 y (by simp[hy])
    refine(_,U,d,_,U,D.QN,.inl (U,_,SqL.of ak),l,_,.int x,U,U,ak,(by simp),?_)
    rw[aa3];refine(_,U,d,_,U,z.V1,?_);exact(_,_,ls',U,z.num x0,(K1.Xx).Rg,by simp)
theorem OQ(T:Txt K mg a):aV P w K mg base CX0 1 a.Aa a.Mp [Tm,Su] (RB K):=by
 refine T.AG.F.ok qm (λvs H Q E h=>?_) (λcdv A outer s H vs Q E hr h=>?_)
 ·let(a,ns,b,U,_):=h;rfl
 ·let(p0,ns,b,U,hS,hlen,b0,b1,k):=h;have hu:=cj hr;refine(_,((dB (FL (i:=2) qm.nd U (Or.inl U) U (vg (Bj Fj (pv 0) (zu (pv 1)) (zu b7))) (N':=[T0]) (.own U .nil) (λ_ _ _ _ _=>((qL (i:=0) (show([T0]:List Str).Nodup from by decide +kernel) U (Or.inl U)),FI,(kB (IL U) (by rfl) T.Xd (by kernel_rfl) (bh (pv 0) (bh (fh Lc b7 (pv 0)) dC))))))
 (dB (lj (i:=3) qm.nd U (Or.inl U) (fh sR b7 (pv 1)))
 (dB (DQ PassesOwn.never U (vg (pv 2)) (qL (i:=4) qm.nd U (Or.inl U))
 (jC (lj (i:=3) qm.nd U (Or.inl U) (fh lz (fh sR (fh pB (pv 3) b7) (fh lz (pv 4) b7)) b7))))
 (jC (pj (OB (vQ gF (pv 3) (vQ gF b7 (vQ gF (DV U U T.tO U T.w5 (FU U (vg (pv 2)) (N':=[T0]) (.own U .nil) (λ_ _ _ _ _=>((qL (i:=0) (show([T0]:List Str).Nodup from by decide +kernel) U (Or.inl U)),(N7 (nP Qf (pv 0) (fh SX b7 b7) (a8 _))),(pv 0))))) Ov))) U U (by intro z;cases z) (by decide)))))))),?_)
  let(cs,aL,lcs):=Ms ns (Z b) (Z 63);refine(_,U,_,U,_,U,_,U,p0,_,U,hS,λp hp=>(p,U,(_,SqL.of aC),?_))
  rw[aL];have s1:pS H (upd H p (.lst (cs.map V.int))):=(pS.refl H).new hp;refine yt (K:=K) (a:=p) (xs:=cs.map V.int) (λi ys g H'=>∃zs:List Int,ys=zs.map V.int/\(∀z∈zs,0<=z)/\zs.length=i/\(∃o,g=[o])/\H'=upd H p (.lst (cs.map V.int))) ([],U,by simp,U,(_,U),U) ?_ ?_ ?_
  ·rintro i ys g H' hi ⟨zs,rfl,_,hz,_,rfl⟩
   refine(SqL.of aC,?_);rw[gV]at hi ⊢;exact bo (by lia)
  ·rintro i x ys g H' hi ⟨zs,rfl,z0,hz,⟨o,rfl⟩,rfl⟩
   let(c,U):=int_at hi;refine Pc ?_;refine(_,U,_,U,_,_,U,U,_,_,U,?_);refine(zs++[if 0-c > c then 0-c else c],by simp,?_,by simp[hz],(_,U),U)
   intro z ah;obtain h|h:=mu.mp ah
   ·exact z0 z h
   ·rw[aB.mp h]
    split <;> lia
  ·rintro ys g H' ⟨zs,rfl,z0,hz,_,rfl⟩ D hD
   have s2:pS H (upd (upd H p (.lst (cs.map V.int))) D (.lst (zs.map V.int))):=s1.new hD;have ak:(upd (upd H p (.lst (cs.map V.int))) D (.lst (zs.map V.int))) D=Z (.lst (zs.map V.int)):=aC
   generalize upd (upd H p (.lst (cs.map V.int))) D (.lst (zs.map V.int))=H2 at s2 ak ⊢
   refine(_,U,_,_,U,U,?_);refine(_,U,D,U,(_,SqL.of ak),LV (K:=K) (a:=D) (xs:=zs.map V.int) (λi g H'=>∃(n:Int)(o:Option V),g=[Z (.ref p0),Z (.int b),Z (.ref D),Z (.int n),o]/\0<=n/\n<2147483647/\H2=H')
    (_,_,U,by lia,by lia,U) (λi g H' _ (_,_,_,_,_,e)=>by rw[<- e];exact SqL.of ak) ?_ ?_)
   ·rintro i y g H' hi ⟨n,o,rfl,n0,n1,rfl⟩
    let(z,U):=int_at hi;refine(_,U,_,_,U,U,.inr (by decide,by decide),_,U,_,_,U,U,(by show(0:Int)<2147483629;decide),_,_,U,U,_,_,U,U,(by show(0:Int)<2147483647;decide),?_)
    exact(_,_,U,(mod_lt (by decide)).1,(mod_lt (by decide)).2,U)
   ·rintro g H' ⟨n,o,rfl,n0,aH,rfl⟩
    intro pd au;have Uh:(upd H2 pd (.dK [])) D=Z (.lst (zs.map V.int)):=by rw[ax (aZ ak au)];exact ak
    have s3:pS H (upd H2 pd (.dK [])):=s2.new au;have Ug:(upd H2 pd (.dK [])) pd=Z (.dK []):=aC;have aD:H pd=none:=s2.free au
    generalize upd H2 pd (.dK [])=H3 at Uh s3 Ug ⊢
    refine(_,U,_,U,D,U,(_,SqL.of Uh),yt (K:=K) (a:=D) (xs:=zs.map V.int) (λi ys g H'=>∃ws:List Int,ys=ws.map V.int/\(∀z∈ws,0<=z)/\ws.length<=i/\(∃o,g=[o])/\H3=H') ([],U,by simp,oa _,(_,U),U) ?_ ?_ ?_)
    ·rintro i ys g H' hi ⟨ws,rfl,_,ah,_,rfl⟩
     refine(SqL.of Uh,?_);rw[gV]at hi ⊢;rw[gV]at hz;exact bo (by lia)
    ·rintro i x ys g H' hi ⟨ws,rfl,w0,ah,⟨o,rfl⟩,rfl⟩
     let(c,U,hc):=O7 hi;refine(_,U,_,_,U,U,(by decide,by decide,by decide),_,_,U,U,_,U,?_)
     refine a7 (λh1=>?_) (λh1=>?_)
     ·refine(_,U,ws++[c],by simp,?_,by simp;lia,(_,U),U)
      intro z ah;obtain h|h:=mu.mp ah
      ·exact w0 z h
      ·rw[aB.mp h];exact z0 c hc
     ·exact(ws,U,w0,by lia,(_,U),U)
    ·rintro ys g H' ⟨ws,rfl,w0,ah,_,rfl⟩ D2 aw
     refine(D2,_,U,SqL.of aC,λq hq=>?_)
     have n1:pd≠D2:=aZ Ug aw;have e1:(upd H3 D2 (.lst (ws.map V.int))) pd=Z (.dK []):=by rw[ax n1];exact Ug
     have n2:pd≠q:=aZ e1 hq;have s4:pS H (upd (upd H3 D2 (.lst (ws.map V.int))) q (.lst ((ws.map V.int).reverse))):=(s3.new aw).new hq;refine(by rw[ax n2];exact e1,[(.inr "seed",.int n),(.inr "number",.int 0),(.inr "left",.ref q)],U,(by show 3<=15;decide),?_)
     rw[show sZ [] [((.inr "seed":Key),V.int n),(.inr "number",.int 0),(.inr "left",.ref q)]=dk n 0 q from by kernel_rfl]
     refine k pd q _ aD ((s3.new aw).free hq) (n,0,ws.reverse,aC,?_,n0,aH,Zi _,?_) ?_
     ·rw[ax n2.symm,aC,List.map_reverse]
     ·intro x hx;exact w0 x (by simpa using hx)
     ·intro c o hc
      have:c≠pd:=aZ hc aD
      rw[ax this];exact s4 c o hc
theorem ip(T:Txt K mg a):aV P w K mg base CX0 1 a.gi a.tG [We,"row"] (AX a.aX ["row"]):=by
 refine Fun.ok T.n8 Ds (λvs H Q E h=>?_) λcdv A outer s H vs Q E hr h=>?_
 ·let(b,ys,U,hl,_):=h;simp[hl]
 ·refine(_,jC (N8 (fn:=fns) (pv 0) (pv 1)),?_);let(b,ys,U,hl,g,k):=h;let(y,U):=List.length_eq_one_iff.mp hl;exact(y,U,.ref b,U,b,a.aX,O,_,_,U,T.cV,zO,Ez,.inl (g,λd hd ne=>k d hd ne))
theorem lM{α:Type}(f:α->Bool):∀xs:List α,bls (xs.map λx=>L2.T.b (f x))=Z (xs.map f)
 |[]=>rfl
 |x::r=>by show(bls (r.map λx=>L2.T.b (f x))).map (f x :: ·)=_;rw[lM f r];rfl
theorem EI{z:L2.T}(h:(chT x)[i]?=Z z):∃c,x.cps.toList[i]?=Z c/\z=.s ⟨#[c]⟩:=by
 unfold chT at h;rw[tW]at h;let(c,h1,U):=kg.mp h;exact(c,h1,U)
theorem n6:(chT x).length=x.length:=by unfold chT;rw[gV];rfl
theorem BB(T:Txt K mg a):aV P w K mg base CX0 1 a.vp a.Gz ["text","signs","longest"] (spQ K Sz):=by
 refine T.AF.F.okQ JT (λts Q h=>?_) (λ_ _ _ _ _ _ hr=>?_)
 ·let(_,_,_,U,_):=h;rfl
 ·have hu:=cj hr;refine(_,_,((ay (aN (sL (ZB (Kq Qe (mF (g':=λi j=>.b (decide (i<=j))) λ_ _ _ _=>.b _) Qe (mF (g':=λi j=>.b (decide (i<=j))) λ_ _ _ _=>.b _) ao (ZB (dY T.gI (ae (qv 0) az))) (qv 2))) (pf (gU (tL U U) zc (by rfl) T.MB (by kernel_rfl) (ae (ZB (lh U (DJ (qv 0)) (N':=["sign","signs"]) (.own U (.got (i:=1) U U (.inl U) .nil)) (j8 (g:=(Tg.nm 0)) (λ_ _ _ _ _=>((uN 0),(cS (pC U) jU U (qv 0) (qv 1))))))) az))))))),λts Q h=>?_)
  let(x,signs,n,U,hx,q):=h;have V:x.length<=ot:=wh (aM (by lia))
  unfold ofB at q;refine(V,a7 (λh1=>?_) (λh1=>?_))
  ·rw[h1,Y3]at q;refine a7 (λh2=>?_) (λh2=>?_)
   ·rw[h2,Y3]at q;refine(by rw[n6];exact aM (by lia),λi ys=>ys=(x.cps.toList.take i).map λc=>.b (sgn signs c),U,λi z ys hz e=>?_,λys e=>?_)
    ·let(c,hc,U):=EI hz;subst e;refine(_,U,?_);show _++[L2.T.b (sgn signs c)]=_;rw[Jc,hc];simp
    ·subst e;rw[n6,show x.length=x.cps.toList.length from U,Fs];exact(_,lM _ _,by rw[ZL];exact q)
   ·rw[EX.mpr h2,aa2]at q;exact q
  ·rw[EX.mpr h1,aa2]at q;exact q
theorem D5(T:Txt K mg a):aV P w K mg base CX0 2 a.nY a.yq ["text"] (spQ K KP):=by
 refine T.yL.F.okQ Dt (λts Q h=>?_) (λ_ _ _ _ _ _ hr=>?_)
 ·let(_,U,_):=h;rfl
 ·refine(_,_,((ay (aN (sL (ZB (aS (BB T) hr T.AF (ae (qv 0) (ae (ZB (Bc U T.IT)) (ae (ZB (Be U T.wZ)) az))))) (pf (cS (sQ U) jU U (qv 0) (ZB (Ko U T.Ag T.zo)))))))),λts Q h=>?_)
  let(x,U,hx,g):=h;refine(x,_,_,U,hx,?_);unfold ar at g;refine a7 (λh=>?_) (λh=>?_)
  ·rw[show ofB x fN 8=O from h]at g;exact g
  ·rw[show ofB x fN 8=ϊ from EX.mpr h]at g;exact g
theorem BD(T:Txt K mg a):aV P w K mg base CX0 2 a.lJ a.wQ ["text"] (spQ K yc):=by
 refine T.xh.F.okQ A4 (λts Q h=>?_) (λ_ _ _ _ _ _ hr=>?_)
 ·let(_,U,_):=h;rfl
 ·refine(_,_,((ay (aN (sL (ZB (aS (BB T) hr T.AF (ae (qv 0) (ae (ZB (Bc U T.IU)) (ae (ZB (Be U T.uR)) az))))) (pf (cS gW dU (a8 _) (bQ (qv 0) ao) (ZB aj))))))),λts Q h=>?_)
  let(x,U,hx,g):=h;refine(x,_,_,U,hx,?_);unfold dH at g;refine a7 (λh=>?_) (λh=>?_)
  ·rw[h]at g;have h1:=by unfold ofB at h;simp only[ti]at h;exact h.1
   obtain⟨c,r,e⟩:∃c r,x.cps.toList=c::r:=by
    cases e:x.cps.toList with
    |nil=>have:x.length=0:=congrArg YH e;lia
    |cons c r=>exact(c,r,U)
   rw[e]at g;refine(wh (aM (by lia)),c,by rw[e];exact jN U,U,?_)
   have q:(decide ((L2.T.s ⟨#[c]⟩).v=(L2.T.s "0").v))=decide ((c::r).head?=Z 48):=decide_eq_decide.mpr (λh=>by
    have:=V.str.inj h
    cases this;rfl,λh=>by cases h;rfl)
   rw[<- q]at g;exact g
  ·rw[EX.mpr h]at g;exact g
theorem sU(T:Txt K mg a):aV P w K mg base CX0 1 a.cT a.iV [We,"row","number"] (spL K 0 (Hz a.au)):=by
 refine T.gy.okL sD (λts Q h=>?_) (λ_ _ _ _ _ _ hr=>?_) λts Q h=>?_
 ·let(_,_,_,U,_):=h;rfl
 ·refine(_,_,((ai (nM T.aw T.gX (aQ (j:=0)) (gH (qv 1) (ZB aj)))
 (ai (nM T.aw T.bG (aQ (j:=0)) (XL (qv 2)))
 (ay (nM T.aw T.fi (aQ (j:=0)) bR))))),λts Q t0 z h g ha=>?_)
  let(x,row,n,U,hl,q):=h;cases g;cases ha;refine(by decide,aM (by lia),U,by decide,_,U,?_)
  refine(U,U,by decide,_,U,(U,by decide,_,U,?_))
  exact(_,U,U,q _ (.mk _ 0 U (u4 (split_len _ _) (by lia)) λw hw=>u4 (split_le hw) (by lia)))
 ·let(x,row,n,U,_):=h;exact(_,_,U,U)
theorem cZ(T:Txt K mg a):aV P w K mg base CX0 1 a.cu a.gf [We] (spQ K (Sy a.au)):=by
 refine T.dw.okQ mI (λts Q h=>?_) (λ_ _ _ _ _ _ hr=>?_)
 ·let(_,_,_,_,U,_):=h;rfl
 ·refine(_,_,((ay (aN (cS Qd (mF λ_ _ _ _=>.b _) (a8 _) (la T.aw T.fi (qv 0)) (ZB (dY T.gI (ae (la T.aw T.gX (qv 0)) az))))))),λts Q h=>?_)
  let(x,n,l,t,U,hw,g):=h;cases hw with
  |mk ws p h1 h2 h3 =>
   have e:decide ((p)<((ws.map L2.T.s).length:Int)) = !l.isEmpty:=by
    rw[<- h1,gV];cases e:ws.drop p with
    |nil=>exact decide_eq_false (by have:=aa6.mp e;lia)
    |cons w r=>exact decide_eq_true (by have:=congrArg YH e;rw[xH,my]at this;lia)
   rw[<- e]at g;exact(U,_,U,U,_,U,g)
theorem cf(T:Txt K mg a):aV P w K mg base CX0 2 a.dF a.iB [We] (spQ K (Ou a.au)):=by
 refine T.fU.okQ qq (λts Q h=>?_) (λ_ _ _ _ _ _ hr=>?_)
 ·let(_,_,_,_,U,_):=h;rfl
 ·refine(_,_,((ay (aN (P2 (br (ZB (eT T.aw T.c3 (cZ T) hr.aY T.du (qv 0)))) (XL (bQ (la T.aw T.gX (qv 0)) (la T.aw T.fi (qv 0)))) aj)))),λts Q h=>?_)
  let(x,n,l,t,U,hw,q):=h;have g:=hw;cases hw with
  |mk ws p h1 h2 h3 =>
   refine(U,U,x,n,l,_,U,g,?_);cases l with
   |nil=>exact q
   |cons w r =>
    have e:=WV h1;exact(U,_,U,U,_,U,_,jN (by rw[tW,e];rfl),U,q)
theorem dD(T:Txt K mg a):aV P w K mg base CX0 3 a.eJ a.iU [We] (spL K 0 (Sr a.au)):=by
 refine T.gx.okL kr (λts Q h=>?_) (λ_ _ _ _ _ _ hr=>?_) λts Q h=>?_
 ·let(_,_,_,_,U,_):=h;rfl
 ·refine(_,_,((ai (aG 1 kr.nd (eT T.aw T.cg (cf T) hr.aY T.cF (fZ (aQ (j:=0)))))
 (ai (NS T.aw T.fi T8 (aQ (j:=0)) ao)
 (ay (fg (XL (qv 1))))))),λts Q t0 V h q ha=>?_)
  let(x,n,l,t,U,hw,z):=h;cases q;have g:=hw;cases hw with
  |mk ws p h1 h2 h3 =>
   cases ha;exact(U,U,_,n,l,_,U,g,(U,by decide,_,U,_,U,(U,_,U,U,z _ (.next h1 h2 h3))))
 ·let(x,n,l,t,U,hw,_):=h;exact(_,_,U,hw.adr)
theorem bJ(T:Txt K mg a):aV P w K mg base (CX1 P w) 4 a.cq a.gc [We,"due"] (spG K [0] [0] (V0 a.au a.aX)):=by
 refine T.dv.okG mH (λts Q W h=>?_) (by decide) (λ_ h=>h) (λ_ _ _ _ _ _ hr=>?_) λts Q W h=>?_
 ·let(due,_,_,_,_,_,U,_):=h;rfl
 ·refine(_,_,((aK (RP gW dU (a8 _) (vM (kA T.aw T.dE (dD T) hr.aY T.eM (aQ (j:=0)))) (qv 1)
 (aK (je U U T.cV T.jh T.jg (ip T) hr.aY U T.iy T.jj (ae (fZ (mS T.aw T.bG (aQ (j:=0)))) az)))
 (fL aP)))),λts Q W as h ha=>?_)
  let(due,hd,x,n,l,t,U,hw,hq,hx):=h;obtain rfl:=as1 ha hw.adr;have z:=hw;cases hw with
  |mk ws p h1 h2 h3 =>
   refine(U,U,U,x,n,l,_,U,z,λt' g=>(g.adr,U,_,U,?_))
   have q:=g;cases g with
   |mk V p2 g1 g2 g3 =>
    refine(U,a7 (λh=>?_) (λh=>?_))
    ·exact(U,_,U,U,U,(by show 1<=1000;decide),hx (if_neg (dQ h)))
    ·exact([_],(U,U,trivial),hq _ _ (if_pos (nh h)) _ q)
 ·let(due,_,x,n,l,t,U,hw,_):=h;exact([x],(_,U,hw.adr),trivial)
theorem bq(T:Txt K mg a):aV P w K mg base (CX1 P w) 4 a.b8 a.fF [We] (spG K [0] [0] (yb a.au a.aX [] uo)):=by
 refine T.c8.okG hW (λts Q W h=>?_) (by decide) (λ_ h=>h) (λ_ _ _ _ _ _ hr=>?_) λts Q W h=>?_
 ·let(_,_,_,_,U,_):=h;rfl
 ·refine(_,_,((aq (cX (i:=1) hW.nd (vM (kA T.aw T.dE (dD T) hr.aY T.eM (aQ (j:=0)))))
 (aq (gT (gE (br (ZB (aS (D5 T) hr T.yL (ae (qv 1) az)))))
 (aK (je U U T.cV T.jh T.jg (ip T) hr.aY U T.iy T.jj (ae (fZ (mS T.aw T.bG (aQ (j:=0)))) az)))
 (fL aP))
 (aK (bc (fg (XL (qv 1)))))))),λts Q W as h ha=>?_)
  let(x,n,l,t,U,hw,V,hx):=h;obtain rfl:=as1 ha hw.adr;have q:=hw;cases hw with
  |mk ws p h1 h2 h3 =>
   refine(U,U,U,x,n,l,_,U,q,λt' g=>(g.adr,U,_,U,?_))
   have z:=g;cases g with
   |mk ah p2 g1 g2 g3 =>
    refine(_,U,q.hd,?_);unfold uo at V hx;cases e:ar (hd l)with
    |false =>
     rw[e]at hx;exact(U,_,U,U,U,(by show 1<=1000;decide),hx U)
    |true =>
     rw[e]at V;exact(U,[_],(U,U,trivial),V _ _ U _ z)
 ·let(x,n,l,t,U,hw,_):=h;exact([x],(_,U,hw.adr),trivial)
theorem lA(T:Txt K mg a):aV P w K mg base (CX1 P w) 4 a.bU a.fb [We] (spG K [0] [0] (yb a.au a.aX [] tF)):=by
 refine T.cN.okG gS (λts Q W h=>?_) (by decide) (λ_ h=>h) (λ_ _ _ _ _ _ hr=>?_) λts Q W h=>?_
 ·let(_,_,_,_,U,_):=h;rfl
 ·refine(_,_,((aq (cX (i:=1) gS.nd (vM (kA T.aw T.dE (dD T) hr.aY T.eM (aQ (j:=0)))))
 (aq (gT (gE (br (ZB (aS (BD T) hr T.xh (ae (qv 1) az)))))
 (aK (je U U T.cV T.jh T.jg (ip T) hr.aY U T.iy T.jj (ae (fZ (mS T.aw T.bG (aQ (j:=0)))) az)))
 (fL aP))
 (aK (bc (fg (aU IS JK (by rfl) T.kL (by kernel_rfl) (ae (qv 1) az)))))))),λts Q W as h ha=>?_)
  let(x,n,l,t,U,hw,V,hx):=h;obtain rfl:=as1 ha hw.adr;have q:=hw;cases hw with
  |mk ws p h1 h2 h3 =>
   refine(U,U,U,x,n,l,_,U,q,λt' g=>(g.adr,U,_,U,?_))
   have z:=g;cases g with
   |mk ah p2 g1 g2 g3 =>
    refine(_,U,q.hd,?_);unfold tF at V hx;cases e:dH (hd l)with
    |false =>
     rw[e]at hx;exact(U,_,U,U,U,(by show 1<=1000;decide),hx U)
    |true =>
     rw[e]at V;have h7:=tI e;exact(_,yu e,by lia,[_],(U,U,trivial),V _ _ U _ z)
 ·let(x,n,l,t,U,hw,_):=h;exact([x],(_,U,hw.adr),trivial)
theorem pE(T:Txt K mg a):aV P w K mg base (CX1 P w) 4 a.c7 a.g9 [We] (spG K [0] [0] (yb a.au a.aX [] Pn)):=by
 refine T.fm.okG oX (λts Q W h=>?_) (by decide) (λ_ h=>h) (λ_ _ _ _ _ _ hr=>?_) λts Q W h=>?_
 ·let(_,_,_,_,U,_):=h;rfl
 ·refine(_,_,((aK (gT (br (ZB (eT T.aw T.c3 (cZ T) hr.aY T.du (fZ (aQ (j:=0))))))
 (aK (je U U T.cV T.jh T.jg (ip T) hr.aY U T.iy T.jj (ae (fZ (mS T.aw T.bG (aQ (j:=0)))) az)))
 (fL aP)))),λts Q W as h ha=>?_)
  let(x,n,l,t,U,hw,q,hx):=h;obtain rfl:=as1 ha hw.adr;have g:=hw;cases hw with
  |mk ws p h1 h2 h3 =>
   refine(U,U,x,n,l,_,U,g,?_);unfold Pn at q hx;cases e:l.isEmpty with
   |false =>
    rw[e]at hx;exact(U,_,U,U,U,(by show 1<=1000;decide),hx U)
   |true =>
    have z:=ZW.mp e;subst z;exact([_],(U,U,trivial),q _ _ U _ g)
 ·let(x,n,l,t,U,hw,_):=h;exact([x],(_,U,hw.adr),trivial)
theorem fX(T:Txt K mg a):aV P w K mg base (CX1 P w) 5 a.bD a.dh [We,"due"] (spG K [0] [0] (Oh a.au a.aX)):=by
 refine T.bY.okG fW (λts Q W h=>?_) (by decide) (λ_ h=>h) (λ_ _ _ _ _ _ hr=>?_) λts Q W h=>?_
 ·let(_,_,_,_,_,_,_,_,U,_):=h;rfl
 ·have hu:=cj hr;refine(_,_,((aq (bc (aG 2 fW.nd (aR aF)))
 (aq (jd PassesOwn.leaving (bO gW dU (a8 _) (ZB (eT T.aw T.cg (cf T) hr.aY T.cF (fZ (aQ (j:=0))))) (qv 1))
 (aK (jA (i:=2) (pv 2) (cH T.aw T.aL (bq T) hr.aY T.aO (aQ (j:=0))))))
 (aq (dA (gp T.aw T.a6 (bJ T) hr.aY T.a9 (aQ (j:=0)) (ae (qv 1) az)))
 (aK (bc (fg (aU (cD U) cA (by rfl) T.fR (by kernel_rfl) (ae (qv 2) az))))))))),λts Q W as h ha=>?_)
  let(due,dn,db,dl,x,n,l,t,U,hw,hq,hx):=h;obtain rfl:=as1 ha hw.adr;have hl:=hw.len;refine(λc q=>Q4 λ(L l':List Str)(t':L2.T)(NN:List L2.T)=>q=[.o t',.r (.s due),.o (.l NN)]/\NN=L.map .s/\Rw a.au x n l' t'/\c=l'.length/\(fNames due l=(fNames due l').map λz=>(L++z.1,z.2))/\L.length+l'.length<=l.length,(_,[],l,t,_,U,U,hw,U,by cases fNames due l <;> rfl,by simp),?_)
  rintro c q ⟨L,l',t',NN,rfl,rfl,hw,rfl,hf,hn⟩
  have V:=hw;cases hw with
  |mk ws p h1 h2 h3 =>
   refine(U,U,x,n,l',_,U,V,?_);refine(U,a7 (λh=>?_) (λh=>?_))
   ·have h:=dQ h;refine(λq'=>∃(L l2:List Str)(t':L2.T)(NN:List L2.T),q'=[.o t',.r (.s due),.o (.l NN)]/\NN=L.map .s/\Rw a.au x n l2 t'/\l2.length<l'.length/\(fNames due l=(fNames due l2).map λz=>(L++z.1,z.2))/\L.length+l2.length<=l.length,?_,?_)
    ·rintro q' ⟨L,l2,t',NN,rfl,rfl,g1,g2,g3,g4⟩
     exact(_,g2,L,l2,t',_,U,U,g1,U,g3,g4)
    ·refine((_,U),U,U,U,_,U,x,n,l',_,U,V,λr l2 e t2 g=>?_,λe=>hx ?_)
     ·cases l' with
      |nil=>cases e
      |cons w r =>
       unfold uo at e
       split at e
       ·rename_i hb;have hb:ar w=true:=hb;have h:w≠due:=h;cases e;refine(U,_,U,aM (by rw[gV];simp at hn;lia),L++[w],r,t2,_,U,by simp,g,by simp,?_,by simp at hn ⊢;lia)
        rw[hf,fNames,if_neg h,if_pos hb];cases fNames due r <;> simp
       ·cases e
     ·rw[hf];cases l' with
      |nil=>rfl
      |cons w r =>
       have h:w≠due:=h;unfold uo at e
       split at e
       ·cases e
       ·rename_i hb;have hb:¬ ar w=true:=hb;rw[fNames,if_neg h,if_neg hb];rfl
   ·have h:=nh h;cases l' with
    |nil=>exact absurd h.symm dn
    |cons w r =>
     have h:w=due:=h;refine(U,U,U,_,U,due,dl,x,n,w::r,_,U,V,λr1 l2 e t2 g=>?_,λe=>?_)
     ·unfold oo at e;rw[if_pos (show hd (w::r)=due from h)]at e;cases e;exact(U,aW L,[_],(U,g.adr,trivial),hq _ _ (by rw[hf,fNames,if_pos h];simp[tN]) _ g)
     ·unfold oo at e;rw[if_pos (show hd (w::r)=due from h)]at e;cases e
 ·let(due,_,_,_,x,n,l,t,U,hw,_):=h;exact([x],(_,U,hw.adr),trivial)
theorem mZ(T:Txt K mg a):aV P w K mg base CX0 1 a.iG a.oJ ["heads","body"] (spQ K Oa):=by
 refine T.gn.F.okQ jm (λts Q h=>?_) (λ_ _ _ _ _ _ hr=>?_)
 ·let(_,_,U,_):=h;rfl
 ·refine(_,_,((ai (j7 (g:=(Tg.nm 2)) PassesOwn.never U (RU U T.w5 (pv 0)) (j9 2 jm.nd)
 (ay (aG 1 jm.nd (ag (qv 2) (ZB (b6 (af (XL (qv 1)) aF)))))))
 (ay (aN (XL (qv 1)))))),λts Q h=>?_)
  let(hts,b,U,hi,hb,hl,hq):=h;have len:∀i,((hts.map L2.T.t).reverse)[i]?=hts.reverse[i]?.map L2.T.t:=λi=>by rw[<- List.map_reverse,tW]
  refine(λi q=>P3 λu o1 o2=>q=[.r (.l (hts.map .t)),o1,o2]/\(o1=.r u\/o1=.o u)/\u.im=O/\u=df (hts.reverse.take i).reverse b,(_,_,_,U,.inl U,hb,U),λi z q hz e=>?_,λq e=>?_)
  ·let(u,o1,o2,U,ho,V,ah):=e;rw[len]at hz;let(h,hh,U):=kg.mp hz;let(g1,g2):=hi h (List.mem_reverse.mp (Au hh));have e1:(hts.reverse.take (i+1)).reverse=h ::(hts.reverse.take i).reverse:=by rw[Jc,hh];simp
   refine(_,U,?_);have iu:L2.T.ims [u]=true:=by show(u.im&&O)=O;rw[V];rfl
   have ih:=by show L2.T.ims (h++[u])=O;rw[ju,g1,iu];rfl
   have hz:h.length + [u].length<=ot:=wh (aM (by simp;(first|lia|omega)))
   obtain rfl|rfl:=ho
   ·exact(V,hz,g1,iu,_,_,_,U,.inr U,ih,by rw[e1,ah];rfl)
   ·exact(V,hz,g1,iu,_,_,_,U,.inr U,ih,by rw[e1,ah];rfl)
  ·let(u,o1,o2,U,ho,V,ah):=e;rw[YJ,gV,<- YJ,Fs,List.reverse_reverse]at ah;subst ah;obtain rfl|rfl:=ho
   ·exact(V,hq)
   ·exact(V,hq)
theorem sV(T:Txt K mg a):aV P w K mg base (CX1 P w) 1 a.cU a.iW [We,"heads","looked"] (spG K [0] [0,1] (KO a.aD)):=by
 refine T.gA.okG sE (λts Q W h=>?_) (by decide) (λj h=>by simp at h;simp[h]) (λ_ _ _ _ _ _ hr=>?_) λts Q W h=>?_
 ·let(_,_,_,U,_):=h;rfl
 ·refine(_,_,((fL (ai (Kf (by decide) T.bB T.jE (aQ (j:=0)) (pv 1))
 (ai (nM T.bB T.jr (aQ (j:=0)) (XL (qv 2)))
 (ai (nM T.bB T.iw (aQ (j:=0)) (aR aF))
 (ay (nM T.bB T.fE (aQ (j:=0)) (b6 aF)))))))),λts Q W as h ha=>?_)
  let(x,hs,lk,U,g):=h;obtain rfl:=as1 ha U;exact(_,U,U,by decide,U,_,U,(U,U,by decide,_,U,(U,by decide,_,U,(U,by decide,_,U,(([_],(U,U,trivial),g))))))
 ·let(x,hs,lk,U,_):=h;exact([x],(_,U,U),trivial)
theorem lB(T:Txt K mg a):aV P w K mg base CX0 1 a.bV a.fc [We,"body"] (spL K 0 (Oe a.aD)):=by
 refine T.cO.okL kW (λts Q h=>?_) (λ_ _ _ _ _ _ hr=>?_) λts Q h=>?_
 ·let(_,_,_,_,_,_,U,_):=h;rfl
 ·refine(_,_,((ay (NU (mS T.bB T.iw (aQ (j:=0))) (ag (fZ (mS T.bB T.fE (aQ (j:=0)))) (ZB (b6 (af (XL (qv 1)) aF))))))),λts Q t0 V h q ha=>?_)
  let(x,hs,lk,arms,ah,b,U,hi,g,hl,z):=h;cases q;cases ha;refine(U,_,U,aM (by lia),U,_,U,g,?_)
  exact(wh (aM (by simp;lia)),hi,(by show(b.im&&O)=O;rw[g];rfl),_,U,_,U,U,z)
 ·let(x,hs,lk,arms,ah,b,U,_):=h;exact(_,_,U,U)
theorem ia(T:Txt K mg a):aV P w K mg base (CX1 P w) 6 a.b9 a.fG [We,"words"] (spG K [0,1] [0,1] (Og a.aD a.au a.aX)):=by
 refine T.c9.okG hX (λts Q W h=>?_) (by decide) (λ_ h=>h) (λ_ _ _ _ _ _ hr=>?_) λts Q W h=>?_
 ·let(_,_,_,_,_,_,_,_,_,U,_):=h;rfl
 ·refine(_,_,((aq (cX (i:=2) hX.nd (cH T.aw T.aL (bq T) hr.aY T.aO (aQ (j:=1))))
 (aK (NP T.bB T.fE (aQ (j:=0)) (mT (cP (hZ (qv 2)) (cP (gp T.aw T.fY (fX T) hr.aY T.gm (aQ (j:=1)) (ae (ZB aj) az)) cy))))))),λts Q W as h ha=>?_)
  let(x,hs,lk,arms,ah,y,n,l,t,U,hw,hq,hx):=h;obtain rfl:=as2 ha U hw.adr;have V:=hw;cases hw with
  |mk ws p h1 h2 h3 =>
   refine(U,U,U,_,U,y,n,l,_,U,V,λr l1 e t1 q=>?_,λe=>hx (if_neg (cp e)))
   have tm:=q;let(hb,U,U):=cn e;cases q with
   |mk ak p1 i1 i2 i3 =>
    refine(U,U,U,U,U,U,_,U,":",by decide,by decide +kernel,by decide,y,n,l.tail,_,U,tm,λr l2 z t2 g=>?_,λz=>hx ?_)
    ·let((ns,l3),e3,e4):=kg.mp z;cases e4;exact(aW ns,aW ns,wh (aM (by simp)),U,by decide,_,U,[_,_],(U,U,U,g.adr,trivial),hq _ _ (by unfold lL;rw[if_pos hb,e3];rfl) _ g)
    ·unfold lL;rw[if_pos hb];rw[WR]at z ⊢;exact z
 ·let(x,hs,lk,arms,ah,y,n,l,t,U,hw,_):=h;exact([x,y],(_,U,U),(_,U,hw.adr),trivial)
theorem qQ(T:Txt K mg a):aV P w K mg base CX0 2 a.dG a.iC [We] (spQ K (HB a.aD)):=by
 refine T.fV.okQ qw (λts Q h=>?_) (λ_ _ _ _ _ _ hr=>?_)
 ·let(_,_,_,_,_,U,_):=h;rfl
 ·refine(_,_,((ay (aN (aS (mZ T) hr T.gn (ae (la T.bB T.jE (qv 0)) (ae (ZB (b6 (af aj (af (XL (la T.bB T.jr (qv 0))) (af (aU (cD U) cA (by rfl) T.fR (by kernel_rfl) (ae (la T.bB T.iw (qv 0)) az)) aF))))) az)))))),λts Q h=>?_)
  let(x,hts,lk,arms,ah,U,ho,hi,hl,g):=h;refine(U,_,U,U,_,U,U,U,_,U,hi,hts,_,U,ho,?_,hl,g);show(O&&(O&&(L2.T.ims arms&&O)))=O;rw[hi];rfl
theorem xw(T:Txt K mg a):aV P w K mg base (CX1 P w) 5 a.i8 a.rC ["words"] (spG K [0] [0] (yb a.au a.aX [] λl=>(iA l).map tMk)):=by
 refine T.eB.F.okG jV (λts Q W h=>?_) (by decide) (λ_ h=>h) (λ_ _ _ _ _ _ hr=>?_) λts Q W h=>?_
 ·let(_,_,_,_,U,_):=h;rfl
 ·have hu:=cj hr;refine(_,_,((aq (cX (i:=1) jV.nd (cH T.aw T.aL (bq T) hr.aY T.aO (aQ (j:=0))))
 (aq (bc (aG 2 jV.nd (aR aF)))
 (aq (jd PassesOwn.leaving (QPW.pt (mQ (br (ZB (eT T.aw T.c3 (cZ T) hr.aY T.du (fZ (aQ (j:=0)))))) (k9 (bO gW dU (a8 _) (ZB (eT T.aw T.cg (cf T) hr.aY T.cF (fZ (aQ (j:=0))))) (ZB aj)))))
 (aK (jA (i:=2) (pv 2) (cH T.aw T.aL (bq T) hr.aY T.aO (aQ (j:=0))))))
 (aK (bc (fg (b6 (af (XL (qv 1)) (af (aU (cD U) cA (by rfl) T.fR (by kernel_rfl) (ae (qv 2) az)) aF)))))))))),λts Q W as h ha=>?_)
  let(x,n,l,t,U,hw,hq,hx):=h;obtain rfl:=as1 ha hw.adr;have g:=hw;cases hw with
  |mk ws p h1 h2 h3 =>
   refine(U,U,U,_,U,x,n,l,_,U,g,λr l1 e t1 ah=>?_,λe=>hx (by unfold iA;rw[if_neg (cp e)];rfl))
   let(hb,U,U):=cn e;have a0:=ah.len;refine(U,?_);refine(λc q=>Q4 λ(L l':List Str)(t':L2.T)(NN:List L2.T)=>q=[.o t',.o (.s (hd l)),.o (.l NN)]/\NN=L.map .s/\Rw a.au x n l' t'/\c=l'.length/\(bL l.tail=(bL l').map λz=>(L++z.1,z.2))/\L.length+l'.length<=l.tail.length,(_,[],l.tail,t1,_,U,U,ah,U,by cases bL l.tail <;> rfl,by simp),?_)
   rintro c q ⟨L,l',t',NN,rfl,rfl,hw,rfl,hf,hn⟩
   have g:=hw;have aD:bL l'=Z ([],l')->Q (.t [.s (hd l),.t (L.map .s)]) [t']:=λh=>hq _ _ (by
    unfold iA;rw[if_pos hb,hf,h];simp[tMk,tM]) _ hw
   cases hw with
   |mk ws p h1 h2 h3 =>
    cases l' with
    |nil =>
     refine(U,U,x,n,[],_,U,g,?_);exact(U,aW L,[_],(U,U,trivial),aD U)
    |cons w r =>
     refine(U,U,x,n,w::r,_,U,g,?_);refine(U,U,x,n,w::r,_,U,g,U,a7 (λh=>?_) (λh=>?_))
     ·have ak:w ≠ "|":=dQ h
      clear h;refine(λq'=>∃(L l2:List Str)(t':L2.T)(NN:List L2.T),q'=[.o t',.o (.s (hd l)),.o (.l NN)]/\NN=L.map .s/\Rw a.au x n l2 t'/\l2.length<(w::r).length/\(bL l.tail=(bL l2).map λz=>(L++z.1,z.2))/\L.length+l2.length<=l.tail.length,?_,?_)
      ·rintro q' ⟨L,l2,t',NN,rfl,rfl,g1,g2,g3,g4⟩
       exact(_,g2,L,l2,t',_,U,U,g1,U,g3,g4)
      ·refine((_,U),U,U,U,_,U,x,n,w::r,_,U,g,λr1 l2 e t2 aH=>?_,λe=>hx ?_)
       ·let(V,e1,e2):=cn e;have V:ar w=true:=V;subst e1;have e2:r=l2:=e2.symm;subst e2;have hn:L.length+(r.length+1)<=l.tail.length:=hn;refine(U,_,U,aM (by rw[gV];lia),L++[w],r,t2,_,U,by simp,aH,by simp,?_,by rw[qd];show L.length+1+r.length<=_;lia)
        rw[hf,bL,if_neg ak,if_pos V];cases bL r <;> simp
       ·have V:¬ ar w=true:=cp e;unfold iA;rw[if_pos hb,hf,bL,if_neg ak,if_neg V];rfl
     ·have h:w="|":=nh h
      exact(U,aW L,[_],(U,U,trivial),aD (by rw[bL,if_pos h]))
 ·let(x,n,l,t,U,hw,_):=h;exact([x],(_,U,hw.adr),trivial)
theorem zC(T:Txt K mg a):aV P w K mg base (CX1 P w) 6 a.jH a.uu ["words"] (spG K [0] [0] (yb a.au a.aX [] λl=>(i5 l).map tKd)):=by
 refine T.jO.F.okG kQ (λts Q W h=>?_) (by decide) (λ_ h=>h) (λ_ _ _ _ _ _ hr=>?_) λts Q W h=>?_
 ·let(_,_,_,_,U,_):=h;rfl
 ·have hu:=cj hr;refine(_,_,((aq (dA (gp T.aw T.a6 (bJ T) hr.aY T.a9 (aQ (j:=0)) (ae (ZB aj) az)))
 (aq (cX (i:=1) kQ.nd (cH T.aw T.aL (bq T) hr.aY T.aO (aQ (j:=0))))
 (aq (Kc (i:=2) kQ.nd (cP (jq (xw T) hr.aY U T.eB.m T.eB.F.kp T.eB.b (pv 0) cy) cy))
 (aq (jd PassesOwn.leaving (br (ZB (eT T.aw T.c3 (cZ T) hr.aY T.du (fZ (aQ (j:=0))))))
 (aq (dA (gp T.aw T.a6 (bJ T) hr.aY T.a9 (aQ (j:=0)) (ae (ZB aj) az)))
 (aK (jA (i:=2) (pv 2) (jq (xw T) hr.aY U T.eB.m T.eB.F.kp T.eB.b (pv 0) cy)))))
 (aK (bc (fg (b6 (af (XL (qv 1)) (af (aU (cD U) cA (by rfl) T.fR (by kernel_rfl) (ae (qv 2) az)) aF))))))))))),λts Q W as h ha=>?_)
  let(x,n,l,t,U,hw,hq,hx):=h;obtain rfl:=as1 ha hw.adr;have z:=hw;have kn:∀{l0:List Str},i5 l0=Y->(i5 l0).map tKd=none:=λe=>by rw[e];rfl
  cases hw with
  |mk ws p h1 h2 h3 =>
   refine(U,U,U,_,U,"kind",by decide,x,n,l,_,U,z,λr l1 e t1 aH=>?_,λe=>hx (kn (by unfold i5;rw[e])))
   let(hk,U,U):=cC e;have tm:=aH;cases aH with
   |mk ws p h1 h2 h3 =>
    refine(U,U,U,U,_,U,x,n,_,_,U,tm,λr l1 e2 t2 aD=>?_,λe2=>hx (kn (by unfold i5;rw[e];dsimp only;rw[if_neg (cp e2)])))
    let(hb,e3,e4):=cn e2;subst e3 e4;have zV:=aD;cases aD with
    |mk ws p h1 h2 h3 =>
     have kq:∀{L:List Mk1}{t':L2.T},bK (l.length+1) l.tail.tail=Z L->Rw a.au x n [] t'->Q (tK (hd l.tail,L)) [t']:=λ{L t'} h hw=>hq _ _ (by unfold i5;rw[e];dsimp only;rw[if_pos hb,h];rfl) _ hw
     have kx:bK (l.length+1) l.tail.tail=Y->W a.aX ["row"] [.i n]:=λh=>hx (by unfold i5;rw[e];dsimp only;rw[if_pos hb,h];rfl)
     have hl:=z.len;refine(U,(_,U),_,U,λ_=>(x,n,_,_,U,zV,λr l1 e5 t3 a5=>?_,λe5=>kx (by rw[WR]at e5;rw[bK,e5])))
     let((m,l2),e6,e7):=kg.mp e5;cases e7;have ln:=wI e6;rw[xv,xv]at ln;have e8:=uq (k:=l.length) e6;rw[e8]at kq kx;refine(BY m,BY m,wh (aM (by simp)),?_)
     refine(λc q=>Ea5 λ(L:List Mk1)(l':List Str)(t':L2.T)(NN:List L2.T)(k:Nat)=>q=[.o t',.o (.s (hd l.tail)),.o (.l NN)]/\NN=L.map tM/\Rw a.au x n l' t'/\c=l'.length/\wK l.length [m] l2=wK k L l'/\l'.length<=k/\L.length+l'.length<=l.length,(_,[m],l2,t3,_,l.length,U,U,a5,U,U,by lia,by simp;lia),?_)
     rintro c q ⟨L,l',t',NN,k,rfl,rfl,hw,rfl,hf,hk,hn⟩
     rw[hf]at kq kx;have z:=hw;cases hw with
     |mk ws p h1 h2 h3 =>
      refine(U,U,x,n,l',_,U,z,?_);cases em:l'.isEmpty with
      |true =>
       have el:l'=[]:=ZW.mp em;subst el;exact(U,fj BY L,[_],(U,U,trivial),kq U z)
      |false =>
       refine(λq'=>∃(L:List Mk1)(g:List Str)(t':L2.T)(NN:List L2.T)(k:Nat),q'=[.o t',.o (.s (hd l.tail)),.o (.l NN)]/\NN=L.map tM/\Rw a.au x n g t'/\g.length<l'.length/\wK l.length [m] l2=wK k L g/\g.length<=k/\L.length+g.length<=l.length,?_,?_)
       ·rintro q' ⟨L,g,t',NN,k,rfl,rfl,g1,g2,g3,g4,g5⟩
        exact(_,g2,L,g,t',_,k,U,U,g1,U,g3,g4,g5)
       ·obtain⟨w,r,rfl⟩:∃w r,l'=w::r:=by cases l' with|nil=>cases em|cons w r=>exact(w,r,rfl)
        have hn:L.length+(r.length+1)<=l.length:=hn;have hk:r.length+1<=k:=hk;obtain⟨k',rfl⟩:∃k',k=k'+1:=(k-1,by lia)
        refine(U,U,U,_,U,"|",by decide,x,n,w::r,_,U,z,λr1 l3 e9 t4 ak=>?_,λe9=>kx ?_)
        ·let(a0,bf,ah):=cC e9;have ah:r=l3:=ah.symm;subst bf ah;have Ue:=ak;cases ak with
         |mk ws p h1 h2 h3 =>
          refine(U,(_,U),(_,U),_,U,λ_=>(x,n,_,_,U,Ue,λr2 l4 V t5 a4=>?_,λV=>kx ?_))
          ·let((m',l5),a3,bb):=kg.mp V;cases bb;have bj:l5.length<r.length:=wI a3;refine(BY m',_,U,aM (by rw[gV];lia),L++[m'],l5,t5,_,k',U,by simp,a4,by show l5.length<r.length+1;lia,by rw[hf];exact Iy em a0 a3,by lia,by rw[qd];show L.length+1+l5.length<=_;lia)
          ·unfold wK;rw[WR]at V;rw[em,if_neg (by decide),if_pos a0,show(w::r).tail=r from U,bK,V]
           rfl
        ·unfold wK;rw[em,if_neg (by decide),if_neg (ji e9)]
 ·let(x,n,l,t,U,hw,_):=h;exact([x],(_,U,hw.adr),trivial)
theorem Bz(T:Txt K mg a):aV P w K mg base (CX1 P w) 6 a.lI a.wO ["words"] (spG K [0] [0] (yb a.au a.aX [] λl=>(lK l).map tH)):=by
 refine T.lQ.F.okG jz (λts Q W h=>?_) (by decide) (λ_ h=>h) (λ_ _ _ _ _ _ hr=>?_) λts Q W h=>?_
 ·let(_,_,_,_,U,_):=h;rfl
 ·have hu:=cj hr;refine(_,_,((aq (cX (i:=1) jz.nd (cH T.aw T.aL (bq T) hr.aY T.aO (aQ (j:=0))))
 (aq (cX (i:=2) jz.nd (vM (kA T.aw T.dE (dD T) hr.aY T.eM (aQ (j:=0)))))
 (aq (gT (QPW.pt (mQ (bO gW dU (a8 _) (qv 2) (ZB aj)) (mQ (bO gW dU (a8 _) (qv 2) (ZB aj)) (k9 (bO gW dU (a8 _) (qv 2) (ZB aj))))))
 (aK (je U U T.cV T.jh T.jg (ip T) hr.aY U T.iy T.jj (ae (fZ (mS T.aw T.bG (aQ (j:=0)))) az)))
 (fL aP))
 (aq (cX (i:=3) jz.nd (cH T.aw T.aL (bq T) hr.aY T.aO (aQ (j:=0))))
 (aq (gT (ff hu (qv 2) (ZB aj))
 (aq (dA (gp T.aw T.a6 (bJ T) hr.aY T.a9 (aQ (j:=0)) (ae (ZB aj) az)))
 (aK (bc (fg (b6 (af (XL (qv 2)) (af (XL (qv 1)) (af (XL (qv 3)) aF))))))))
 (fL aP))
 (aK (qz (mT (cP (hZ (qv 2)) (cP (hZ (qv 1)) (cP (hZ (qv 3)) (cP (gp T.aw T.fY (fX T) hr.aY T.gm (aQ (j:=0)) (ae (ZB aj) az)) cy))))))))))))),λts Q W as h ha=>?_)
  let(x,n,l,t,U,hw,hq,hx):=h;obtain rfl:=as1 ha hw.adr;have aH:=hw;have kn:∀{l0:List Str},lK l0=Y->(lK l0).map tH=none:=λe=>by rw[e];rfl
  cases hw with
  |mk ws p h1 h2 h3 =>
   refine(U,U,U,_,U,x,n,l,_,U,aH,λr l1 e t1 aD=>?_,λe=>hx (kn (by unfold lK;rw[if_neg (cp e)])))
   let(hb,e1,e2):=cn e;subst e1 e2;have tm:=aD;cases aD with
   |mk ws p h1 h2 h3 =>
    refine(U,U,U,U,x,n,_,_,U,tm,λt2 ah=>(ah.adr,U,_,U,?_))
    have zV:=ah;cases ah with
    |mk ws p h1 h2 h3 =>
     dsimp only;refine XE (w:=hd l.tail) ?_ ?_
     ·rfl
     by_cases hm:hd l.tail="make" \/ hd l.tail="call" \/ hd l.tail="name"
     ·rw[Wb hm];refine(U,U,U,_,U,x,n,_,_,U,zV,λr l3 e3 t3 ak=>?_,λe3=>hx (kn (by unfold lK;rw[if_pos hb,if_pos hm,if_neg (cp e3)])))
      let(q,e4,e5):=cn e3;subst e4 e5;have Ik:=ak;cases ak with
      |mk ws p h1 h2 h3 =>
       refine(U,U,a7 (λh=>?_) (λh=>?_))
       ·have h:hd l.tail="name":=V.str.inj (of_decide_eq_true h);refine(U,U,U,_,U,";",by decide,x,n,_,_,U,Ik,λr l4 e6 t4 g=>?_,λe6=>hx (kn ?_))
        ·let(_,e7,e8):=cC e6;subst e7;exact(U,U,U,U,[_],(U,g.adr,trivial),hq _ _ (by unfold lK;rw[if_pos hb,if_pos hm,if_pos q,if_pos h,e6];rfl) _ g)
        ·unfold lK;rw[if_pos hb,if_pos hm,if_pos q,if_pos h,e6];rfl
       ·have h:¬ hd l.tail="name":=λz=>h (by rw[z];exact decide_eq_true U)
        refine(U,U,U,U,U,U,U,U,U,_,U,";",by decide,by decide +kernel,by decide,x,n,_,_,U,Ik,λr l4 e6 t4 g=>?_,λe6=>hx (kn ?_))
        ·let((ns,l5),e7,e8):=kg.mp e6;cases e8;exact(aW ns,aW ns,wh (aM (by simp)),[_],(U,g.adr,trivial),hq _ _ (by unfold lK;rw[if_pos hb,if_pos hm,if_pos q,if_neg h,e7];rfl) _ g)
        ·rw[WR]at e6;unfold lK;rw[if_pos hb,if_pos hm,if_pos q,if_neg h,e6];rfl
     ·rw[Wa hm];exact(U,_,U,U,U,(by show 1<=1000;decide),hx (kn (by unfold lK;rw[if_pos hb,if_neg hm])))
 ·let(x,n,l,t,U,hw,_):=h;exact([x],(_,U,hw.adr),trivial)
theorem zD(T:Txt K mg a):aV P w K mg base (CX1 P w) 7 a.jI a.uv ["words","word"] (spG K [0] [0] (SA a.au a.aX)):=by
 refine T.jP.F.okG qi (λts Q W h=>?_) (by decide) (λ_ h=>h) (λ_ _ _ _ _ _ hr=>?_) λts Q W h=>?_
 ·let(_,_,_,_,_,_,U,_):=h;rfl
 ·have hu:=cj hr;refine(_,_,((aq (gT (ff hu (qv 1) (ZB aj))
 (aK (qz (jq (Bz T) hr.aY U T.lQ.m T.lQ.F.kp T.lQ.b (pv 0) cy)))
 (fL aP))
 (aq (gT (QPW.pt (mQ (bO gW dU (a8 _) (qv 1) (ZB aj)) (k9 (bO gW dU (a8 _) (qv 1) (ZB aj)))))
 (aK (je U U T.cV T.jh T.jg (ip T) hr.aY U T.iy T.jj (ae (fZ (mS T.aw T.bG (aQ (j:=0)))) az)))
 (fL aP))
 (aq (cX (i:=2) qi.nd (cH T.aw T.lD (lA T) hr.aY T.mn (aQ (j:=0))))
 (aq (dA (gp T.aw T.a6 (bJ T) hr.aY T.a9 (aQ (j:=0)) (ae (ZB aj) az)))
 (aK (bc (fg (b6 (af (XL (qv 1)) (af (XL (qv 2)) aF))))))))))),λts Q W as h ha=>?_)
  let(word,ak,x,n,l,t,U,hw,hq,hx):=h;obtain rfl:=as1 ha hw.adr;have ah:=hw;have kn:∀{l0:List Str},cQ word l0=Y->(cQ word l0).map tH=none:=λe=>by rw[e];rfl
  cases hw with
  |mk ws p h1 h2 h3 =>
   refine(U,a7 (λh=>?_) (λh=>?_))
   ·have h:word="let":=V.str.inj (of_decide_eq_true h)
    refine((_,U),_,U,λ_=>(x,n,l,_,U,ah,λr l1 e t1 g=>?_,λe=>hx ?_))
    ·let(z,e1,e2):=kg.mp e;cases e2;exact((Gr e1).1,[_],(U,g.adr,trivial),hq _ _ (by unfold cQ;rw[if_pos h,e1];rfl) _ g)
    ·unfold cQ;rw[if_pos h];exact e
   ·have h:¬ word="let":=λz=>h (by rw[z];exact decide_eq_true U)
    dsimp only[P6];refine XF (w:=word) ?_ ?_
    ·rfl
    by_cases hm:word="pay" \/ word="get"
    ·rw[Wd hm];refine(U,U,U,_,U,x,n,l,_,U,ah,λr l1 e t1 g=>?_,λe=>hx (kn (by unfold cQ;rw[if_neg h,if_pos hm,if_neg (Cf e)])))
     let(hb,e1,e2):=Ce e;subst e1 e2;have tm:=g;cases g with
     |mk ws p h1 h2 h3 =>
      refine(U,U,U,U,_,U,";",by decide,x,n,_,_,U,tm,λr l4 e6 t4 q=>?_,λe6=>hx (kn ?_))
      ·let(_,e7,e8):=cC e6;subst e7;exact(U,U,U,[_],(U,q.adr,trivial),hq _ _ (by unfold cQ;rw[if_neg h,if_pos hm,if_pos hb,e6];rfl) _ q)
      ·unfold cQ;rw[if_neg h,if_pos hm,if_pos hb,e6];rfl
    ·rw[Wc hm];exact(U,_,U,U,U,(by show 1<=1000;decide),hx (kn (by unfold cQ;rw[if_neg h,if_neg hm])))
 ·let(word,_,x,n,l,t,U,hw,_):=h;exact([x],(_,U,hw.adr),trivial)
theorem xy(T:Txt K mg a):aV P w K mg base (CX1 P w) 7 a.ja a.rE ["words","cases","body"] (spG K [0,1] [0,1] (Om a.aD a.au a.aX)):=by
 refine T.jc.F.okG oB (λts Q W h=>?_) (by decide) (λ_ h=>h) (λ_ _ _ _ _ _ hr=>?_) λts Q W h=>?_
 ·let(_,_,_,_,_,_,_,_,U,_):=h;rfl
 ·have hu:=cj hr;refine(_,_,((aq (jd PassesOwn.leaving (br (qvp 1))
 (aq (bc (Ke T.bB T.lE (lB T) hr.aY T.mq (Kg (n:=-1) (aQ (j:=1)) (FQ yZ b7) (λ_ _ _ h=>(1,U,h))) (ae (qv 2) az)))
 (aq (gT (ff hu (ZB (eT T.aw T.cg (cf T) hr.aY T.cF (fZ (aQ (j:=0))))) (ZB aj))
 (aq (dA (gp T.aw T.a6 (bJ T) hr.aY T.a9 (aQ (j:=0)) (ae (ZB aj) az)))
 (aq (dA (Bb (by decide) T.bB T.ib (ia T) hr.aY T.iO (Kg (n:=-1) (aQ (j:=1)) (FQ yZ b7) (λ_ _ _ h=>(1,U,h))) (pv 0)))
 (aK (bc (fg vN)))))
 (fL aP))
 (aq (dA (gp T.aw T.a6 (bJ T) hr.aY T.a9 (aQ (j:=0)) (ae (ZB aj) az)))
 (aK (cX (i:=2) oB.nd (NX (k:=1) T.bB T.qT (qQ T) hr.aY T.tP (pv 1))))))))
 (aK (bc (fg (XL (qv 2))))))),λts Q W as h ha=>?_)
  let(x,n,l,t,y,cs,xs,b,U,hw,ak,hok,hb,hl,hq,a5,hx):=h;obtain rfl:=as2 ha hw.adr U;refine(λc q=>Ea6 λ(cs':List Oc)(xs':List L2.T)(b':L2.T)(o2:Sl)(l':List Str)(t':L2.T)=>q=[.o t',.o (.lp y xs'),o2]/\(o2=.r b'\/o2=.o b')/\Rw a.au x n l' t'/\OcL a.aD cs' xs'/\(∀c∈cs',tR c)/\b'.im=O/\wts cs'+l'.length<=900000/\bu cs b l=bu cs' b' l'/\c=cs'.length,(_,cs,xs,b,_,l,t,U,.inl U,hw,ak,hok,hb,hl,U,U),?_)
  rintro c q ⟨cs',xs',b',o2,l',t',rfl,ho,hw,ak,hok,hb,hl,hf,rfl⟩
  rw[hf]at hq a5 hx;cases ak with
  |nil =>
   obtain rfl|rfl:=ho
   ·exact(hb,[_,_],(U,hw.adr,U,U,trivial),hq _ _ U _ hw)
   ·exact(hb,[_,_],(U,hw.adr,U,U,trivial),hq _ _ U _ hw)
  |@cons c cs' xs' x0 ak =>
   have ok:=hok c di;rw[kh]at hl;have bb:L2.T.ims [b']=true:=by show(b'.im&&O)=O;rw[hb];rfl
   refine a7 (λ_=>?_) (λz=>absurd (by simp) z)
   refine(λq=>∃(g:List Oc)(aH:List L2.T)(b2:L2.T)(o2:Sl)(l2:List Str)(t2:L2.T),q=[.o t2,.o (.lp y aH),o2]/\(o2=.r b2\/o2=.o b2)/\Rw a.au x n l2 t2/\OcL a.aD g aH/\(∀c∈g,tR c)/\b2.im=O/\wts g+l2.length<=900000/\bu cs b l=bu g b2 l2/\g.length<(c::cs').length,?_,?_)
   ·rintro q ⟨g,aH,b2,o2,l2,t2,rfl,g1,g2,g3,g4,g5,g6,g7,g8⟩
    exact(_,g8,g,aH,b2,o2,l2,t2,U,g1,g2,g3,g4,g5,g6,g7,U)
   refine(xs'.length,_,(nU _ _).1,(nU _ _).2,U,U,?_);have arg:∀{Q:List L2.T->Prop},Q [b']->FG (iT 2) N3 [.o t',.o (.lp y (xs' ++ [c.t a.aD x0])),o2] Q:=λz=>by
    obtain rfl|rfl:=ho
    ·exact z
    ·exact z
   refine arg (bb,x0,c.hts,c.lk,c.arms,c.ah,b',U,ok.i,hb,(by lia,ok.l),U,U,_,U,?_)
   rw[show(([]:Way)++[Sum.inr xs'.length])=[.inr xs'.length]from U,KD];have aL:=ok.fed hb;have a3:=hw;cases hw with
   |mk ws p h1 h2 h3 =>
    refine(U,U,x,n,l',_,U,a3,U,a7 (λh=>?_) (λh=>?_))
    ·have h:hd l'="|":=V.str.inj (of_decide_eq_true h)
     refine(U,U,U,_,U,"|",by decide,x,n,l',_,U,a3,λr l2 e t2 a0=>?_,λe=>absurd h (ji e))
     let(_,e1,e2):=cC e;subst e1 e2;have zV:=a0;cases a0 with
     |mk ws p h1 h2 h3 =>
      refine(U,xs'.length,_,(nU _ _).1,(nU _ _).2,U,U,_,U,_,U,λ_=>(x0,c.hts,c.lk,(c.fed b').arms,c.ah,x,n,_,_,U,zV,λah' l3 e3 t3 a4=>?_,λe3=>hx (by rw[bu,if_pos h,e3])))
      exact(U,[t3,.lp y (xs' ++ [oT a.aD x0 c.hts c.lk (c.fed b').arms ah'])],(U,a4.adr,congrArg (λz=>Z (Sl.o z)) KD,U,trivial),a5 _ _ (by rw[bu,if_pos h,e3]) _ _ a4 (.cons (c:={c.fed b' with ah:=ah'}) ak))
    ·have h:¬ hd l'="|":=λz=>h (by rw[z];exact decide_eq_true U)
     refine(U,U,U,_,U,"end",by decide,x,n,l',_,U,a3,λr l2 e t2 a0=>?_,λe=>hx (by rw[bu,if_neg h,if_neg (ji e)]))
     let(he,e1,e2):=cC e;subst e1 e2;refine(U,y,xs',x0,_,_,U,U,x0,c.hts,c.lk,(c.fed b').arms,c.ah,U,aL.h,aL.a,by lia,aL.whole,?_)
     exact(cs',xs',(c.fed b').whole,_,l'.tail,t2,U,.inr U,a0,ak,λc hc=>hok c (aJ _ hc),aL.whole,by rw[xv];lia,by rw[hf,bu,if_neg h,if_pos he],by simp)
 ·let(x,n,l,t,y,cs,xs,b,U,hw,_):=h;exact([x,y],(_,U,hw.adr),(_,U,U),trivial)
theorem zE(T:Txt K mg a):aV P w K mg base (CX1 P w) 8 a.jJ a.uw ["words"] (spG K [0] [0] (Oo a.au a.aX)):=by
 refine T.jQ.F.okG dX (λts Q W h=>?_) (by decide) (λ_ h=>h) (λ_ _ _ _ _ _ hr=>?_) λts Q W h=>?_
 ·let(_,_,_,_,U,_):=h;rfl
 ·have hu:=cj hr;refine(_,_,((aq (bc (aG 1 dX.nd (aR aF)))
 (aq (bc (aG 2 dX.nd (aR aF)))
 (aK (jd PassesOwn.leaving (br (ZB iM))
 (aq (cX (i:=3) dX.nd (vM (kA T.aw T.dE (dD T) hr.aY T.eM (aQ (j:=0)))))
 (aK (gT (ff hu (qv 3) (ZB aj))
 (aq (Hv (i:=2) (k:=1) (by decide) T.BH (sV T) hr.aY U T.BF T.uT (pv 1) (pv 2) (cP (cH T.aw T.aL (bq T) hr.aY T.aO (aQ (j:=0))) cy))
 (aq (dA (Bb (by decide) T.bB T.ib (ia T) hr.aY T.iO (Vx (n:=-1) (aQ (j:=1)) (FQ yZ b7) (λ_ _ _ h=>(1,U,h))) (pv 0)))
 (aK (bc (aG 2 dX.nd (aR aF))))))
 (aK (gT (ff hu (qv 3) (ZB aj))
 (aq (cX (i:=4) dX.nd (Kl (by decide) (xy T) hr.aY U T.jc.m T.jc.F.kp T.jc.b (pv 0) (pv 1) (cP (Hx (mZ T) hr.aY U T.gn.m T.gn.F.kp T.gn.b (pv 2) (cP (mT (cP (hZ (ZB aj)) (cP (cH T.aw T.aL (bq T) hr.aY T.aO (aQ (j:=0))) cy))) cy)) cy)))
 (aq (bc (bN (bO FW A0 (a8 _) (qv 4) (ZB vN))
 (ay (fg (XL (qv 4))))
 aP))
 (aK (bc (aG 2 dX.nd (aR aF))))))
 (aK (jA (i:=2) (pv 2) (jq (zD T) hr.aY U T.jP.m T.jP.F.kp T.jP.b (pv 0) (cP (hZ (qv 3)) cy)))))))))))))),λts Q W as h ha=>?_)
  let(x,n,l,t,U,hw,hl,hq,hx):=h;obtain rfl:=as1 ha hw.adr;refine(λc q=>Ea7 λ(cs:List Oc)(hts:List (List L2.T))(l':List Str)(t':L2.T)(xs:List L2.T)(o3 o4:Sl)=>q=[.o t',.o (.l xs),.o (.l (hts.map .t)),o3,o4]/\Rw a.au x n l' t'/\OcL a.aD cs xs/\(∀c∈cs,tR c)/\Jb hts/\wts cs+hts.length+l'.length<=900000/\(∀o,Run (cs,hts,l') o->Run ([],[],l) o)/\c=l'.length,(_,[],[],l,t,_,_,_,U,hw,.nil,(λ_ z=>nomatch z),(λ_ z=>nomatch z),by simpa [wts]using hl,λ_ h=>h,U),?_)
  rintro c q ⟨cs,hts,l',t',xs,o3,o4,rfl,hw,a6,hok,a5,hl,hf,rfl⟩
  have bb:=hw;cases hw with
  |mk ws p h1 h2 h3 =>
   have len0:∀{w:Str},hd l'=w->w ≠ ""->0<l'.length:=λ{w} h1 h2=>by
    cases l' with
    |nil=>exact absurd h1.symm h2
    |cons _ _=>exact Nat.succ_pos _
   refine(λq=>∃(ak:List Oc)(Il:List (List L2.T))(l2:List Str)(t2:L2.T)(a4:List L2.T)(o3 o4:Sl),q=[.o t2,.o (.l a4),.o (.l (Il.map .t)),o3,o4]/\Rw a.au x n l2 t2/\OcL a.aD ak a4/\(∀c∈ak,tR c)/\Jb Il/\wts ak+Il.length+l2.length<=900000/\(∀o,Run (ak,Il,l2) o->Run ([],[],l) o)/\l2.length<l'.length,?_,?_)
   ·rintro q ⟨ak,Il,l2,t2,a4,o3,o4,rfl,g1,g2,g3,g4,g5,g6,g7⟩
    exact(_,g7,ak,Il,l2,t2,a4,o3,o4,U,g1,g2,g3,g4,g5,g6,U)
   refine(U,U,U,x,n,l',_,U,bb,λt1 a9=>(a9.adr,U,_,U,?_))
   have bad:fu (cs,hts,l')=.bad->W a.aX ["row"] [.i n]:=λh=>hx (hf _ (.bad h))
   have tm:=a9;cases a9 with
   |mk ws p h1 h2 h3 =>
    refine(U,a7 (λh=>?_) (λh=>?_))
    ·have h:hd l'="case":=V.str.inj (of_decide_eq_true h)
     have l0:=len0 h (by decide)
     refine((_,U),(_,U),U,U,U,_,U,x,n,_,_,U,tm,λr l2 e t2 aH=>?_,λe=>bad (by unfold fu;rw[if_pos h,if_neg (cp e)]))
     let(hb,e1,e2):=cn e;subst e1 e2;refine(U,U,_,U,_,U,aM (by rw[a6.len];have:=Ge cs;lia),λx9=>(x9,hts,hd l'.tail,U,U,?_))
     have zV:=aH;cases aH with
     |mk ws p h1 h2 h3 =>
      refine(xs.length,_,(nU _ _).1,(nU _ _).2,U,U,_,U,_,U,λ_=>(x9,hts,hd l'.tail,[],[],x,n,_,_,U,zV,λah l3 e3 t3 a0=>(U,?_),λe3=>bad (by unfold fu;rw[if_pos h,if_pos hb,e3])))
      let(g1,g2,g3):=vq e3;simp only[xv]at g1;refine((hts,hd l'.tail,[],ah)::cs,[],l3,t3,xs++[oT a.aD x9 hts (hd l'.tail) [] ah],.o (.s (hd l')),o4,?_,a0,.cons a6,λc hc=>?_,(λ_ z=>nomatch z),?_,λo ho=>hf o (.on (by unfold fu;rw[if_pos h,if_pos hb,e3]) ho),by lia)
      ·show [Sl.o t3,Sl.o (L2.T.put _ [.inr xs.length] (.l (xs++[_]))),Sl.o (.l []),Sl.o (.s (hd l')),o4]=_;rw[Sg];rfl
      ·obtain z|z:=fx.mp hc
       ·rw[z];exact(a5,U,g2,g3)
       ·exact hok c z
      ·rw[kh];show 0+hts.length+1+wts cs+0+l3.length<=900000
       lia
    ·have hc:¬ hd l'="case":=λz=>h (by rw[z];exact decide_eq_true U)
     clear h;refine(U,a7 (λh=>?_) (λh=>?_))
     ·have h:hd l'="give":=V.str.inj (of_decide_eq_true h);have l0:=len0 h (by decide)
      refine((_,U),(_,U),(_,U),U,U,U,U,U,_,U,x,n,_,_,U,tm,λr l2 e t2 aH=>?_,λe=>bad (by unfold fu;rw[if_neg hc,if_pos h,if_neg (cp e)]))
      let(hb,e1,e2):=cn e;subst e1 e2;have a3:(df hts (.t [.s "give",.s (hd l'.tail)])).im=true:=AK a5 U;refine(U,U,wh (aM (by simp)),U,_,U,hts,_,U,a5,U,by lia,a3,a3,?_)
      let(zs,ez):=xY (hts:=hts) (ys:=[.s "give",.s (hd l'.tail)]);have zV:=aH;cases aH with
      |mk ws p h1 h2 h3 =>
       have wl:wts cs+l'.tail.tail.length<=900000:=by simp only[xv];lia
       refine(_,U,_,U,λa1 b1=>(x,n,_,_,b1,cs,xs,_,U,zV,a6,hok,a3,wl,λb' l3 e3 t3 a0=>?_,λak l3 e3 t3 bj a0 Yp=>?_,λe3=>bad (by unfold fu;rw[if_neg hc,if_pos h,if_pos hb,e3];rfl)))
       ·let(g1,g2):=wU e3 hok a3;have bf:=e3;rw[ez]at bf;let(ys,U):=wR bf;simp only[xv]at g2;have hr:=hf _ (.fin (by unfold fu;rw[if_neg hc,if_pos h,if_pos hb,e3];rfl))
        exact(g1,g1,[_],(U,a0.adr,trivial),hq _ _ hr g1 _ a0)
       ·let(g1,g2,g3):=yw e3 hok a3;simp only[xv]at g2 g3;exact(U,ak,[],l3,t3,bj,_,_,U,a0,Yp,g1,(λ_ z=>nomatch z),by show _+0+_<=_;lia,λo ho=>hf o (.on (by unfold fu;rw[if_neg hc,if_pos h,if_pos hb,e3];rfl) ho),by lia)
     ·have hg:¬ hd l'="give":=λz=>h (by rw[z];exact decide_eq_true U)
      clear h;refine((_,U),(_,U),U,U,_,U,λ_=>(hd l',bb.hd,x,n,l'.tail,_,U,tm,λr l2 e t2 aH=>?_,λe=>bad (by rw[WR]at e;unfold fu;rw[if_neg hc,if_neg hg,e])))
      let((g,l3),e1,e2):=kg.mp e;cases e2;let(g1,g2):=LY e1;let(g3,g4):=tE e1;have l0:=len0 U g3;simp only[xv]at g4;refine(g1,_,U,aM (by rw[gV];lia),cs,hts++[g],l3,t2,xs,.o (.s (hd l')),o4,by rw[uj];rfl,aH,a6,hok,λk hk=>?_,by rw[qd];show _+(_+1)+_<=_;lia,λo ho=>hf o (.on (by unfold fu;rw[if_neg hc,if_neg hg,e1]) ho),by lia)
      obtain z|z:=mu.mp hk
      ·exact a5 k z
      ·rw[aB.mp z];exact(g1,g2)
 ·let(x,n,l,t,U,hw,_):=h;exact([x],(_,U,hw.adr),trivial)
theorem sS(T:Txt K mg a):aV P w K mg base (CX1 P w) 9 a.gu a.lV ["words"] (spG K [0] [0] (SG a.au a.aX)):=by
 refine T.gB.F.okG cB (λts Q W h=>?_) (by decide) (λ_ h=>h) (λ_ _ _ _ _ _ hr=>?_) λts Q W h=>?_
 ·let(_,_,_,_,U,_):=h;rfl
 ·have hu:=cj hr;refine(_,_,((aq (dA (gp T.aw T.a6 (bJ T) hr.aY T.a9 (aQ (j:=0)) (ae (ZB aj) az)))
 (aq (cX (i:=1) cB.nd (cH T.aw T.aL (bq T) hr.aY T.aO (aQ (j:=0))))
 (aq (bc (aG 2 cB.nd (aR aF)))
 (aq (jd PassesOwn.leaving (bO gW dU (a8 _) (ZB (eT T.aw T.cg (cf T) hr.aY T.cF (fZ (aQ (j:=0))))) (ZB aj))
 (aq (cX (i:=3) cB.nd (cH T.aw T.aL (bq T) hr.aY T.aO (aQ (j:=0))))
 (aK (jA (i:=2) (pv 2) (mT (cP (hZ (qv 3)) (cP (cH T.aw T.aL (bq T) hr.aY T.aO (aQ (j:=0))) cy)))))))
 (aq (dA (gp T.aw T.a6 (bJ T) hr.aY T.a9 (aQ (j:=0)) (ae (ZB aj) az)))
 (aq (cX (i:=4) cB.nd (cH T.aw T.aL (bq T) hr.aY T.aO (aQ (j:=0))))
 (aq (dA (gp T.aw T.a6 (bJ T) hr.aY T.a9 (aQ (j:=0)) (ae (ZB aj) az)))
 (aq (cX (i:=5) cB.nd (jq (zE T) hr.aY U T.jQ.m T.jQ.F.kp T.jQ.b (pv 0) cy))
 (aq (dA (cH T.aw T.pI (pE T) hr.aY T.rM (aQ (j:=0))))
 (aK (bc (fg (b6 (af (XL (qv 1)) (af (aU (cD U) cA (by rfl) T.fR (by kernel_rfl) (ae (qv 2) az)) (af (XL (qv 4)) (af (XL (qv 5)) aF)))))))))))))))))),λts Q W as h ha=>?_)
  let(x,n,l,t,U,hw,hl,hq,hx):=h;obtain rfl:=as1 ha hw.adr;have bad:fHd l=Y->W a.aX ["row"] [.i n]:=λh=>hx (.Ct h)
  have ak:=hw;cases hw with
  |mk ws p h1 h2 h3 =>
   refine(U,U,U,_,U,"def",by decide,x,n,l,_,U,ak,λr l1 e t1 bf=>?_,λe=>bad (by unfold fHd;rw[if_neg (ji e)]))
   let(hk,e1,e2):=cC e;subst e1 e2;have tm:=bf;cases bf with
   |mk ws p h1 h2 h3 =>
    refine(U,U,U,U,_,U,x,n,_,_,U,tm,λr l1 e2 t2 bp=>?_,λe2=>bad (by unfold fHd;rw[if_pos hk,if_neg (cp e2)]))
    let(hb,e3,e4):=cn e2;subst e3 e4;refine(U,?_);refine(λc q=>Ea5 λ(L:List (Str×Str))(l':List Str)(t':L2.T)(NN:List L2.T)(o3:Sl)=>q=[.o t',.o (.s (hd l.tail)),.o (.l NN),o3,.no,.no]/\NN=(L.map λp=>.t [.s p.1,.s p.2])/\Rw a.au x n l' t'/\c=l'.length/\(fParams l.tail.tail=(fParams l').map λz=>(L++z.1,z.2))/\L.length+l'.length<=l.length,(_,[],l.tail.tail,t2,_,_,U,U,bp,U,by cases fParams l.tail.tail <;> rfl,by simp only[xv,ZF];lia),?_)
    rintro c q ⟨L,l',t',NN,o3,rfl,rfl,hw,rfl,hf,hn⟩
    have ak:=hw;cases hw with
    |mk ws p h1 h2 h3 =>
     refine(U,U,x,n,l',_,U,ak,U,a7 (λh=>?_) (λh=>?_))
     ·have h:=dQ h;have Xa:fParams l'=Y->W a.aX ["row"] [.i n]:=λe=>bad (by unfold fHd;rw[if_pos hk,if_pos hb,hf,e];rfl)
      refine(λq'=>∃(L:List (Str×Str))(l2:List Str)(t':L2.T)(NN:List L2.T)(o3:Sl),q'=[.o t',.o (.s (hd l.tail)),.o (.l NN),o3,.no,.no]/\NN=(L.map λp=>.t [.s p.1,.s p.2])/\Rw a.au x n l2 t'/\l2.length<l'.length/\(fParams l.tail.tail=(fParams l2).map λz=>(L++z.1,z.2))/\L.length+l2.length<=l.length,?_,?_)
      ·rintro q' ⟨L,l2,t',NN,o3,rfl,rfl,g1,g2,g3,g4⟩
       exact(_,g2,L,l2,t',_,o3,U,U,g1,U,g3,g4)
      ·refine(U,U,U,_,U,x,n,l',_,U,ak,λr l2 e t3 ah=>?_,λe=>Xa ?_)
       ·let(g,e5,V):=cn e;let(w1,l7,U):=qS g;have V:l7=l2:=V.symm;subst e5 V;have a0:w1 ≠ "to":=h;have WZ:ar w1=true:=g;have Ik:=ah;cases ah with
        |mk ws p h1 h2 h3 =>
         refine(U,(_,U),U,U,U,U,U,_,U,x,n,l7,_,U,Ik,λr l8 e t4 aD=>?_,λe=>Xa ?_)
         ·let(aH,e5,V):=cn e;let(w2,l9,U):=qS aH;have V:l9=l8:=V.symm;subst e5 V;have Ui:ar w2=true:=aH;have hn:L.length+(l9.length+2)<=l.length:=hn;refine(U,U,wh (aM (by simp)),_,U,aM (by rw[gV];lia),L++[(w1,w2)],l9,t4,_,_,U,by rw[uj];rfl,aD,by show l9.length<l9.length+1+1;lia,?_,by rw[qd];show L.length+1+l9.length<=_;lia)
          rw[hf,fParams,if_neg a0,if_pos WZ,if_pos Ui];cases fParams l9 <;> simp
         ·have aH:=cp e;cases l7 with
          |nil=>rw[fParams,if_neg a0]
          |cons w2 l9 =>
           have Ui:¬ ar w2=true:=aH;rw[fParams,if_neg a0,if_pos WZ,if_neg Ui]
       ·have g:=cp e
        match l',h,g with
        |[],_,_=>rfl
        |[w1],h,g =>
         have h:w1 ≠ "to":=h;rw[fParams,if_neg h]
        |w1::w2::l9,h,g =>
         have h:w1 ≠ "to":=h;have g:¬ ar w1=true:=g;rw[fParams,if_neg h,if_neg g]
     ·have h:=nh h;have e0:fParams l'=Z ([],l'.tail):=by
       match l',h with
       |[],h=>exact absurd h.symm (by decide)
       |[w1],h =>
        have h:w1="to":=h;rw[fParams,if_pos h];rfl
       |w1::w2::l9,h =>
        have h:w1="to":=h;rw[fParams,if_pos h];rfl
      have ef:fParams l.tail.tail=Z (L,l'.tail):=by rw[hf,e0];simp
      refine(U,U,U,_,U,"to",by decide,x,n,l',_,U,ak,λr l2 e t3 ah=>?_,λe=>absurd h (ji e))
      let(_,e5,V):=cC e;subst e5 V;have Ik:=ah;cases ah with
      |mk ws p h1 h2 h3 =>
       refine(U,U,U,U,_,U,x,n,_,_,U,Ik,λr l2 e t4 aD=>?_,λe=>bad (by unfold fHd;rw[if_pos hk,if_pos hb,ef];dsimp only;rw[if_neg (cp e)]))
       let(bj,e5,V):=cn e;subst e5 V;have Ue:=aD;cases aD with
       |mk ws p h1 h2 h3 =>
        refine(U,U,U,U,_,U,":",by decide,x,n,_,_,U,Ue,λr l2 e t5 bb=>?_,λe=>bad (by unfold fHd;rw[if_pos hk,if_pos hb,ef];dsimp only;rw[if_pos bj,if_neg (ji e)]))
        let(bt,e5,V):=cC e;subst e5 V;have eh:fHd l=Z ((hd l.tail,L,hd l'.tail),l'.tail.tail.tail):=by unfold fHd;rw[if_pos hk,if_pos hb,ef];dsimp only;rw[if_pos bj,if_pos bt]
        have Yc:=bb;cases bb with
        |mk ws p h1 h2 h3 =>
         refine(U,(_,U),_,U,λ_=>(x,n,_,_,U,Yc,by simp only[xv];lia,λb l6 hr a3 t6 a5=>?_,λhr=>hx (.EL eh hr)))
         have Yb:=a5;cases a5 with
         |mk ws p h1 h2 h3 =>
          refine(a3,U,U,U,_,U,x,n,_,_,U,Yb,λr l7 e t7 a4=>?_,λe=>hx (.EK eh hr ?_))
          ·unfold Pn at e
           split at e
           ·rename_i em;have el:l6=[]:=ZW.mp em;subst el;cases e;refine(U,U,wy L,U,a3,[_],(U,a4.adr,trivial),hq _ (.ok eh hr) ?_ _ a4);show(O&&(L2.T.ims (L.map λp=>L2.T.t [.s p.1,.s p.2])&&(O&&(b.im&&O))))=O
            rw[wy,a3];rfl
           ·cases e
          ·unfold Pn at e
           split at e
           ·cases e
           ·rename_i em;exact EX.mpr em
 ·let(x,n,l,t,U,hw,_):=h;exact([x],(_,U,hw.adr),trivial)
theorem F5(T:Txt K mg a):aV P w K mg base (CX1 P w) 12 a.wF a.EE ["text"] (AW K (Ob a.aX)):=by
 refine T.AE.F.V8 kR (λts Q W h=>?_) (λ_ _ _ _ _ _ hr=>?_)
 ·let(_,U,_):=h;rfl
 ·have hu:=cj hr;refine(_,_,((aq (bc (aG 1 kR.nd (aR aF)))
 (aq (bc (aG 2 kR.nd (aR aF)))
 (aq (bc (aG 3 kR.nd (P2 (bO gW dU (a8 _) (qv 0) (ZB aj)) (gH (qv 0) (ZB aj)) (aR aF))))
 (aq (zg (g:=(Tg.tp [4,5])) PassesOwn.leaving U (Kh (i:=3) U T.nq (by kernel_rfl) (pv 3)) (K3 (j9 4 kR.nd) (j9 5 kR.nd))
 (aq (bc (aG 6 kR.nd (Kn T.BG (sU T) hr.aY U T.BE T.uS (ae (qv 5) (ae (qv 4) az)))))
 (aK (gT (QPW.pt (mQ (ff hu (ZB (eT T.aw T.cg (cf T) hr.aY T.cF (fZ (aQ (j:=6))))) (ZB aj)) (k9 (gE (br (qv 2))))))
 (aK (jA (i:=1) (pv 1) (jq (zC T) hr.aY U T.jO.m T.jO.F.kp T.jO.b (pv 6) cy)))
 (aK (jA (i:=2) (pv 2) (jq (sS T) hr.aY U T.gB.m T.gB.F.kp T.gB.b (pv 6) cy)))))))
 (aK (bc (aN (b6 (af (aU (cD U) cA (by rfl) T.fR (by kernel_rfl) (ae (qv 1) az)) (af (aU (cD U) cA (by rfl) T.fR (by kernel_rfl) (ae (qv 2) az)) aF))))))))))),λts Q W h=>?_)
  let(text,U,hl,hq,hx):=h;refine(U,a7 (λh=>?_) (λh=>?_))
  ·have h:text ≠ "":=dQ h;have er:rowsOf text=Txt.split text "\n":=if_neg h;rw[er]at hq hx;have sl:=gC text "\n";have rl:∀row∈Txt.split text "\n",row.length<=text.length:=λrow hr=>split_le (c:=10) hr
   refine(by decide,aM (by lia),?_)
   generalize Txt.split text "\n"=rows at *
   refine(λi q=>Ea6 λ(ks:List Kd)(fs KS:List L2.T)(o4 o5 o6:Sl)=>q=[.r (.s text),.o (.l KS),.o (.l fs),.r (.l (rows.map .s)),o4,o5,o6]/\KS=ks.map tK/\L2.T.ims fs=O/\(∀o,eO i ks fs (rows.drop i) o->eO 0 [] [] rows o)/\ks.length<=i/\fs.length<=i,([],[],_,_,_,_,U,U,U,λ_ h=>h,Je _,Je _),λi z q hz hi=>?_,λq hi=>?_)
   ·let(ks,fs,KS,o4,o5,o6,U,U,V,hf,k1,k2):=hi;let(u,ak,U):=rj hz;rw[tW]at ak;let(row,zW,U):=kg.mp ak;have il:=(kf.mp zW).1;have ed:rows.drop i=row::rows.drop (i+1):=(UQ il).trans (by rw[(kf.mp zW).2])
    have aH:=rl row (Au zW);rw[ed]at hf;refine(_,U,?_);refine λx9=>(x9,row,i,U,by lia,λt hw=>(U,hw.adr,?_))
    have ah:=hw;have wl:=hw.len;have sw:=split_len row 32;have sw:(Txt.split row " ").length<=row.length+2:=sw;cases hw with
    |mk ws p g1 g2 g3 =>
     refine(U,U,x9,i,_,_,U,ah,U,?_);refine XC (fs:=fs) ?_ (λhc=>?_) (λhc=>?_)
     ·rfl
     ·let(hk,U):=hc;refine((_,U),(_,U),_,U,λ_=>(x9,i,_,_,U,ah,λr l1 e t1 aD=>?_,λe=>hx i (hf _ (.uh hk (by rwa [WR]at e)))))
      let((k,l2),e1,e2):=kg.mp e;cases e2;exact(BZ k,_,U,aM (by rw[gV];lia),ks++[k],[],_,_,_,_,U,by rw[uj];rfl,U,λo ho=>hf o (.kind hk e1 ho),by simp;lia,Je _)
     ·refine((_,U),(_,U),_,U,λ_=>(x9,i,_,_,U,ah,by lia,λr hr au t1 aD=>?_,λhr=>hx i (hf _ (.fnX hc hr))))
      refine(au,_,U,aM (by lia),ks,fs++[r],_,_,_,_,U,U,?_,λo ho=>hf o (.fn hc hr ho),by lia,by simp;lia)
      rw[ju,V];show(O&&(r.im&&O))=O;rw[au];rfl
   ·let(ks,fs,KS,o4,o5,o6,U,U,V,hf,k1,k2):=hi;refine(fj BZ ks,V,hq _ (hf _ ?_) ?_)
    ·rw[kJ,gV,ZX];exact .nil
    ·show(L2.T.ims (ks.map tK)&&(L2.T.ims fs&&O))=O;rw[fj BZ,V];rfl
  ·have h:text="":=nh h;subst h;refine(λi q=>i=0/\∃o4 o5 o6,q=[.r (.s ""),.o (.l []),.o (.l []),.r (.l []),o4,o5,o6],(U,_,_,_,U),λi z q hz hi=>?_,λq hi=>?_)
   ·rw[hi.1]at hz;cases hz
   ·let(_,o4,o5,o6,U):=hi;exact(U,U,hq _ .nil U)
theorem wm:∀cs:List Nat,(Txt.join (Str.ofString "") (cs.map (λc=>(⟨#[c]⟩:Str)))).cps.toList=cs
 |[]=>by decide +kernel
 |[c]=>by show(Txt.join _ [_]).cps.toList=_;rw[Eo]
 |c::d::r=>by
  show(Txt.join _ (_::_::_)).cps.toList=_;rw[gY,Str.cps_append,WS]
  have:=wm (d::r)
  rw[CH]at this;rw[this];rfl
theorem AY(cs:List Nat):((cs.map (λc=>(⟨#[c]⟩:Str))).map (·.length)).sum=cs.length:=by
 induction cs with
 |nil=>rfl
 |cons c cs g=>simp only[CH,U5,my,g,show(⟨#[c]⟩:Str).length=1 from rfl];lia
theorem ON(T:Txt K mg a):aV P w K mg base CX0 2 a.z7 a.Ml [WF] (spQ K Sx):=by
 have bf:=kc (@iE P w K mg base a T);refine T.MV.F.okQ nL (λts Q h=>?_) (λ_ _ _ _ _ _ hr=>?_)
 ·let(U,_):=h;rfl
 ·have hu:=cj hr;refine(_,_,((ai (aG 1 nL.nd (aR (dZ (by rfl))))
 (ai (aG 2 nL.nd (aS bf hr T.bt (ae (qv 0) (ae ao az))))
 (ai (bN (ff hu (qv 2) ao)
 (ai (aG 3 nL.nd (aR (dZ (by rfl))))
 (ay (aN (XL (bQ (ZB (ag (qv 3) (ZB (aR (dZ (by rfl)))))) (ZB (aS bf hr T.bt (ae (qv 0) (ae ao az)))))))))
 aP)
 (ai (aG 4 nL.nd (ag ao (ZB (aS bf hr T.bt (ae (qv 0) (ae (ZB (fB (aR (af bR (af bR (af bR (af bR (af bR aF)))))) (ZB (zk (qv 2) ao)))) az))))))
 (ai (aG 5 nL.nd (fM (ZB aj) (ZB (lh U (nO U T.iL (ae (qv 4) az)) (N':=[Tu,WF]) (.own U (.got (i:=0) U U (.inl U) .nil)) (j8 (g:=(Tg.nm 0)) (λ_ _ _ _ _=>((uN 0),(XL (bQ (ZB aj) (ZB (aS bf hr T.bt (ae (qv 1) (ae ao az)))))))))))))
 (ay (aN (ag (qv 5) (ZB (Km (ZB aj) (ZB (aU dI gP (by rfl) T.kL (by kernel_rfl) (ae (ZB (cS (pC U) jU U (qv 5) (qv 1))) az)))))))))))))),λts Q h=>?_)
  let(U,hq):=h;refine(by decide,by decide,λf f0 f1=>(U,a7 (λh=>?_) (λh=>?_)))
  ·refine(kj (by decide),by rfl,by rfl,by decide,by decide,λr r0 r1=>?_)
   let(V,ew,hm):=rO (ws:=near++[("pa":Str),"ki","en","t","o","d"]) r0 r1;exact(_,ew,U,hq V (OU V hm))
  ·obtain⟨m,em,m1,m8⟩:∃m:Int,atI [L2.T.i 8,.i 8,.i 2,.i 3,.i 8] (f-1)=Z (.i m)/\1<=m/\m<=8:=by
    have hf:f≠0:=λz=>h (by rw[z];rfl)
    obtain rfl|rfl|rfl|rfl|rfl:=(by lia:f=1\/f=2\/f=3\/f=4\/f=5)
    ·exact(8,U,by decide,by decide)
    ·exact(8,U,by decide,by decide)
    ·exact(2,U,by decide,by decide)
    ·exact(3,U,by decide,by decide)
    ·exact(8,U,by decide,by decide)
   refine(_,em,by lia,by lia,λn n0 n1=>(by lia,by lia,bo (by rw[fe];lia),λi ys=>∃cs:List Nat,ys=cs.map (λc=>.s ⟨#[c]⟩)/\cs.length=i/\∀c∈cs,sgn fN c=O,([],U,U,λ_ z=>nomatch z),?_,?_))
   ·rintro i x ys hx ⟨cs,rfl,hc,hs⟩
    let(U,hi):=k7 hx;refine(_,U,by decide,by decide,λr r0 r1=>(by decide +kernel,_,Gd r0 r1,U,?_))
    refine(cs++[Ei r.toNat],by simp,by simp[hc],λc hc=>?_)
    obtain z|z:=mu.mp hc
    ·exact hs c z
    ·rw[aB.mp z];exact OY _
   ·rintro ys ⟨cs,rfl,hc,hs⟩
    rw[fe]at hc;have ej:=wm cs;refine(cs.map (λc=>(⟨#[c]⟩:Str)),?_,?_,?_)
    ·rw[<- cW,Zb];rfl
    ·rw[AY,show(Str.ofString "").length=0 from by decide +kernel];lia
    generalize Txt.join (Str.ofString "") (cs.map (λc=>(⟨#[c]⟩:Str)))=V at ej ⊢
    have lw:V.length=cs.length:=by rw[qX,ej]
    have ah:ofB V fN 8=true:=by
     unfold ofB;rw[ej,Av.mpr hs,decide_eq_true (by lia),decide_eq_true (by lia)];rfl
    refine(by rfl,?_)
    have fin:∀b:Bool,inT (.s V) (kept.map .s)=b->0 <=(if b then(1:Int)else 0)/\(if b then(1:Int)else 0)<=1000/\(Str.ofString "q").length<=1000/\V.length+(pb "q" (if b then(1:Int)else 0).toNat).length<=ot/\Q (.s (V++pb "q" (if b then(1:Int)else 0).toNat)):=by
     intro b hb;cases b with
     |false =>
      refine(by decide,by decide,by decide +kernel,wh (aM (by show V.length+(pb "q" 0).length<=1002000;rw[qV];lia)),?_)
      show Q (.s (V++pb "q" 0));rw[show pb "q" 0=Str.empty from by decide +kernel,Str.append_empty]
      exact hq V (by unfold ar;rw[ah,hb];rfl)
     |true =>
      have l4:V.length<=4:=by
       rw[wx]at hb;exact Ly V (vm.mp hb)
      refine(by decide,by decide,by decide +kernel,wh (aM (by show V.length+(pb "q" 1).length<=1002000;rw[qV,show("q":Str).length=1 from by decide +kernel];lia)),?_)
      show Q (.s (V++pb "q" 1));rw[show pb "q" 1="q" from by decide +kernel]
      refine hq _ ?_;have e:(V++("q":Str)).cps.toList=cs++[113]:=by rw[Str.cps_append,WS,ej,show(Str.ofString "q").cps.toList=[113]from by decide +kernel]
      have le:(V++("q":Str)).length=cs.length+1:=by rw[qX,e];simp
      unfold ar ofB;rw[VE hb,e,List.all_append,Av.mpr hs,le,decide_eq_true (by lia),decide_eq_true (by lia),show [113].all (sgn fN)=O from by decide +kernel]
      rfl
    exact fin _ U
theorem d6(T:Txt K mg a):aV P w K mg base CX0 1 a.jK a.ux [Tl] (spQ K SD):=by
 refine T.cb.F.okQ qj (λts Q h=>?_) (λ_ _ _ _ _ _ hr=>?_)
 ·let(_,U,_):=h;rfl
 ·have hu:=cj hr;refine(_,_,((ai (aG 1 qj.nd (aR (dZ (by rfl))))
 (ai (bN (QPW.pt (kz (ua (ZB (dY T.gI (ae (qv 0) az))) ao) (kz (ya (ZB (dY T.gI (ae (qv 0) az))) ao) (j6 (bO (pC U) jU U (qv 0) (qv 1))))))
 (ay (aN iM))
 aP)
 (ay (aN (gU (tL U U) zc (by rfl) T.MB (by kernel_rfl) (ae (ZB (lh U (DJ (qv 0)) (N':=["_law_sign"]) (.own U .nil) (j8 (g:=(Tg.nm 0)) (λ_ _ _ _ _=>((uN 0),(cS (pC U) jU U (qv 0) (ZB aj))))))) az))))))),λts Q h=>?_)
  let(x,U,hx,q):=h;have V:x.length<=ot:=wh (aM (by lia))
  unfold ar ofB at q;refine(V,a7 (λh1=>?_) (λh1=>?_))
  ·rw[decide_eq_false (show ¬ 1 <=(x.length:Int)by lia)]at q
   exact q
  rw[decide_eq_true (show 1 <=(x.length:Int)by lia),Y3]at q
  refine(V,a7 (λh2=>?_) (λh2=>?_))
  ·rw[decide_eq_false (show ¬(x.length:Int)<=8 by lia)]at q
   exact q
  rw[decide_eq_true (show(x.length:Int)<=8 by lia),Y3]at q
  refine(by rfl,a7 (λh3=>?_) (λh3=>?_))
  ·have h3:inT (.s x) (kept.map .s)=true:=h3;rw[h3,Bool.not_true,Zs]at q;exact q
  have h3:inT (.s x) (kept.map .s)=false:=EX.mpr h3;rw[h3,Bool.not_false,ab2]at q;refine(by rw[n6];exact aM (by lia),λi ys=>ys=(x.cps.toList.take i).map λc=>.b (sgn fN c),U,λi z ys hz e=>?_,λys e=>?_)
  ·let(c,hc,U):=EI hz;subst e;refine(_,U,?_);show _++[L2.T.b (sgn fN c)]=_;rw[Jc,hc];simp
  ·subst e;rw[n6,show x.length=x.cps.toList.length from U,Fs];exact(_,lM _ _,by rw[ZL];exact q)
theorem vY(T:Txt K mg a):aV P w K mg base CX0 2 a.Gq a.QU [WF,Th] (spQ K VZ):=by
 refine T.jR.F.okQ RJ (λts Q h=>?_) (λ_ _ _ _ _ _ hr=>?_)
 ·let(_,U,_):=h;rfl
 ·refine(_,_,((ay (aN (XL (bQ (qv 1) (ZB (aS (kc (iE T)) hr T.bt (ae (qv 0) (ae (ZB (dY T.gI (ae (qv 1) az))) az))))))))),λts Q h=>?_)
  let(ws,U,w1,w2,hw,V):=h;refine(by rw[gV];lia,by rw[gV];lia,λr z q=>?_)
  rw[gV]at q;let(g,ew,hm):=rO z q;exact(_,ew,U,V g (hw g hm))
theorem FY(T:Txt K mg a):aV P w K mg base CX0 3 a.zZ a.Mh [WF,Th,SL] (spQ K Ss):=by
 refine T.AA.F.okQ ND (λts Q h=>?_) (λ_ _ _ _ _ _ hr=>?_)
 ·let(_,_,U,_):=h;rfl
 ·have hu:=cj hr;refine(_,_,((ay (aN (aU (cD U) cA (by rfl) T.fR (by kernel_rfl) (ae (ZB (lh U (nO U T.iL (ae (ZB (aS (kc (iE T)) hr T.bt (ae (qv 0) (ae (ZB (ag (qv 2) ao)) az)))) az)) (N':=[Tu,WF,Th]) (.own U (.got (i:=0) U U (.inl U) (.got (i:=1) U U (.inl U) .nil))) (j8 (g:=(Tg.nm 0)) (λ_ _ _ _ _=>((uN 0),(aS (vY T) hr T.jR (ae (qv 1) (ae (qv 2) az)))))))) az))))),λts Q h=>?_)
  let(ws,m,U,w1,w2,hw,m0,m1,hq):=h;refine(by lia,by lia,λn n0 n1=>(by lia,by lia,bo (by rw[fe];lia),λi ys=>∃ns:List Str,ys=ns.map .s/\ns.length=i/\∀w∈ns,ar w=O,([],U,U,λ_ z=>nomatch z),?_,?_))
  ·rintro i x ys hx ⟨ns,rfl,hc,hn⟩
   refine(_,U,ws,U,w1,w2,hw,λwd q=>(ns++[wd],by simp,by simp[hc],λw V=>?_))
   obtain z|z:=mu.mp V
   ·exact hn w z
   ·rw[aB.mp z];exact q
  ·rintro ys ⟨ns,rfl,hc,hn⟩
   rw[fe]at hc;exact(aW ns,hq ns hn (by lia))
theorem pick{x y:Int}(b:Bool):∃m:Int,atI [L2.T.i x,.i y] (if b then 1 else 0)=Z (.i m)/\(m=x\/m=y):=by
 cases b
 ·exact(x,U,.inl U)
 ·exact(y,U,.inr U)
theorem OO(T:Txt K mg a):aV P w K mg base CX0 4 a.z8 a.Mm [WF,Th] (spQ K Oi):=by
 refine T.MW.F.okQ zd (λts Q h=>?_) (λ_ _ _ _ _ _ hr=>?_)
 ·let(_,U,_):=h;rfl
 ·have hu:=cj hr;refine(_,_,((ai (aG 2 zd.nd (aR aF))
 (ai (j7 (g:=(Tg.nm 3)) PassesOwn.never U (jf U T.iL (ae (ZB (ag ao (ZB (aS (kc (iE T)) hr T.bt (ae (qv 0) (ae (ZB (fB (aR (af bR (af bR aF))) (ZB (aU dI gP (by rfl) T.kL (by kernel_rfl) (ae (ZB (cS (gG hu U) dW (a8 _) (ZB (aS (kc (iE T)) hr T.bt (ae (qv 0) (ae ao az)))) ao)) az))))) az)))))) az)) (j9 3 zd.nd)
 (ay (ik (i:=2) (pv 2) (b6 (af (aS (vY T) hr T.jR (ae (qv 0) (ae (qv 1) az))) (af (aS (FY T) hr T.AA (ae (qv 0) (ae (qv 1) (ae (ZB (fB (aR (af bR (af bR aF))) (ZB (aS (kc (iE T)) hr T.bt (ae (qv 0) (ae ao az)))))) az)))) aF))))))
 (ay (aN (b6 (af (aS (vY T) hr T.jR (ae (qv 0) (ae (qv 1) az))) (af (aU (cD U) cA (by rfl) T.fR (by kernel_rfl) (ae (qv 2) az)) aF)))))))),λts Q h=>?_)
  let(ws,U,w1,w2,hw,hq):=h;refine(by decide,by decide,λf f0 f1=>?_)
  let(m,em,m1):=pick (x:=3) (y:=5) (decide ((L2.T.i f).v=(L2.T.i 1).v));refine(U,_,em,by lia,by lia,λn n0 n1=>(by lia,by lia,λi q=>(∃o3 ms,q=[.r .gj,.r (.zl (ws.map .s)),.o (.l (ms.map tM)),o3]/\ms.length=i/\∀m∈ms,ar m.1=O/\m.2.length<=4/\∀f∈m.2,ar f=O),(_,[],U,U,λ_ z=>nomatch z),?_,?_))
  ·rintro i x q hx ⟨o3,ms,rfl,hc,hm⟩
   let(U,hi):=k7 hx;refine(_,U,bo (by rw[gV];lia),ws,U,w1,w2,hw,λwd ah=>(by decide,by decide,λr r0 r1=>?_))
   obtain⟨m,em,m1,m2⟩:∃m:Int,atI [L2.T.i 2,.i 3] r=Z (.i m)/\2<=m/\m<=4:=by
    obtain rfl|rfl:=(by lia:r=0\/r=1)
    ·exact(2,U,by decide,by decide)
    ·exact(3,U,by decide,by decide)
   refine(_,em,ws,m,U,w1,w2,hw,by lia,by lia,λns hn ln=>?_)
   refine(_,ms++[(wd,ns)],by rw[uj];rfl,by simp[hc],λm ak=>?_)
   obtain z|z:=mu.mp ak
   ·exact hm m z
   ·rw[aB.mp z];exact(ah,by show ns.length<=4;lia,hn)
  ·rintro q ⟨o3,ms,rfl,hc,hm⟩
   rw[fe]at hc;refine(ws,U,w1,w2,hw,λwd ah=>?_)
   exact(fj (λm=>by show(O&&(L2.T.ims (m.2.map L2.T.s)&&O))=O;rw[aW];rfl) ms,hq (wd,ms) (ah,by show ms.length<=700;lia,(λz=>by rw[show ms=[]from z]at hc;simp at hc;lia),λm V=>((hm m V).1,u4 (hm m V).2.1 (by decide),(hm m V).2.2)) (TJ (by show ms.length<=5;lia) λm V=>(hm m V).2.1))
theorem F6(T:Txt K mg a):aV P w K mg base CX0 3 a.z6 a.Mj [WF] (spQ K Sw):=by
 refine T.EZ.F.okQ kS (λts Q h=>?_) (λ_ _ _ _ _ _ hr=>?_)
 ·let(U,_):=h;rfl
 ·have hu:=cj hr;refine(_,_,((ai (zi (i:=1) kS.nd U (Or.inl U) U (nO U T.iL (ae ao az)) (N':=[Tu,WF]) (.own U (.got (i:=0) U U (.inl U) .nil)) (j8 (g:=(Tg.nm 0)) (λ_ _ _ _ _=>((uN 0),(aS (ON T) hr T.MV (ae (qv 1) az))))))
 (ai (aG 2 kS.nd (XL (bQ (qv 1) ao)))
 (ai (aG 3 kS.nd (aS (kc (iE T)) hr T.bt (ae (qv 0) (ae (ZB (dY T.gI (ae (qv 2) az))) az))))
 (ai (j7 (g:=(Tg.nm 4)) PassesOwn.never U (jf U T.iL (ae ao az)) (j9 4 kS.nd)
 (ai (aG 5 kS.nd (XL (bQ (ZB aj) (ZB (aS (kc (iE T)) hr T.bt (ae (qv 0) (ae ao az)))))))
 (ai (aG 6 kS.nd (ag (ZB (ag (ZB (bT (qv 2) cY (cM (qv 3)))) (qv 5))) (ZB (bT (qv 2) (cM (ZB (ag (qv 3) ao))) cY))))
 (ay (bN (br (ZB (aS (d6 T) hr T.cb (ae (qv 6) az))))
 (ay (ik (i:=1) (pv 1) (XL (qv 6))))
 aP)))))
 (ay (zh (i:=1) (pv 1)))))))),λts Q h=>?_)
  let(U,hq):=h;refine(by decide,by decide,bo (by rw[fe];decide),λi ys=>∃ns:List Str,ys=ns.map .s/\ns.length=i/\∀w∈ns,ar w=O,([],U,U,λ_ z=>nomatch z),?_,?_)
  ·rintro i x ys hx ⟨ns,rfl,hc,hn⟩
   let(U,hi):=k7 hx;refine(_,U,U,λwd ah=>(ns++[wd],by simp,by simp[hc],λw V=>?_))
   obtain z|z:=mu.mp V
   ·exact hn w z
   ·rw[aB.mp z];exact ah
  ·rintro ys ⟨ns,rfl,hc,hn⟩
   rw[fe]at hc;have hc:ns.length=4:=hc;let(w0,ew,hm):=rO (ws:=ns) (i:=0) (by lia) (by lia)
   have h0:=bw (hn w0 hm);refine(_,ew,U,kj (by lia),by lia,by lia,λat_ a0 a1=>?_)
   have au:(Txt.slice w0 Y (Z at_)).length<=8:=u4 (Txt.slice_le _ _ _) h0.2;have ak:(Txt.slice w0 (Z (at_+1)) Y).length<=8:=u4 (Txt.slice_le _ _ _) h0.2;refine(by decide,by decide,λi q=>(Q4 λo4 o5 o6 ws=>q=[.r .gj,.o (.l (ws.map .s)),.o (.s w0),.o (.i at_),o4,o5,o6]/\4<=ws.length/\ws.length<=4+i/\∀w∈ws,ar w=O),(_,_,_,ns,U,by lia,by lia,hn),?_,?_)
   ·rintro i x q hx ⟨o4,o5,o6,ws,rfl,w1,w2,hw⟩
    let(U,hi):=k7 hx;have hi:i<3:=by lia
    refine(_,U,by decide,by decide,λr r0 r1=>(by decide +kernel,_,Gd r0 r1,U,?_))
    have e1:∀c:Nat,(⟨#[c]⟩:Str).length=1:=λ_=>rfl
    refine(kj (by lia),kj (by rw[e1];lia),kj (by lia),kj (by rw[Str.length_append,e1];lia),_,U,by rw[Str.length_append,Str.length_append,e1];lia,a7 (λh=>?_) (λh=>?_))
    ·refine(bo (by rw[gV];lia),U,_,_,_,ws++[Txt.slice w0 Y (Z at_)++⟨#[Ei r.toNat]⟩++Txt.slice w0 (Z (at_+1)) Y],by rw[uj];rfl,by rw[qd];lia,by rw[qd];show ws.length+1<=_;lia,λw V=>?_)
     obtain z|z:=mu.mp V
     ·exact hw w z
     ·rw[aB.mp z];exact h
    ·exact(_,_,_,ws,U,w1,by lia,hw)
   ·rintro q ⟨o4,o5,o6,ws,rfl,w1,w2,hw⟩
    rw[fe]at w2;exact hq ws w1 w2 hw
mutual
def Bd.cd:Bd->Nat
 |.give _=>0
 |.mm _ _ b=>b.cd
 |.nam _ _ b=>b.cd
 |.mk _ _ _ _ b=>b.cd
 |.cas _ as=>as.cd+1
def Ar.cd:Ar->Nat
 |.nil=>0
 |.cons _ _ b r=>max b.cd r.cd
end
def tQ:List (Str×List Str×Bd)->Ar
 |[]=>.nil
 |z::r=>.cons z.1 z.2.1 z.2.2 (tQ r)
theorem GI:∀ls,(tQ ls).ts=ls.map PB
 |[]=>rfl
 |z::r=>by show _ ::(tQ r).ts=_;rw[GI r];rfl
theorem GH:∀ls,(tQ ls).wt=(ls.map λz=>3+z.2.1.length+z.2.2.wt).sum
 |[]=>rfl
 |z::r=>by show _+(tQ r).wt=_;rw[GH r];rfl
theorem GJ:∀{ls},(∀z∈ls,ar z.1=O/\(∀k∈z.2.1,ar k=O)/\z.2.2.ok)->(tQ ls).ok
 |[],_=>trivial
 |z::r,h=>((h z di).1,(h z di).2.1,(h z di).2.2,GJ λy g=>h y (aJ _ g))
theorem GK{x:Str}{d:Int}(hd:d<=39):∀{ls},(∀z∈ls,(z.2.2.cd:Int)+(d+1)<=40)->((Bd.cas x (tQ ls)).cd:Int)+d<=40
 |[],_=>by show(((0+1)))+d<=40;lia
 |z::r,h=>by
  have h1:=h z di;have h2:=GK (x:=x) hd λy g=>h y (aJ _ g)
  have h2:(((tQ r).cd+1))+d<=40:=h2;show((max z.2.2.cd (tQ r).cd+1))+d<=40
  lia
theorem S7{w:Da}{K:PySem.W.Frag}{CX:CXT}{k:Nat}{js S:List Nat}{f:J}{fd:Ch}{ps:List Str}{sp:ox}(h:∀ts Q W,¬ sp ts Q W):aV P w K mg base CX k f fd ps (spG K js S sp):=(λvs H Q E z=>by
 cases z with
 |mk dl ts F Qp Wp h1 h2 h3 h4 h5 h6 h7 h8=>exact(h _ _ _ h6).elim,λA outer s H args us vs Q E _ _ _ _ z=>by
 cases z with
 |mk dl ts F Qp Wp h1 h2 h3 h4 h5 h6 h7 h8=>exact(h _ _ _ h6).elim)
theorem XG{f:Int}{lg:Bool}(h5:q[5]?=Z (.o (.i f)))(h4:q[4]?=Z (.r (.b lg)))(h:∀b,Qb b):DO (jB (qOp N6 (iT 5) (qC (.i 0)))) (Ku (Ks (iT 4))) q Qb:=by
 unfold DO jB qOp iT;rw[h5];refine(U,a7 (λ_=>?_) (λ_=>h _))
 show match q[4]? with|some (Sl.o t)=>_|some (Sl.r t)=>_|x=>False
 rw[h4];exact h _
inductive Oq(n:Nat)(ts:List L2.T)(Q:L2.T->List L2.T->Prop)(_W:QW):Prop
 |mk(ws:List Str)(y:J)(r d:Int)(lg:Bool)(h1:ts=[.gj,.zl (ws.map .s),.lp y [.i r],.i d,.b lg])(h2:4<=ws.length)(h3:ws.length<=7)(h4:(∀w∈ws,ar w=O))(h5:-6<=r)(h6:r<=48)(h7:1<=d)(h8:d<=40)(h9:41<=d+n)(h10:∀(b:Bd)(r':Int),b.ok->(b.cd:Int)+d<=40->-6<=r'->r'<=r->(b.wt:Int)<=3+10*(r-r')->Q b.t [.lp y [.i r']])
theorem OR(T:Txt K mg a)(n:Nat):aV P w K mg base (CX1 P w) (n+4) a.Ab a.Mq [WF,Th,Sa,ST,Sc] (spG K [2] [2] (Oq n)):=by
 induction n with
 |zero =>
  refine S7 λts Q W h=>?_
  let(_,_,_,_,_,_,_,_,_,_,_,_,d1,hd,_):=h
  lia
 |succ n tV =>
  have bf:=kc (@iE P w K mg base a T);refine T.gg.F.okG i7 (λts Q W h=>?_) (by decide) (λ_ h=>h) (λ_ _ _ _ _ _ hr=>?_) λts Q W h=>?_
  ·let(_,_,_,_,_,U,_):=h;rfl
  ·have hu:=cj hr;refine(_,_,((aq (bc (aG 5 i7.nd (aS bf hr T.bt (ae (qv 0) (ae ao az)))))
 (aq (bc (bN (QPW.pt (kz (ua (bQ (qvp 2) ao) ao) (kz (ya (qv 3) ao) (j6 (QPW.pt (mQ (ff hu (qv 5) ao) (k9 (gE (br (qv 4))))))))))
 (ay (fg (b6 (af aj (af (aS (vY T) hr T.jR (ae (qv 0) (ae (qv 1) az))) aF)))))
 aP))
 (aq (bc (A9 (i:=2) (pv 2) ao (ZB (zk (bQ (qvp 2) ao) ao))))
 (aq (gT (ua (qv 5) ao)
 (aq (bc (aG 6 i7.nd (ag ao (ZB (aS bf hr T.bt (ae (qv 0) (ae (ZB (fB (aR (af bR (af bR (af bR aF)))) (ZB (aS bf hr T.bt (ae (qv 0) (ae ao az)))))) az)))))))
 (aK (qz (mT (cP (hZ (ZB (fB (aR (dZ (by rfl))) (ZB (aS bf hr T.bt (ae (qv 0) (ae ao az))))))) (cP (hZ (qv 6)) (cP (mU (i:=2) (j:=2) tV hr.aY U T.gg.m T.gg.F.kp T.gg.b (iD (qv 0) (iD (qv 1) (qD (i:=2) (pv 2) (ae (ZB (ag (qv 3) ao)) (ae (qv 4) az)))))) cy)))))))
 (fL aP))
 (aq (bc (RS (i:=7) (j:=8) U i7.nd U U (by decide) U U (ZB (aS (vY T) hr T.jR (ae (qv 0) (ae (qv 1) az)))) (ZB (aS (vY T) hr T.jR (ae (qv 0) (ae (qv 1) az)))) U))
 (aq (gT (ff hu (qv 5) ao)
 (aK (qz (mT (cP (hZ (ZB aj)) (cP (hZ (qv 7)) (cP (hZ (qv 8)) (cP (mU (i:=2) (j:=2) tV hr.aY U T.gg.m T.gg.F.kp T.gg.b (iD (qv 0) (iD (qv 1) (qD (i:=2) (pv 2) (ae (ZB (ag (qv 3) ao)) (ae (qv 4) az)))))) cy)))))))
 (fL aP))
 (aq (gT (ua (qv 5) ao)
 (aq (bc (aG 9 i7.nd (aS (FY T) hr T.AA (ae (qv 0) (ae (qv 1) (ae ao az))))))
 (aK (qz (mT (cP (hZ (ZB (fB (aR (dZ (by rfl))) (ZB (aS bf hr T.bt (ae (qv 0) (ae ao az))))))) (cP (hZ (qv 7)) (cP (hZ (qv 8)) (cP (hZ (qv 9)) (cP (mU (i:=2) (j:=2) tV hr.aY U T.gg.m T.gg.F.kp T.gg.b (iD (qv 0) (iD (qv 1) (qD (i:=2) (pv 2) (ae (ZB (ag (qv 3) ao)) (ae (qv 4) az)))))) cy)))))))))
 (fL aP))
 (aq (bc (aG 10 i7.nd (ag ao (ZB (aS bf hr T.bt (ae (qv 0) (ae (ZB (fB (aR (af bR (af bR aF))) (ZB (aU dI gP (by rfl) T.kL (by kernel_rfl) (ae (ZB (cS (gG hu U) dW (a8 _) (ZB (aS bf hr T.bt (ae (qv 0) (ae ao az)))) ao)) az))))) az)))))))
 (aq (bc (A9 (i:=2) (pv 2) ao (ZB (zk (bQ (qvp 2) ao) (qv 10)))))
 (aq (bc (aG 11 i7.nd (aR aF)))
 (aq (zg (g:=(Tg.nm 12)) PassesOwn.leaving U (jf U T.iL (ae (qv 10) az)) (j9 12 i7.nd)
 (aq (bc (aG 9 i7.nd (aS (FY T) hr T.AA (ae (qv 0) (ae (qv 1) (ae (ZB (fB (aR (af bR (af bR aF))) (ZB (aS bf hr T.bt (ae (qv 0) (ae ao az)))))) az))))))
 (aK (jA (i:=11) (pv 11) (mT (cP (hZ (ZB (aS (vY T) hr T.jR (ae (qv 0) (ae (qv 1) az))))) (cP (hZ (qv 9)) (cP (mU (i:=2) (j:=2) tV hr.aY U T.gg.m T.gg.F.kp T.gg.b (iD (qv 0) (iD (qv 1) (qD (i:=2) (pv 2) (ae (ZB (ag (qv 3) ao)) (ae (qv 4) az)))))) cy))))))))
 (aK (bc (fg (b6 (af aj (af (XL (qv 7)) (af (aU (cD U) cA (by rfl) T.fR (by kernel_rfl) (ae (qv 11) az)) aF))))))))))))))))))),λts Q W as h ha=>?_)
   let(ws,y,r,d,lg,U,w1,w2,hw,r0,r1,d0,d1,hd,hq):=h;obtain rfl:as=[y]:=by
    match as,ha with
    |[b],((u,e1,e2),_)=>cases e1;cases e2;rfl
   have gv:=λwd V=>hq (.give wd) r V (by show((0:Nat):Int)+d<=40;lia) r0 (by lia) (by show(3:Int)<=_;lia);refine(by decide,by decide,λf f0 f1=>?_)
   refine(_,U,a7 (λh1=>?_) (λh1=>?_))
   ·exact Wy (ws,U,w1,w2,hw,λwd V=>([_],(U,U,trivial),gv wd V))
   have h1:¬ r<1:=λz=>h1 (decide_eq_true z)
   refine a7 (λh2=>?_) (λh2=>?_)
   ·exact Wy (ws,U,w1,w2,hw,λwd V=>([_],(U,U,trivial),gv wd V))
   have h2:¬ 37<d:=λz=>h2 (decide_eq_true z)
   refine XG U U λb=>?_
   cases b with
   |true=>exact(ws,U,w1,w2,hw,λwd V=>([_],(U,U,trivial),gv wd V))
   |false =>
   refine(_,U,0,U,U,U,a7 (λh3=>?_) (λh3=>?_))
   ·refine(by decide,by decide,λc c0 c1=>?_)
    obtain⟨m,em,m1,m2⟩:∃m:Int,atI [L2.T.i 9,.i 1000,.i 9999999] c=Z (.i m)/\1<=m/\m<=9999999:=by
     obtain rfl|rfl|rfl:=(by lia:c=0\/c=1\/c=2)
     ·exact(9,U,by decide,by decide)
     ·exact(1000,U,by decide,by decide)
     ·exact(9999999,U,by decide,by decide)
    refine(_,em,by lia,by lia,λv v0 v1=>(by decide,by decide,λz z0 z1=>?_))
    let(wd,ew,hm):=rO (ws:=[("pay":Str),"get"]) z0 z1;have V:wd="pay" \/ wd="get":=by simpa using hm
    refine(_,ew,U,U,U,U,_,U,U,U,U,λ_=>(ws,y,r-1,d+1,lg,U,w1,w2,hw,by lia,by lia,by lia,by lia,by lia,λb r' hb ah s0 s1 au=>(b.im,?_)))
    refine(b.im,wh (bo (by simp)),[_],(U,U,trivial),?_)
    have:=hq (.mm wd (1+v).toNat b) r' (V,by lia,by lia,hb) (by show(b.cd:Int)+d<=40;lia) s0 (by lia) (by show((4+b.wt:Nat):Int)<=_;lia)
    rw[show(Bd.mm wd (1+v).toNat b).t=.t [.s wd,.i ((1+v).toNat:Int),b.t]from U,Zl (by lia)]at this
    exact this
   refine(ws,U,w1,w2,hw,λx hx=>(U,ws,U,w1,w2,hw,λz hz=>(U,U,a7 (λh4=>?_) (λh4=>a7 (λh5=>?_) (λh5=>?_)))))
   ·refine(U,U,U,U,U,U,_,U,U,U,U,λ_=>(ws,y,r-1,d+1,lg,U,w1,w2,hw,by lia,by lia,by lia,by lia,by lia,λb r' hb ah s0 s1 au=>(b.im,b.im,wh (bo (by simp)),[_],(U,U,trivial),?_)))
    exact hq (.nam x z b) r' (hx,hz,hb) (by show(b.cd:Int)+d<=40;lia) s0 (by lia) (by show((6+b.wt:Nat):Int)<=_;lia)
   ·refine(ws,3,U,w1,w2,hw,by decide,by decide,λns hn ln=>(by decide,by decide,λk k0 k1=>?_))
    let(wd,ew,hm):=rO (ws:=[("make":Str),"call"]) k0 k1;have V:wd="make" \/ wd="call":=by simpa using hm
    have hi:=aW ns;refine(_,ew,U,U,U,U,U,U,hi,hi,_,U,U,U,U,λ_=>(ws,y,r-1,d+1,lg,U,w1,w2,hw,by lia,by lia,by lia,by lia,by lia,λb r' hb ah s0 s1 au=>(b.im,b.im,wh (bo (by simp)),[_],(U,U,trivial),?_)))
    exact hq (.mk wd x z ns b) r' (V,hx,hz,hn,hb) (by show(b.cd:Int)+d<=40;lia) s0 (by lia) (by show((6+ns.length+b.wt:Nat):Int)<=_;lia)
   ·refine(by decide,by decide,λc c0 c1=>?_)
    let(m,em,m1):=pick (x:=3) (y:=5) (decide ((L2.T.i c).v=(L2.T.i 1).v));refine(U,_,em,by lia,by lia,λv v0 v1=>(_,U,0,U,U,U,by lia,by lia,λi q=>(Q4 λ(o9 ak:Sl)(ls:List (Str×List Str×Bd))(rr:Int)=>q=[.r .gj,.r (.zl (ws.map .s)),.o (.lp y [.i rr]),.r (.i d),.r (.b lg),.o (.i f),.no,.o (.s x),.o (.s z),o9,.o (.i (1+v)),.o (.l (ls.map PB)),ak]/\ls.length=i/\(∀z∈ls,(ar z.1=O/\(∀k∈z.2.1,ar k=O)/\z.2.2.ok)/\(z.2.2.cd:Int)+(d+1)<=40) /\ -6<=rr/\rr<=r-1-(1+v)/\(((ls.map λz=>3+z.2.1.length+z.2.2.wt).sum:Nat):Int)<=10*(i:Int)+10*(r-1-(1+v)-rr)),(_,_,[],_,U,U,(λ_ z=>nomatch z),by lia,by lia,by show(0:Int)<=_;lia),?_,?_))
    ·rintro i k q hk ⟨o9,ak,ls,rr,rfl,hc,hl,aw,aH,hs⟩
     let(U,hi):=k7 hk;refine(_,U,by decide,by decide,λe e0 e1=>?_)
     obtain⟨m2,aX,m3⟩:∃m:Int,atI [L2.T.i 2,.i 3] e=Z (.i m)/\(m=2\/m=3):=by
      obtain rfl|rfl:=(by lia:e=0\/e=1)
      ·exact(2,U,.inl U)
      ·exact(3,U,.inr U)
     refine(_,aX,ws,m2,U,w1,w2,hw,by lia,by lia,λns hn ln=>((_,U),ws,U,w1,w2,hw,λmk aL=>?_))
     have aD:=aW ns;refine(U,U,aD,aD,_,U,U,U,U,λ_=>(ws,y,rr,d+1,lg,U,w1,w2,hw,by lia,by lia,by lia,by lia,by lia,λb r' hb ah s0 s1 au=>(b.im,b.im,wh (bo (by simp)),_,U,bo (by rw[gV];lia),_,_,ls++[(mk,ns,b)],r',by rw[uj];rfl,by simp[hc],λu hu=>?_,s0,by lia,?_)))
     ·obtain z|z:=mu.mp hu
      ·exact hl u z
      ·rw[aB.mp z];exact((aL,hn,hb),ah)
     ·rw[uj,Fq];show(((ls.map λz=>3+z.2.1.length+z.2.2.wt).sum+(3+ns.length+b.wt+0):Nat):Int)<=_
      lia
    ·rintro q ⟨o9,ak,ls,rr,rfl,hc,hl,aw,aH,hs⟩
     rw[fe]at hc hs;refine(U,fj Py ls,[_],(U,U,trivial),?_);have a0:=GH ls
     have:=hq (.cas x (tQ ls)) rr (hx,λe=>?_,GJ λz hz=>(hl z hz).1) (GK (by lia) λz hz=>(hl z hz).2) aw (by lia) (by show((4+(tQ ls).wt:Nat):Int)<=_;lia)
     ·rw[show(Bd.cas x (tQ ls)).t=.t [.s "case",.s x,.t (tQ ls).ts]from U,GI]at this
      exact this
     ·cases ls with
      |nil=>simp at hc;lia
      |cons _ _=>cases e
  ·let(ws,y,r,d,lg,U,_):=h;exact([y],(_,U,U),trivial)
theorem bF(h:n<=16000000):n<=ot:=u4 h (by decide)
theorem assoc(a b c:Str):a++b++c=a++(b++c):=Str.append_assoc a b c
theorem empty_append(x:Str):("":Str)++x=x:=Str.empty_append x
theorem Bd.ne(b:Bd):b.ws ≠ []:=by
 cases b <;> exact xT _ _
theorem eZ{r:List Str}(h:r ≠ []):Txt.join sep (x::r)=x++(sep++Txt.join sep r):=by
 cases r with
 |nil=>exact absurd U h
 |cons y r=>rw[gY,assoc]
def mr(z:Str×List Str×Bd):List Str:=z.1 ::(z.2.1++(":":Str)::z.2.2.ws)
theorem PN:∀as:Ar,as.ws=as.ls.flatMap λz=>("|":Str)::mr z
 |.nil=>rfl
 |.cons m ns b r=>by
  show("|":Str)::m ::(ns++(":":Str) ::(b.ws++r.ws))=(("|":Str)::mr (m,ns,b))++r.ls.flatMap _
  rw[PN r];simp[mr]
theorem Ep{α:Type}{f:α->List Str}(hf:∀z,f z ≠ []):∀(z:α)(r:List α),Txt.join " " (f z++r.flatMap λy=>("|":Str)::f y)=Txt.join " | " ((z::r).map λy=>Txt.join " " (f y))
 |z,[]=>by rw[List.flatMap_nil,qp];exact Eo.symm
 |z,y::r=>by
  rw[Y0,tj (hf z) (by simp),Zk,eZ (by simp[hf y]),Ep hf y r]
  simp only[CH];rw[gY];rw[show(" | ":Str)=" " ++ ("|" ++ " ")from by decide +kernel]
  simp only[assoc]
theorem MD(z:Str×List Str×Bd):Txt.join " " (mr z)=Txt.join " " (z.1::z.2.1) ++ " : " ++ Txt.join " " z.2.2.ws:=by
 show Txt.join " " ((z.1::z.2.1)++(":":Str)::z.2.2.ws)=_;rw[tj (by simp) (by simp),eZ z.2.2.ne,show(" : ":Str)=" " ++ (":" ++ " ")from by decide +kernel]
 simp only[assoc]
theorem Px(z:Str×List Str×Bd):mr z ≠ []:=xT _ _
theorem Ur{as:Ar}(h:as ≠ .nil):Txt.join " " (Bd.cas x as).ws="case " ++ (x++(" " ++ (Txt.join " | " (as.ls.map λz=>Txt.join " " (mr z)) ++ " end"))):=by
 cases as with
 |nil=>exact absurd U h
 |cons m ns b r =>
  have e:(Ar.cons m ns b r).ws.tail=mr (m,ns,b)++r.ls.flatMap λy=>("|":Str)::mr y:=by rw[PN];rfl
  show Txt.join " " ("case" :: x ::((Ar.cons m ns b r).ws.tail++[("end":Str)]))=_
  rw[eZ (by simp),eZ (by simp),tj (by rw[e];simp[mr]) (by simp),e,Ep Px,show("case ":Str)="case" ++ " " from by decide +kernel]
  simp only[assoc];rfl
theorem Pq{w:Str}:Txt.join " " (Bd.mm w n b).ws=w++(" " ++ (ka n++(" ; " ++ Txt.join " " b.ws))):=by
 show Txt.join " " (w::ka n :: ";" :: b.ws)=_;rw[eZ (by simp),eZ (by simp),eZ b.ne,show(" ; ":Str)=" " ++ (";" ++ " ")from by decide +kernel]
 simp only[assoc]
theorem S8:Txt.join " " (Bd.nam x y b).ws="let " ++ (x++(" name " ++ (y++(" ; " ++ Txt.join " " b.ws)))):=by
 show Txt.join " " ("let" :: x :: "name" :: y :: ";" :: b.ws)=_
 rw[eZ (by simp),eZ (by simp),eZ (by simp),eZ (by simp),eZ b.ne,show(" ; ":Str)=" " ++ (";" ++ " ")from by decide +kernel,show("let ":Str)="let" ++ " " from by decide +kernel,show(" name ":Str)=" " ++ ("name" ++ " ")from by decide +kernel]
 simp only[assoc]
theorem Wi{w:Str}:Txt.join " " (Bd.mk w x y ns b).ws=Txt.join " " (("let":Str)::x::w::y::ns)++(" ; " ++ Txt.join " " b.ws):=by
 show Txt.join " " ((("let":Str)::x::w::y::ns)++(";":Str)::b.ws)=_
 rw[tj (by simp) (by simp),eZ b.ne,show(" ; ":Str)=" " ++ (";" ++ " ")from by decide +kernel]
 simp only[assoc]
theorem Jp(h:b.ok)(hw:b.wt<=2000):(Txt.join " " b.ws).length<=20000:=by
 have h1:=pK " " b.ws;have h2:=(Bd.sh h).sum;have h3:=b.wl;rw[show(" ":Str).length=1 from by decide]at h1
 lia
theorem never{w:Da}{K:BT}{CX:CXT}{k:Nat}{f:J}{fd:Ch}{ps:List Str}{sp:PSp}(h:∀ts Q,¬ sp ts Q):aV P w K mg base CX k f fd ps (spQ K sp) :=
 (λ_ _ _ _ g=>by let(_,ts,_,Qp,_,_,z,_):=g;exact(h ts Qp z).elim,λ_ _ _ _ _ _ _ _ _ _ _ _ _ g=>by let(_,ts,_,Qp,_,_,z,_):=g;exact(h ts Qp z).elim)
inductive So(n:Nat)(ts:List L2.T)(Q:L2.T->Prop):Prop
 |mk(b:Bd)(h1:ts=[b.t])(h2:b.ok)(h3:b.wt<=2000)(h4:b.cd<n)(h5:Q (.s (Txt.join " " b.ws)))
theorem Lo:∀as:Ar,as.ls.length<=as.wt
 |.nil=>oa _
 |.cons m ns b r=>by show r.ls.length+1<=3+ns.length+b.wt+r.wt;have:=Lo r;lia
theorem Ln:∀{as:Ar},as.ok->∀z∈as.ls,ar z.1=O/\(∀k∈z.2.1,ar k=O)/\z.2.2.ok/\z.2.2.wt<=as.wt/\z.2.1.length<=as.wt/\z.2.2.cd<=as.cd
 |.nil,_,z,g=>nomatch g
 |.cons m ns b r,(h1,h2,h3,h4),z,g=>by
  have V:(Ar.cons m ns b r).wt=3+ns.length+b.wt+r.wt:=rfl;have Q:(Ar.cons m ns b r).cd=max b.cd r.cd:=rfl;obtain u|u:=fx.mp (g)
  ·subst u;exact(h1,h2,h3,by lia,by lia,by lia)
  ·let(g1,g2,g3,P,K,q):=Ln h4 z u;exact(g1,g2,g3,by lia,by lia,by lia)
def aT(z:Str×List Str×Bd):L2.T:=.s (Txt.join " " (mr z))
theorem yG{z:Str×List Str×Bd}(g1:ar z.1=O)(g2:∀k∈z.2.1,ar k=O)(g3:z.2.2.ok)(q:z.2.2.wt<=2000)(P:z.2.1.length<=2000):
  txs ([L2.T.s z.1]++z.2.1.map L2.T.s)=Z (z.1::z.2.1)/\((z.1::z.2.1).map (·.length)).sum+(z.1::z.2.1).length*(Str.ofString " ").length<=16777216 /\ [L2.T.s z.1].length+(z.2.1.map L2.T.s).length<=ot /\
  (Txt.join " " (z.1::z.2.1)).length+(" : ":Str).length<=ot/\(Txt.join " " (z.1::z.2.1) ++ " : ").length+(Txt.join " " z.2.2.ws).length<=ot:=by
 have hs:=Sh.sum (.cons (bw g1).2 (.nm g2));rw[my]at hs;have l1:(Str.ofString " ").length=1:=by decide +kernel
 have l3:(Str.ofString " : ").length=3:=by decide +kernel
 have g:=pK " " (z.1::z.2.1);rw[my,l1]at g;have K:=Jp g3 q;refine(cW (z.1::z.2.1),by rw[l1,my];lia,bF (by rw[gV];show 1+z.2.1.length<=_;lia),bF (by lia),bF (by rw[Str.length_append];lia))
def TxI(n:Nat)(b0:Bd)(q:Sq)(c:Nat):Prop:=∃(o0:Sl)(b:Bd)(fo:Str),q=[o0,.o (.s fo),.no,.no,.no,.no]/\(o0=.r b.t\/o0=.o b.t)/\b.ok/\b.wt<=2000/\b.cd<n+1/\fo++Txt.join " " b.ws=Txt.join " " b0.ws/\c=b.wt
theorem zG(T:Txt K mg a)(n:Nat):aV P w K mg base CX0 (n+1) a.jM a.uz [TW] (spQ K (So n)):=by
 induction n with
 |zero=>exact never λts Q h=>by let(b,_,_,_,z,_):=h;lia
 |succ n nE =>
  refine T.nH.F.okQ bX (λts Q h=>?_) (λ_ _ _ _ _ _ hr=>?_)
  ·let(_,U,_):=h;rfl
  ·have hu:=cj hr;refine(_,_,((ai (aG 1 bX.nd aj)
 (ai (mR PassesOwn.never (bO (sQ U) jU U (bQ (qv 0) ao) (ZB (b6 (dZ (by rfl)))))
 (ai (bN (bO (pC U) jU U (bQ (qv 0) ao) (ZB (b6 (dZ (by rfl)))))
 (ay (aG 1 bX.nd (ag (ZB (ag (ZB (ag (ZB (ag (qv 1) (bQ (qv 0) ao))) (ZB aj))) (ZB (aU IJ JH (by rfl) T.Xb (by kernel_rfl) (ae (bQ (qv 0) ao) az))))) (ZB aj))))
 (ay (bN (ff hu (bQ (qv 0) ao) (ZB aj))
 (ay (aG 1 bX.nd (ag (ZB (ag (ZB (ag (ZB (ag (ZB (ag (qv 1) (ZB aj))) (bQ (qv 0) ao))) (ZB aj))) (bQ (qv 0) ao))) (ZB aj))))
 (ay (aG 1 bX.nd (ag (ZB (ag (qv 1) (ZB (fM (ZB aj) (ZB (ag (ZB (aR (af aj (af (XL (bQ (qv 0) ao)) (af (XL (bQ (qv 0) ao)) (af (XL (bQ (qv 0) ao)) aF)))))) (ZB (aU (kK U) nK (by rfl) T.tO (by kernel_rfl) (ae (bQ (qv 0) ao) az))))))))) (ZB aj)))))))
 (ay (aG 0 bX.nd (XL (bQ (qv 0) (ZB (iS ao))))))))
 (ai (bN (ff hu (bQ (qv 0) ao) (ZB aj))
 (ay (aN (ag (ZB (ag (qv 1) (ZB aj))) (bQ (qv 0) ao))))
 aP)
 (ai (aG 2 bX.nd (aR aF))
 (ai (j7 (g:=(Tg.tp [3,4,5])) PassesOwn.never U (zj (XL (bQ (qv 0) ao))) (zw (K:=K) (n:=3) U U (fD (j9 3 bX.nd) (fD (j9 4 bX.nd) (fD (j9 5 bX.nd) vh))))
 (ay (ik (i:=2) (pv 2) (ag (ZB (ag (ZB (fM (ZB aj) (ZB (ag (ZB (aR (af (XL (qv 3)) aF))) (ZB (aU (kK U) nK (by rfl) T.tO (by kernel_rfl) (ae (qv 4) az))))))) (ZB aj))) (ZB (aS nE hr T.nH (ae (qv 5) az)))))))
 (ay (aN (ag (ZB (ag (ZB (ag (ZB (ag (ZB (ag (qv 1) (ZB aj))) (bQ (qv 0) ao))) (ZB aj))) (ZB (fM (ZB aj) (qv 2))))) (ZB aj)))))))))),λts Q h=>?_)
   let(b0,U,aD,aw,aH,hq):=h;have aL:=Jp aD aw;refine(λc q=>TxI n b0 q c,(_,_,b0,"",U,.inl U,aD,aw,aH,empty_append _,U),?_)
   rintro c q ⟨o0,b,fo,rfl,ho,hb,hw,hn,hf,rfl⟩
   have V:fo.length+(Txt.join " " b.ws).length<=20000:=by rw[<- Str.length_append,hf];exact aL
   cases b with
   |give x =>
    have e:Txt.join " " (Bd.give x).ws="give " ++ x:=by
     show Txt.join " " ["give",x]=_;rw[gY,Eo];rfl
    rw[e]at hf V;rw[<- hf,<- assoc]at hq;rw[Str.length_append]at V;obtain rfl|rfl:=ho
    all_goals
     refine(_,U,U,a7 (λz=>absurd z (by decide +kernel)) (λ_=>?_))
     refine(_,U,U,a7 (λ_=>?_) (λz=>absurd (by decide +kernel) z))
     exact(bF (by lia),_,U,bF (by rw[Str.length_append];lia),hq)
   |mm w k b =>
    let(ah,k1,k2,hb):=hb;have ak:(Bd.mm w k b).wt=4+b.wt:=rfl;have au:(Bd.mm w k b).cd=b.cd:=rfl;rw[Pq]at hf V;simp only[Str.length_append]at V;have hf:fo++w ++ " " ++ ka k ++ " ; " ++ Txt.join " " b.ws=Txt.join " " b0.ws:=by rw[<- hf];simp only[assoc]
    have ln:=(zH k2).2;have lw:w.length=3:=by obtain rfl|rfl:=ah <;> decide +kernel
    have l1:(" ":Str).length=1:=by decide +kernel
    have l3:(" ; ":Str).length=3:=by decide +kernel
    obtain rfl|rfl:=ah
    all_goals
     obtain rfl|rfl:=ho
     all_goals
      refine(_,U,U,a7 (λ_=>?_) (λz=>absurd (by decide +kernel) z))
      refine(λq=>∃c,c<_/\TxI n b0 q c,λq h=>h,?_)
      refine(_,U,U,a7 (λ_=>?_) (λz=>absurd (by decide +kernel) z))
      refine(_,U,bF (by lia),bF (by rw[Str.length_append];lia),_,U,HK k2,bF (by simp only[Str.length_append];lia),bF (by simp only[Str.length_append];lia),?_)
      exact(_,U,b.im,b.wt,by lia,_,b,_,U,.inr U,hb,by lia,by lia,hf,U)
   |nam x y b =>
    let(h1,h2,hb):=hb;have ak:(Bd.nam x y b).wt=6+b.wt:=rfl;have au:(Bd.nam x y b).cd=b.cd:=rfl;rw[S8]at hf V;simp only[Str.length_append]at V;have hf:fo ++ "let " ++ x ++ " name " ++ y ++ " ; " ++ Txt.join " " b.ws=Txt.join " " b0.ws:=by rw[<- hf];simp only[assoc]
    obtain rfl|rfl:=ho
    all_goals
     refine(_,U,U,a7 (λ_=>?_) (λz=>absurd (by decide +kernel) z))
     refine(λq=>∃c,c<_/\TxI n b0 q c,λq h=>h,?_)
     refine(_,U,U,a7 (λz=>absurd z (by decide +kernel)) (λ_=>?_))
     refine(_,U,U,a7 (λ_=>?_) (λz=>absurd (by decide +kernel) z))
     refine(bF (by lia),_,U,bF (by simp only[Str.length_append];lia),bF (by simp only[Str.length_append];lia),_,U,bF (by simp only[Str.length_append];lia),bF (by simp only[Str.length_append];lia),?_)
     exact(_,U,b.im,b.wt,by lia,_,b,_,U,.inr U,hb,by lia,by lia,hf,U)
   |mk w x y ns b =>
    let(ah,h1,h2,h3,hb):=hb;have ak:(Bd.mk w x y ns b).wt=6+ns.length+b.wt:=rfl;have au:(Bd.mk w x y ns b).cd=b.cd:=rfl;rw[Wi]at hf V;simp only[Str.length_append]at V;have hf:fo++Txt.join " " (("let":Str)::x::w::y::ns) ++ " ; " ++ Txt.join " " b.ws=Txt.join " " b0.ws:=by rw[<- hf];simp only[assoc]
    have hs:((("let":Str)::x::w::y::ns).map (·.length)).sum<=8*(("let":Str)::x::w::y::ns).length:=Sh.sum (.cons (by decide) (.cons (bw h1).2 (.cons (by obtain h|h:=ah <;> rw[h] <;> decide) (.cons (bw h2).2 (.nm h3)))))
    have hi:=aW ns;have t1:(!inT (.s w) [.s "give",.s "case"])=true:=by obtain rfl|rfl:=ah <;> decide +kernel
    have t2:¬ inT (.s w) [.s "pay",.s "get"]=true:=by obtain rfl|rfl:=ah <;> decide +kernel
    have t3:¬ decide ((L2.T.s w).v=(L2.T.s "name").v)=true:=by obtain rfl|rfl:=ah <;> decide +kernel
    have l1:(Str.ofString " ").length=1:=by decide +kernel
    have le:(("let":Str)::x::w::y::ns).length=ns.length+4:=rfl
    rw[le]at hs;have et:txs ([L2.T.s "let",.s x,.s w,.s y]++ns.map L2.T.s)=Z (("let":Str)::x::w::y::ns):=cW (("let":Str)::x::w::y::ns)
    have eb:((("let":Str)::x::w::y::ns).map (·.length)).sum+(("let":Str)::x::w::y::ns).length*(Str.ofString " ").length<=16777216:=by rw[l1,le];lia
    have el:[L2.T.s "let",.s x,.s w,.s y].length+(ns.map L2.T.s).length<=ot:=bF (by rw[gV];show 4+ns.length<=_;lia)
    have e2:fo.length+(Txt.join " " (("let":Str)::x::w::y::ns)).length<=ot:=bF (by lia)
    have e3:(fo++Txt.join " " (("let":Str)::x::w::y::ns)).length+(" ; ":Str).length<=ot:=bF (by rw[Str.length_append];lia)
    obtain rfl|rfl:=ho
    ·refine(_,U,U,a7 (λ_=>?_) (λz=>absurd t1 z))
     refine(λq=>∃c,c<_/\TxI n b0 q c,λq h=>h,?_)
     refine(_,U,U,a7 (λz=>absurd z t2) (λ_=>?_))
     refine(_,U,U,a7 (λz=>absurd z t3) (λ_=>?_))
     refine(_,U,U,_,U,U,_,U,U,_,U,hi,el,U,hi,_,et,eb,e2,e3,?_);exact(_,U,b.im,b.wt,by lia,_,b,_,U,.inr U,hb,by lia,by lia,hf,U)
    ·refine(_,U,U,a7 (λ_=>?_) (λz=>absurd t1 z))
     refine(λq=>∃c,c<_/\TxI n b0 q c,λq h=>h,?_)
     refine(_,U,U,a7 (λz=>absurd z t2) (λ_=>?_))
     refine(_,U,U,a7 (λz=>absurd z t3) (λ_=>?_))
     refine(_,U,U,_,U,U,_,U,U,_,U,hi,el,U,hi,_,et,eb,e2,e3,?_);exact(_,U,b.im,b.wt,by lia,_,b,_,U,.inr U,hb,by lia,by lia,hf,U)
   |cas x as =>
    let(h1,h2,h3):=hb;have ak:(Bd.cas x as).wt=4+as.wt:=rfl;have au:(Bd.cas x as).cd=as.cd+1:=rfl;rw[Ur h2]at hf V;simp only[Str.length_append]at V;have hf:fo ++ "case " ++ x ++ " " ++ Txt.join " | " (as.ls.map λz=>Txt.join " " (mr z)) ++ " end"=Txt.join " " b0.ws:=by rw[<- hf];simp only[assoc]
    rw[<- hf]at hq;have aX:=Lo as;have e1:fo.length+("case ":Str).length<=ot:=bF (by lia)
    have e2:(fo ++ "case ").length+x.length<=ot:=bF (by simp only[Str.length_append];lia)
    have e3:(fo ++ "case " ++ x).length+(" ":Str).length<=ot:=bF (by simp only[Str.length_append];lia)
    have e4:txs (as.ls.map aT)=Z (as.ls.map λz=>Txt.join " " (mr z)):=by
     rw[<- cW,Zb];rfl
    have e5:((as.ls.map λz=>Txt.join " " (mr z)).map (·.length)).sum+(as.ls.map λz=>Txt.join " " (mr z)).length*(Str.ofString " | ").length<=16777216:=by
     have h:(Txt.join " | " (as.ls.map λz=>Txt.join " " (mr z))).length=_:=PySem.size_glued " | " (as.ls.map λz=>Txt.join " " (mr z))
     rw[show(Str.ofString " | ").length=3 from by decide +kernel]at h ⊢
     rw[gV]at h ⊢
     lia
    have e6:(fo ++ "case " ++ x ++ " ").length+(Txt.join " | " (as.ls.map λz=>Txt.join " " (mr z))).length<=ot:=bF (by simp only[Str.length_append];lia)
    have e7:(fo ++ "case " ++ x ++ " " ++ Txt.join " | " (as.ls.map λz=>Txt.join " " (mr z))).length+(" end":Str).length<=ot:=bF (by simp only[Str.length_append];lia)
    obtain rfl|rfl:=ho
    ·refine(_,U,U,a7 (λz=>absurd z (by decide +kernel)) (λ_=>?_))
     refine(_,U,U,a7 (λz=>absurd z (by decide +kernel)) (λ_=>?_))
     refine(_,U,as.im,λi q=>P3 λ(o3 o4 o5:Sl)=>q=[.r (Bd.cas x as).t,.o (.s fo),.o (.l ((as.ls.take i).map aT)),o3,o4,o5],(_,_,_,U),?_,?_)
     ·rintro i t q ht ⟨o3,o4,o5,rfl⟩
      rw[AL,tW]at ht;let(z,hz,U):=kg.mp ht;let(g1,g2,g3,g4,g5,g6):=Ln h3 z (Au hz);let(et,eb,el,e2,e3):=yG g1 g2 g3 (by lia) (by lia)
      have hi:=aW z.2.1;refine(_,U,aM (by rw[gV,xU];lia),?_)
      refine(U,hi,el,U,hi,_,et,eb,e2,z.2.2,U,g3,by lia,by lia,e3,?_)
      have es:(as.ls.take (i+1)).map aT=(as.ls.take i).map aT++[.s (Txt.join " " (z.1::z.2.1) ++ " : " ++ Txt.join " " z.2.2.ws)]:=by
       rw[Jc,hz,uj,<- MD];rfl
      exact(_,_,_,by rw[es];rfl)
     ·rintro q ⟨o3,o4,o5,rfl⟩
      rw[AL,gV,Fs];exact(e1,_,U,e2,e3,_,e4,e5,e6,e7,hq)
    ·refine(_,U,U,a7 (λz=>absurd z (by decide +kernel)) (λ_=>?_))
     refine(_,U,U,a7 (λz=>absurd z (by decide +kernel)) (λ_=>?_))
     refine(_,U,as.im,λi q=>P3 λ(o3 o4 o5:Sl)=>q=[.o (Bd.cas x as).t,.o (.s fo),.o (.l ((as.ls.take i).map aT)),o3,o4,o5],(_,_,_,U),?_,?_)
     ·rintro i t q ht ⟨o3,o4,o5,rfl⟩
      rw[AL,tW]at ht;let(z,hz,U):=kg.mp ht;let(g1,g2,g3,g4,g5,g6):=Ln h3 z (Au hz);let(et,eb,el,e2,e3):=yG g1 g2 g3 (by lia) (by lia)
      have hi:=aW z.2.1;refine(_,U,aM (by rw[gV,xU];lia),?_)
      refine(U,hi,el,U,hi,_,et,eb,e2,z.2.2,U,g3,by lia,by lia,e3,?_)
      have es:(as.ls.take (i+1)).map aT=(as.ls.take i).map aT++[.s (Txt.join " " (z.1::z.2.1) ++ " : " ++ Txt.join " " z.2.2.ws)]:=by
       rw[Jc,hz,uj,<- MD];rfl
      exact(_,_,_,by rw[es];rfl)
     ·rintro q ⟨o3,o4,o5,rfl⟩
      rw[AL,gV,Fs];exact(e1,_,U,e2,e3,_,e4,e5,e6,e7,hq)
theorem Yt(z:Fh×Bd):iz z=Txt.join " " (("def":Str)::z.1.nm::pws z.1.ps) ++ " to " ++ z.1.kd ++ " : " ++ Txt.join " " z.2.ws:=by
 show Txt.join " " ((("def":Str)::z.1.nm::pws z.1.ps)++("to":Str)::z.1.kd :: ":" :: z.2.ws)=_;rw[tj (xT _ _) (xT _ _)]
 generalize Txt.join " " (("def")::z.1.nm::pws z.1.ps)=D
 rw[eZ (xT _ _),eZ (xT _ _),eZ z.2.ne,show(" to ":Str)=" " ++ ("to" ++ " ")from by decide +kernel,show(" : ":Str)=" " ++ (":" ++ " ")from by decide +kernel]
 simp only[assoc]
inductive Sv(ts:List L2.T)(Q:L2.T->Prop):Prop
 |mk(ks fs:_)(h1:ts=[pT ks fs])(h2:ET ks fs)(h3:(∀z∈fs,z.2.cd<190))(h4:Q (.l ((ks.map gM++fs.map iz).map .s)))
theorem FZ(T:Txt K mg a):aV P w K mg base CX0 192 a.z5 a.Mi [SZ] (spQ K Sv):=by
 refine T.AB.F.okQ gQ (λts Q h=>?_) (λ_ _ _ _ _ _ hr=>?_)
 ·let(_,_,U,_):=h;rfl
 ·have hu:=cj hr;refine(_,_,((ai (aG 1 gQ.nd (aR aF))
 (ai (j7 (g:=(Tg.tp [2,3])) PassesOwn.never U (zj (XL (bQ (qv 0) ao))) (K3 (j9 2 gQ.nd) (j9 3 gQ.nd))
 (ai (zi (i:=4) gQ.nd U (Or.inl U) U (RV (qv 3)) (N':=["_law_maker","_law_fields"]) (.own U (.own U .nil)) (j8 (g:=(Tg.tp [0,1])) (λ_ _ _ _ _=>((K3 (uN 0) (uN 1)),(fM (ZB aj) (ZB (ag (ZB (aR (af (XL (qv 0)) aF))) (ZB (aU (kK U) nK (by rfl) T.tO (by kernel_rfl) (ae (qv 1) az))))))))))
 (ay (ik (i:=1) (pv 1) (ag (ZB (ag (ZB (ag (ZB aj) (qv 2))) (ZB aj))) (ZB (fM (ZB aj) (qv 4))))))))
 (ai (j7 (g:=(Tg.tp [2,5,6,7])) PassesOwn.never U (zj (XL (bQ (qv 0) ao))) (zw (K:=K) (n:=4) U U (fD (j9 2 gQ.nd) (fD (j9 5 gQ.nd) (fD (j9 6 gQ.nd) (fD (j9 7 gQ.nd) vh)))))
 (ai (aG 8 gQ.nd (aR (af aj (af (XL (qv 2)) aF))))
 (ai (j7 (g:=(Tg.nm 9)) PassesOwn.never U (zj (XL (qv 5))) (j9 9 gQ.nd)
 (ay (Hw (i:=8) (pv 8) (aU (kK U) nK (by rfl) T.tO (by kernel_rfl) (ae (qv 9) az)))))
 (ay (ik (i:=1) (pv 1) (ag (ZB (ag (ZB (ag (ZB (ag (ZB (fM (ZB aj) (qv 8))) (ZB aj))) (qv 6))) (ZB aj))) (ZB (aS (zG T 190) hr T.nH (ae (qv 7) az)))))))))
 (ay (zh (i:=1) (pv 1))))))),λts Q h=>?_)
  let(ks,fs,U,hp,hd,hq):=h;have hl:=hp.l;refine(_,U,fj BZ ks,λi q=>P3 λ(o2 o3 o4:Sl)=>q=[.r (pT ks fs),.o (.l (((ks.take i).map gM).map .s)),o2,o3,o4,.no,.no,.no,.no,.no],(_,_,_,U),?_,?_)
  ·rintro i t q V ⟨o2,o3,o4,rfl⟩
   rw[tW]at V;let(k,hk,U):=kg.mp V;have ok:=hp.k k (Au hk);have e1:∀m∈k.2,txs ([L2.T.s m.1]++m.2.map L2.T.s)=Z (m.1::m.2):=λm _=>cW (m.1::m.2)
   refine(_,U,bo (by rw[gV];have:=ok.l;lia),λj ys=>ys=(k.2.take j).map λm=>.s (Txt.join " " (m.1::m.2)),U,?_,?_)
   ·rintro j t ys V rfl
    rw[tW]at V;let(m,hm,U):=kg.mp V;have mo:=ok.m m (Au hm);have hi:=aW m.2;have ml:=Ll mo;refine(_,U,U,hi,bF (by rw[gV];show 1+m.2.length<=_;lia),U,hi,_,e1 m (Au hm),by rw[my,show(Str.ofString " ").length=1 from by decide +kernel];lia,?_)
    rw[Jc,hm,uj];rfl
   ·rintro ys rfl
    rw[gV,Fs];have kl:=Lz ok;unfold gM at kl;simp only[Str.length_append]at kl;have e2:txs (k.2.map λm=>L2.T.s (Txt.join " " (m.1::m.2)))=Z (k.2.map λm=>Txt.join " " (m.1::m.2)):=by rw[<- cW,Zb];rfl
    have e3:=zN ok.m;have e4:=ok.l;have ek:((ks.take (i+1)).map gM).map L2.T.s=((ks.take i).map gM).map L2.T.s++[.s (gM k)]:=by
     rw[Jc,hk,uj,uj];rfl
    refine(aM (by rw[gV,gV,xU];lia),bF (by lia),bF (by simp only[Str.length_append];lia),_,e2,by rw[gV,show(Str.ofString " | ").length=3 from by decide +kernel];lia,bF (by simp only[Str.length_append];lia),?_)
    exact(_,_,_,by rw[ek];rfl)
  rintro q ⟨o2,o3,o4,rfl⟩
  rw[gV,Fs];refine(_,U,fj QQ fs,λi q=>Ea8 λ(o2 o3 o4 o5 o6 o7 o8 o9:Sl)=>q=[.r (pT ks fs),.o (.l ((ks.map gM++(fs.take i).map iz).map .s)),o2,o3,o4,o5,o6,o7,o8,o9],(_,_,_,_,_,_,_,_,by rw[List.take_zero,List.map_nil,qp]),?_,?_)
  ·rintro i t q V ⟨o2,o3,o4,o5,o6,o7,o8,o9,rfl⟩
   rw[tW]at V;let(z,hz,U):=kg.mp V;have hm:=Au hz;have ok:=hp.f z hm;have ol:=ok.l;refine(_,U,U,wy z.1.ps,λj q=>∃(o9:Sl),q=[.r (pT ks fs),.o (.l ((ks.map gM++(fs.take i).map iz).map .s)),.r (.s z.1.nm),o3,o4,.r (tPs z.1.ps),.r (.s z.1.kd),.r z.2.t,.o (.l ((("def":Str)::z.1.nm::pws (z.1.ps.take j)).map .s)),o9],(_,U),?_,?_)
   ·rintro j t q V ⟨o9,rfl⟩
    rw[tW]at V;let(p,ak,U):=kg.mp V;have ep:(("def":Str)::z.1.nm::pws (z.1.ps.take (j+1))).map L2.T.s=(("def":Str)::z.1.nm::pws (z.1.ps.take j)).map L2.T.s++[.s p.1,.s p.2]:=by
     rw[Jc,ak];unfold pws;rw[List.flatMap_append];simp
    have el:(pws (z.1.ps.take j)).length<=1400:=by rw[qG,xU];lia
    refine(_,U,U,bF (by rw[gV,my,my];show _+2<=_;lia),_,by rw[ep];rfl)
   ·rintro q ⟨o9,rfl⟩
    rw[gV,Fs];have ft:=Yt z;have fl:=LW ok;rw[ft]at fl;simp only[Str.length_append]at fl;have hs:((("def":Str)::z.1.nm::pws z.1.ps).map (·.length)).sum<=8*(("def":Str)::z.1.nm::pws z.1.ps).length:=Sh.sum (.cons (by decide) (.cons (bw ok.n).2 (Kz ok.p)))
    have au:=qG z.1.ps;have ah:(("def":Str)::z.1.nm::pws z.1.ps).length=(pws z.1.ps).length+2:=rfl;rw[ah]at hs;have ef:((ks.map gM++(fs.take (i+1)).map iz).map L2.T.s)=(ks.map gM++(fs.take i).map iz).map L2.T.s++[.s (iz z)]:=by
     rw[Jc,hz,uj (l₁:=fs.take i),<- Ay,uj];rfl
    rw[ft]at ef;refine(aM (by rw[gV,qd,gV,gV,xU];lia),_,cW (("def":Str)::z.1.nm::pws z.1.ps),by rw[ah,show(Str.ofString " ").length=1 from by decide +kernel];lia,bF (by lia),bF (by simp only[Str.length_append];lia),bF (by simp only[Str.length_append];lia),z.2,U,ok.b,ok.w,by have:=hd z hm;lia,bF (by simp only[Str.length_append];lia),?_)
    exact(_,_,_,_,_,_,_,_,by rw[ef];rfl)
  ·rintro q ⟨o2,o3,o4,o5,o6,o7,o8,o9,rfl⟩
   rw[gV,Fs];exact hq
theorem pF{due:Str}(hd:ar due=ϊ){l:List Str}:∀{ns:List Str},(∀m∈ns,ar m=O)->fNames due (ns++due::l)=Z (ns,l)
 |[],_=>by show fNames due (due::l)=_;rw[fNames,if_pos rfl]
 |n::r,h=>by
  have hn:=h n di;show fNames due (n ::(r++due::l))=_;rw[fNames,if_neg (λe=>by rw[e,hd]at hn;cases hn),if_pos hn,pF hd λm hm=>h m (aJ _ hm)]
  rfl
theorem semi:ar ";"=false:=by decide +kernel
theorem colon:ar ":"=false:=by decide +kernel
theorem Cv(hm:ar m=O)(hn:∀k∈ns,ar k=O):lL (m ::(ns++(":":Str)::l))=Z ([.s m,.t (ns.map .s)],l):=by
 show(if ar m=O then(fNames ":" (ns++(":":Str)::l)).map _ else Y)=_
 rw[if_pos hm,pF colon hn];rfl
def After(cs:List Oc)(u:L2.T)(l:List Str)(o:Option (L2.T×List Str)):Prop:=match bu cs u l with
 |.fin b l=>o=Z (b,l)
 |.on cs l=>Run (cs,[],l) o
 |.bad=>o=Y
theorem nI(hts:List (List L2.T))(h:List L2.T)(b:L2.T):df (hts++[h]) b=df hts (.t (h++[b])):=by
 unfold df;rw[List.foldr_append];rfl
theorem Hs{u:L2.T}{o:Option (L2.T×List Str)}(hs:fu s=(bu cs u l).stp)(h:After cs u l o):Run s o:=by
 unfold After at h;cases e:bu cs u l with
 |fin b l'=>rw[e]at h hs;rw[h];exact .fin hs
 |on cs' l'=>rw[e]at h hs;exact .on hs h
 |bad=>rw[e]at h hs;rw[h];exact .bad hs
mutual
theorem sI:∀{b:Bd},b.ok->∀{cs:List Oc}{hts:List (List L2.T)}{l:List Str}{o:Option (L2.T×List Str)},After cs (df hts b.t) l o->Run (cs,hts,b.ws++l) o
 |.give x,g,cs,hts,l,o,h=>Hs (u:=df hts (Bd.give x).t) (l:=l) (cs:=cs) (by
   have g:ar x=true:=g;show(if("give":Str)="case" then _ else if("give":Str)="give" then(if ar x=O then _ else _)else _)=_
   rw[if_neg (by decide),if_pos U,if_pos g]
   rfl) h
 |.mm w n b,(h1,h2,h3,h4),cs,hts,l,o,h=>by
  let(P,K):=Lf h2 h3;have e:cQ w (ka n ::(";":Str) ::(b.ws++l))=Z ([.s w,.i n],b.ws++l):=by
   unfold cQ;rw[if_neg (by obtain h|h:=h1 <;> rw[h] <;> decide),if_pos h1]
   show(if dH (ka n)=O then(oo ";" ((";":Str) ::(b.ws++l))).map (λz=>Prod.mk [L2.T.s w,.i (intOf (ka n))] z.2)else Y)=_
   rw[if_pos P,K];rfl
  refine .on (s':=(cs,hts++[[.s w,.i n]],b.ws++l)) ?_ (sI h4 (by rw[nI];exact h))
  show(if w="case" then _ else if w="give" then _ else match cQ w (ka n ::(";":Str) ::(b.ws++l))with|some (h,l2)=>Stp.on (cs,hts++[h],l2)|none=>.bad)=_
  rw[if_neg (by obtain h|h:=h1 <;> rw[h] <;> decide),if_neg (by obtain h|h:=h1 <;> rw[h] <;> decide),e]
 |.nam x y b,(h1,h2,h3),cs,hts,l,o,h=>by
  have e:cQ "let" (x :: "name" :: y ::(";":Str) ::(b.ws++l))=Z ([.s "name",.s x,.s y],b.ws++l):=by
   unfold cQ;rw[if_pos rfl];show(if ar x=O then if("name":Str)="make" \/ ("name":Str)="call" \/ ("name":Str)="name" then if ar y=O then if("name":Str)="name" then _ else _ else Y else Y else Y)=_
   rw[if_pos h1,if_pos (.inr (.inr U)),if_pos h2,if_pos rfl];rfl
  refine .on (s':=(cs,hts++[[.s "name",.s x,.s y]],b.ws++l)) ?_ (sI h3 (by rw[nI];exact h))
  show(if("let":Str)="case" then _ else if("let":Str)="give" then _ else match cQ "let" (x :: "name" :: y ::(";":Str) ::(b.ws++l))with|some (h,l2)=>Stp.on (cs,hts++[h],l2)|none=>.bad)=_
  rw[if_neg (by decide),if_neg (by decide),e]
 |.mk w x y ns b,(h1,h2,h3,h4,h5),cs,hts,l,o,h=>by
  have e:cQ "let" (x::w::y ::(ns++(";":Str) ::(b.ws++l)))=Z ([.s w,.s x,.s y,.t (ns.map .s)],b.ws++l):=by
   unfold cQ;rw[if_pos rfl];show(if ar x=O then if w="make" \/ w="call" \/ w="name" then if ar y=O then if w="name" then _ else(fNames ";" (ns++(";":Str) ::(b.ws++l))).map _ else Y else Y else Y)=_
   rw[if_pos h2,if_pos (by obtain h|h:=h1;exact .inl h;exact .inr (.inl h)),if_pos h3,if_neg (by obtain h|h:=h1 <;> rw[h] <;> decide),pF semi h4]
   rfl
  refine .on (s':=(cs,hts++[[.s w,.s x,.s y,.t (ns.map .s)]],b.ws++l)) ?_ (sI h5 (by rw[nI];exact h))
  have q:(Bd.mk w x y ns b).ws++l=("let":Str)::x::w::y ::(ns++(";":Str) ::(b.ws++l)):=by
   show(("let":Str)::x::w::y ::(ns++(";":Str)::b.ws))++l=_
   simp
  rw[q];show(if("let":Str)="case" then _ else if("let":Str)="give" then _ else match cQ "let" (x::w::y ::(ns++(";":Str) ::(b.ws++l)))with|some (h,l2)=>Stp.on (cs,hts++[h],l2)|none=>.bad)=_
  rw[if_neg (by decide),if_neg (by decide),e]
 |.cas x .nil,(_,h,_),_,_,_,_,_=>absurd U h
 |.cas x (.cons m ns b r),(h1,_,h2,h3,h4,h5),cs,hts,l,o,h=>by
  have q:(Bd.cas x (.cons m ns b r)).ws++l=("case":Str)::x::m ::(ns++(":":Str) ::(b.ws++(r.ws++("end":Str)::l))):=by
   show(("case":Str)::x ::(m ::(ns++(":":Str) ::(b.ws++r.ws))++[("end":Str)]))++l=_
   simp
  refine .on (s':=((hts,x,[],[.s m,.t (ns.map .s)])::cs,[],b.ws++(r.ws++("end":Str)::l))) ?_ (sI h4 (JW h5 h));rw[q];show(if("case":Str)="case" then if ar x=O then match lL (m ::(ns++(":":Str) ::(b.ws++(r.ws++("end":Str)::l))))with|some (ah,l2)=>Stp.on ((hts,x,[],ah)::cs,[],l2)|none=>.bad else .bad else _)=_
  rw[if_pos U,if_pos h1,Cv h2 h3]
theorem JW:∀{r:Ar},r.ok->∀{c:Oc}{cs:List Oc}{u:L2.T}{l:List Str}{o:Option (L2.T×List Str)},After cs (df c.hts (.t [.s "case",.s c.lk,.t (c.arms ++ .t (c.ah++[u])::r.ts)])) l o->After (c::cs) u (r.ws++("end":Str)::l) o
 |.nil,_,c,cs,u,l,o,h=>by
  have e:bu (c::cs) u ((Ar.nil).ws++("end":Str)::l)=bu cs (c.fed u).whole l:=by
   show(if("end":Str)="|" then _ else if("end":Str)="end" then bu cs (c.fed u).whole l else .bad)=_
   rw[if_neg (by decide),if_pos rfl]
  unfold After;rw[e];exact h
 |.cons m ns b r,(h1,h2,h3,h4),c,cs,u,l,o,h=>by
  have g:(Ar.cons m ns b r).ws++("end":Str)::l=("|":Str)::m ::(ns++(":":Str) ::(b.ws++(r.ws++("end":Str)::l))):=by
   show(("|":Str)::m ::(ns++(":":Str) ::(b.ws++r.ws)))++("end":Str)::l=_
   simp
  have e:bu (c::cs) u ((Ar.cons m ns b r).ws++("end":Str)::l)=.on ({c.fed u with ah:=[.s m,.t (ns.map .s)]}::cs) (b.ws++(r.ws++("end":Str)::l)):=by
   rw[g];show(if("|":Str)="|" then match lL (m ::(ns++(":":Str) ::(b.ws++(r.ws++("end":Str)::l))))with|some (ah,l2)=>Res.on ({c.fed u with ah:=ah}::cs) l2|none=>.bad else _)=_
   rw[if_pos U,Cv h1 h2]
  unfold After;rw[e];refine sI h3 (JW h4 ?_);have q:(c.arms++[L2.T.t (c.ah++[u])])++L2.T.t ([L2.T.s m,.t (ns.map .s)]++[b.t])::r.ts=c.arms++L2.T.t (c.ah++[u]) ::(Ar.cons m ns b r).ts:=by
   show _=c.arms++L2.T.t (c.ah++[u]) ::(.t [.s m,.t (ns.map .s),b.t]::r.ts);simp
  show After cs (df c.hts (.t [.s "case",.s c.lk,.t ((c.arms++[L2.T.t (c.ah++[u])])++L2.T.t ([L2.T.s m,.t (ns.map .s)]++[b.t])::r.ts)])) l o
  rw[q];exact h
end
theorem Hq(h:b.ok):Run ([],[],b.ws) (Z (b.t,[])):=by
 have:=sI h (cs:=[]) (hts:=[]) (l:=[]) U
 rw[qp]at this;exact this
theorem uc{v:Str}{l:List Str}:∀{ps:List (Str×Str)},(∀p∈ps,ar p.1=O/\ar p.2=O)->fParams (pws ps++("to":Str)::v::l)=Z (ps,v::l)
 |[],_=>by show fParams (("to")::v::l)=_;rw[fParams,if_pos rfl]
 |p::r,h=>by
  have hp:=h p di;have e:pws (p::r)++("to":Str)::v::l=p.1::p.2 ::(pws r++("to":Str)::v::l):=rfl;rw[e,fParams,if_neg (λe=>by have:=hp.1;rw[e]at this;exact absurd this (by decide +kernel)),if_pos hp.1,if_pos hp.2,uc λq g=>h q (aJ _ g)]
  rfl
theorem Ir(h:lZ z):fHd (fws z.1 z.2)=Z (z.1,z.2.ws):=by
 show(if("def")="def" then if ar z.1.nm=O then match fParams (pws z.1.ps++("to":Str)::z.1.kd :: ":" :: z.2.ws)with|some (ps,l2)=>(if ar (hd l2)=O then if hd l2.tail=":" then Z (Prod.mk ((z.1.nm,ps,hd l2):Fh) l2.tail.tail)else Y else Y)|none=>Y else Y else Y)=_
 rw[if_pos h.n,uc h.p];show(if ar z.1.kd=O then if(":")=":" then _ else Y else Y)=_
 rw[if_pos h.k];rfl
theorem LU(h:lZ z):oA (fws z.1 z.2) (Z (fT z)):=.ok (Ir h) (Hq h.b)
theorem um{l:List Str}(hl:l=[]\/∃r,l=("|":Str)::r):∀{ns:List Str},(∀m∈ns,ar m=O)->bL (ns++l)=Z (ns,l)
 |[],_=>by
  obtain rfl |⟨r,rfl⟩:=hl
  ·rfl
  ·show bL (("|")::r)=_;rw[bL,if_pos rfl]
 |n::r,h=>by
  have hn:=h n di;show bL (n ::(r++l))=_;rw[bL,if_neg (λe=>by rw[e]at hn;exact absurd hn (by decide +kernel)),if_pos hn,um hl λm hm=>h m (aJ _ hm)]
  rfl
def mw(m:Mk1):List Str:=m.1::m.2
def UO(m:Mk1):Prop:=ar m.1=O/\m.2.length<=700/\∀f∈m.2,ar f=O
theorem we{m:Mk1}(hm:UO m)(hl:l=[]\/∃r,l=("|":Str)::r):iA (mw m++l)=Z (m,l):=by
 show(if ar m.1=O then(bL (m.2++l)).map (λz=>Prod.mk (Prod.mk m.1 z.1) z.2)else Y)=_
 rw[if_pos hm.1,um hl hm.2.2];rfl
theorem uf:∀{ms:List Mk1}{m:Mk1}{k:Nat},UO m->(∀m∈ms,UO m)->ms.length<k->bK k (mw m++ms.flatMap λm=>("|":Str)::mw m)=Z (m::ms)
 |[],m,k+1,hm,_,_=>by
  rw[bK,List.flatMap_nil,we hm (.inl U)];rfl
 |n::r,m,k+1,hm,hr,q=>by
  rw[bK,Y0,Zk,we hm (.inr (_,U))];show(if ϊ=O then _ else if("|")="|" then(bK k (mw n++r.flatMap λm=>("|":Str)::mw m)).map (m :: ·)else Y)=_
  rw[uf (hr n di) (λy g=>hr y (aJ _ g)) (by rw[my]at q;lia)]
  rfl
theorem vj{k:Kd}(h:k.2 ≠ []):gM k=Txt.join " " (kws k):=by
 let(x,ms):=k;cases ms with
 |nil=>exact absurd U h
 |cons m ms =>
  have e:kws (x,m::ms)=("kind":Str)::x ::(mw m++ms.flatMap λm=>("|":Str)::mw m):=rfl
  rw[e,eZ (xT _ _),eZ (by simp[mw]),Ep (f:=mw) (λz=>xT _ _)]
  unfold gM;rw[show("kind ":Str)="kind" ++ " " from by decide +kernel]
  simp only[assoc];rfl
theorem Gf(ms:List Mk1):ms.length <=(ms.flatMap λm=>("|":Str)::mw m).length:=by
 induction ms with
 |nil=>exact oa _
 |cons m r g=>rw[Y0,qd,my,my];lia
theorem Ic{k:Kd}(h:xR k):i5 (kws k)=Z (k,[]):=by
 let(x,ms):=k;cases ms with
 |nil=>exact absurd U h.ne
 |cons m ms =>
  have hm:=h.m;have hx:=h.n;have hlen:=Gf ms;show(if ar x=O then(bK ((kws (x,m::ms)).length+1) (mw m++ms.flatMap λm=>("|":Str)::mw m)).map (λms=>Prod.mk (Prod.mk x ms) ([]:List Str))else Y)=_
  rw[if_pos hx,uf (hm m di) (λy g=>hm y (aJ _ g)) (by
   have e:kws (x,m::ms)=("kind":Str)::x ::(mw m++ms.flatMap λm=>("|":Str)::mw m):=rfl
   rw[e,my,my,qd];lia)]
  rfl
def Cl(ws:List Str):Prop:=∀w∈ws,∀c∈w.cps.toList,33<=c/\c<=126
theorem Cl.cons{w:Str}{ws:List Str}(h:∀c∈w.cps.toList,33<=c/\c<=126)(hr:Cl ws):Cl (w::ws):=λx hx=>(fx.mp hx).elim (λz=>z▸h) (hr x)
theorem Cl.app{a b:List Str}(ha:Cl a)(g:Cl b):Cl (a++b):=λx hx=>(mu.mp hx).elim (ha x) (g x)
theorem Cl.nil:Cl []:=λ_ h=>nomatch h
theorem HY:∀c∈fN.cps.toList,33<=c/\c<=126:=by decide +kernel
theorem d7(h:ar x=O):∀c∈x.cps.toList,33<=c/\c<=126:=λc g=>by
 unfold ar ofB at h;simp only[ti]at h;exact HY c (va (Av.mp h.1.2.2 c g))
theorem Pt(h:dH x=O):∀c∈x.cps.toList,33<=c/\c<=126:=λc g=>by
 unfold dH ofB at h;simp only[ti]at h
 have:=tu c (va (Av.mp h.1.2.2 c g))
 lia
theorem Cl.nm(h:∀m∈ns,ar m=O):Cl ns:=λx hx=>d7 (h x hx)
theorem Cl.tail{a:List Str}(h:Cl a):Cl a.tail:=λx hx=>h x (aa4 hx)
mutual
theorem Bd.cl:∀{b:Bd},b.ok->Cl b.ws
 |.give x,h=>.cons (by decide +kernel) (.cons (d7 h) .nil)
 |.mm w n b,(h1,h2,h3,h4)=>.cons (by obtain h|h:=h1 <;> rw[h] <;> decide +kernel) (.cons (Pt (Lf h2 h3).1) (.cons (by decide +kernel) (Bd.cl h4)))
 |.nam x y b,(h1,h2,h3)=>.cons (by decide +kernel) (.cons (d7 h1) (.cons (by decide +kernel) (.cons (d7 h2) (.cons (by decide +kernel) (Bd.cl h3)))))
 |.mk w x y ns b,(h1,h2,h3,h4,h5)=>.cons (by decide +kernel) (.cons (d7 h2) (.cons (by obtain h|h:=h1 <;> rw[h] <;> decide +kernel) (.cons (d7 h3) (.app (.nm h4) (.cons (by decide +kernel) (Bd.cl h5))))))
 |.cas x as,(h1,_,h3)=>.cons (by decide +kernel) (.cons (d7 h1) (.app (Ar.cl h3).tail (.cons (by decide +kernel) .nil)))
theorem Ar.cl:∀{as:Ar},as.ok->Cl as.ws
 |.nil,_=>.nil
 |.cons m ns b r,(h1,h2,h3,h4)=>.cons (by decide +kernel) (.cons (d7 h1) (.app (.nm h2) (.cons (by decide +kernel) (.app (Bd.cl h3) (Ar.cl h4)))))
end
theorem Se{ps:List (Str×Str)}(h:∀p∈ps,ar p.1=O/\ar p.2=O):Cl (pws ps):=λx hx=>by
 let(p,hp,hx):=Y7.mp hx;obtain z|z:=fx.mp hx
 ·rw[z];exact d7 (h p hp).1
 ·rw[aB.mp z];exact d7 (h p hp).2
theorem Ey(h:lZ z):Cl (fws z.1 z.2):=.cons (by decide +kernel) (.cons (d7 h.n) (.app (Se h.p) (.cons (by decide +kernel) (.cons (d7 h.k) (.cons (by decide +kernel) (Bd.cl h.b))))))
theorem El{k:Kd}(h:xR k):Cl (kws k):=.cons (by decide +kernel) (.cons (d7 h.n) (Cl.tail λx hx=>by
 let(m,hm,hx):=Y7.mp hx;exact(Cl.cons (by decide +kernel) (.cons (d7 (h.m m hm).1) (.nm (h.m m hm).2.2))) x hx))
theorem Ve:(" ":Str)=⟨#[32]⟩:=by decide +kernel
theorem Li:("\n":Str)=⟨#[10]⟩:=by decide +kernel
theorem AV{ws:List Str}(g:ws ≠ [])(h:Cl ws):Txt.split (Txt.join " " ws) " "=ws:=kP g λp hp z=>absurd (h p hp 32 z).1 (by decide)
theorem Gk{ws:List Str}(h:Cl ws):10 ∉ (Txt.join " " ws).cps.toList:=by
 rw[lT,Ve]
 induction ws with
 |nil=>decide +kernel
 |cons w r g =>
  cases r with
  |nil=>exact λz=>absurd (h w di 10 z).1 (by decide)
  |cons v r =>
   rw[kF];intro z;obtain z|z:=mu.mp z
   ·exact absurd (h w di 10 z).1 (by decide)
   ·obtain z|z:=fx.mp z
    ·exact absurd z (by decide)
    ·exact g (λx hx=>h x (aJ _ hx)) z
theorem RK{fs:List (Fh×Bd)}(hf:∀z∈fs,lZ z):∀{gs:List (Fh×Bd)}{n:Nat}{ks:List Kd},eO n ks (gs.map fT) (fs.map iz) (.inl (pT ks (gs++fs))):=by
 induction fs with
 |nil=>intro gs n ks;rw[qp];exact .nil
 |cons z r q =>
  intro gs n ks;have g:=hf z di;have es:Txt.split (iz z) " "=fws z.1 z.2:=AV (xT _ _) (Ey g);refine .fn (λh=>?_) (by rw[es];exact LU g) ?_
  ·have h:=h.1;rw[es]at h;exact absurd h (by show ¬("def":Str)="kind";decide)
  ·have:=q (λy K=>hf y (aJ _ K)) (gs:=gs++[z]) (n:=n+1) (ks:=ks)
   rw[uj,Ay]at this;exact this
theorem A6{fs:List (Fh×Bd)}(hf:∀z∈fs,lZ z):∀{ks gs:List Kd}{n:Nat},(∀k∈ks,xR k)->eO n gs [] (ks.map gM++fs.map iz) (.inl (pT (gs++ks) fs))
 |[],gs,n,_=>by rw[qp];exact RK hf (gs:=[])
 |k::r,gs,n,h=>by
  have g:=h k di;have es:Txt.split (gM k) " "=kws k:=by rw[vj g.ne];exact AV (xT _ _) (El g)
  have:=A6 hf (gs:=gs++[k]) (n:=n+1) λy q=>h y (aJ _ q)
  rw[Ay]at this;exact .kind (by rw[es];rfl) (by rw[es];exact Ic g) this
theorem NH{fs:List (Fh×Bd)}(h:ET ks fs):rowsOf (Txt.join "\n" (ks.map gM++fs.map iz))=ks.map gM++fs.map iz:=by
 have hr:∀r∈ks.map gM++fs.map iz,10 ∉ r.cps.toList/\1<=r.length:=λr hr=>by
  obtain z|z:=mu.mp hr
  ·let(k,g,U):=YY.mp z;have ok:=h.k k g;rw[vj ok.ne];refine(Gk (El ok),?_)
   have:=join_le (c:=32) (ws:=kws k) di
   rw[lT];exact u4 (by decide +kernel) this
  ·let(f,hf,U):=YY.mp z;refine(Gk (Ey (h.f f hf)),?_)
   have:=join_le (c:=32) (ws:=fws f.1 f.2) di
   show 1 <=(Txt.join " " (fws f.1 f.2)).length;rw[lT];exact u4 (by decide +kernel) this
 generalize ks.map gM++fs.map iz=rows at hr ⊢
 unfold rowsOf;cases rows with
 |nil=>rw[if_pos (by decide +kernel)]
 |cons r rs =>
  have h1:=(hr r di).2;have h2:=join_le (c:=10) (ws:=r::rs) di;have h3:Txt.join "\n" (r::rs) ≠ "":=λe=>by
   rw[lT,Li]at e;rw[e]at h2
   have:(Str.ofString "").length=0:=by decide +kernel
   lia
  rw[if_neg h3];exact kP (xT _ _) λp hp=>(hr p hp).1
theorem Dc{fs:List (Fh×Bd)}(h:ET ks fs):eO 0 [] [] (rowsOf (Txt.join "\n" (ks.map gM++fs.map iz))) (.inl (pT ks fs)):=by
 rw[NH h];exact A6 h.f h.k
theorem mV:∀ws:List Str,L2.T.zv (ws.map .s)=O
 |[]=>rfl
 |w::r=>by show(O&&L2.T.zv (r.map .s))=O;rw[mV r];rfl
def tw(ks:List Kd)(fs:List (Fh×Bd)):Nat:=(ks.map λk=>(kws k).length).sum+(fs.map λz=>(fws z.1 z.2).length).sum
inductive SH(ts:List L2.T)(Q:L2.T->Prop)(_W:QW):Prop
 |mk(h1:ts=[.gj])(h2:∀ks fs,ET ks fs->(∀z∈fs,z.2.cd<=39)->ks.length<=3->fs.length<=5->tw ks fs<=640->Q (pT ks fs))
theorem OP(T:Txt K mg a):aV P w K mg base (CX1 P w) 60 a.wG a.EF [WF] (AW K SH):=by
 have bf:=kc (@iE P w K mg base a T);refine T.MX.F.V8 gR (λts Q W h=>?_) (λ_ _ _ _ _ _ hr=>?_)
 ·let(U,_):=h;rfl
 ·have hu:=cj hr;refine(_,_,((aq (bc (aG 1 gR.nd (vf (aS (F6 T) hr T.EZ (ae (qv 0) az)))))
 (aq (bc (aG 2 gR.nd (aS bf hr T.bt (ae (qv 0) (ae ao az)))))
 (aq (bc (zi (i:=3) gR.nd U (Or.inl U) U (nO U T.iL (ae (ZB (aS bf hr T.bt (ae (qv 0) (ae ao az)))) az)) (N':=[Tu,WF,Th]) (.own U (.got (i:=0) U U (.inl U) (.got (i:=1) U U (.inl U) .nil))) (j8 (g:=(Tg.nm 0)) (λ_ _ _ _ _=>((uN 0),(aS (OO T) hr T.MW (ae (qv 1) (ae (qv 2) az))))))))
 (aq (bc (aG 4 gR.nd (aR aF)))
 (aq (bc (aG 5 gR.nd (aR (af (fB (aR (af bR (af bR (af bR aF)))) (ZB (aS bf hr T.bt (ae (qv 0) (ae ao az))))) aF))))
 (aq (bc (aG 6 gR.nd (cS (gG hu U) dW (a8 _) (ZB (aS bf hr T.bt (ae (qv 0) (ae ao az)))) ao)))
 (aq (zg (g:=(Tg.nm 7)) PassesOwn.leaving U (jf U T.iL (ae (ZB (aS bf hr T.bt (ae (qv 0) (ae (ZB (fB (aR (af bR (af bR aF))) (ZB (aU dI gP (by rfl) T.kL (by kernel_rfl) (ae (ZB (cS (gG hu U) dW (a8 _) (qv 2) ao)) az))))) az)))) az)) (j9 7 gR.nd)
 (aq (bc (aG 8 gR.nd (aR aF)))
 (aq (bc (j7 (g:=(Tg.nm 9)) PassesOwn.leaving U (jf U T.iL (ae (ZB (aS bf hr T.bt (ae (qv 0) (ae (ZB (fB (aR (af bR (af bR aF))) (ZB (aS bf hr T.bt (ae (qv 0) (ae ao az)))))) az)))) az)) (j9 9 gR.nd)
 (ay (ik (i:=8) (pv 8) (b6 (af (aS (vY T) hr T.jR (ae (qv 0) (ae (qv 1) az))) (af (aS (vY T) hr T.jR (ae (qv 0) (ae (qv 1) az))) aF)))))))
 (aq (cX (i:=10) gR.nd (mU (i:=5) (j:=2) (OR T 40) hr.aY U T.gg.m T.gg.F.kp T.gg.b (iD (qv 0) (iD (qv 1) (qD (i:=5) (pv 5) (ae ao (ae (qv 6) az)))))))
 (aK (bc (ik (i:=4) (pv 4) (b6 (af (aS (vY T) hr T.jR (ae (qv 0) (ae (qv 1) az))) (af (aU (cD U) cA (by rfl) T.fR (by kernel_rfl) (ae (qv 8) az)) (af (aS (vY T) hr T.jR (ae (qv 0) (ae (qv 1) az))) (af (XL (qv 10)) aF))))))))))))
 (aK (bc (aN (b6 (af (aU (cD U) cA (by rfl) T.fR (by kernel_rfl) (ae (qv 3) az)) (af (aU (cD U) cA (by rfl) T.fR (by kernel_rfl) (ae (qv 4) az)) aF)))))))))))))),λts Q W h=>?_)
  let(U,hq):=h;refine(U,λws w1 w2 hw=>(mV ws,by decide,by decide,λg g0 g1=>?_))
  refine(by decide,by decide,λn n0 n1=>(by lia,by lia,bo (by rw[fe];lia),λi ys=>∃ks:List Kd,ys=ks.map tK/\ks.length=i/\∀k∈ks,xR k/\(kws k).length<=32,([],U,U,λ_ z=>nomatch z),?_,?_))
  ·rintro i x ys hx ⟨ks,rfl,hc,hk⟩
   let(U,hi):=k7 hx;refine(_,U,ws,U,w1,w2,hw,λk V aX=>(ks++[k],by simp,by simp[hc],λz hz=>?_))
   obtain z|z:=mu.mp hz
   ·exact hk _ z
   ·rw[aB.mp z];exact(V,aX)
  rintro ys ⟨ks,rfl,aL,hk⟩
  rw[fe]at aL;refine(by decide,by decide,λc c0 c1=>?_)
  obtain⟨r,er,r0,r1⟩:∃m:Int,atI [L2.T.i 14,.i 14,.i 40] c=Z (.i m)/\1<=m/\m<=40:=by
   obtain rfl|rfl|rfl:=(by lia:c=0\/c=1\/c=2)
   ·exact(14,U,by decide,by decide)
   ·exact(14,U,by decide,by decide)
   ·exact(40,U,by decide,by decide)
  refine(_,er,by decide,by decide,λlg l0 l1=>(U,?_))
  generalize decide ((L2.T.i lg).v=(L2.T.i 1).v)=ak
  let(m,em,m1):=pick (x:=4) (y:=6) (decide ((L2.T.i g).v=(L2.T.i 2).v));refine(U,_,em,by lia,by lia,λn2 a6 a5=>(by lia,by lia,λi q=>(Ea6 λ(o7 o8 o9 ah:Sl)(fs:List (Fh×Bd))(rr:Int)=>q=[.r .gj,.o (.zl (ws.map .s)),.o (.i g),.o (.l (ks.map tK)),.o (.l (fs.map fT)),.o (.l [.i rr]),.o (.b ak),o7,o8,o9,ah]/\fs.length=i/\(∀z∈fs,lZ z/\z.2.cd<=39) /\ -6<=rr/\rr<=48/\((fs.map λz=>(fws z.1 z.2).length).sum:Int)<=16*i+10*(r-rr)),(_,_,_,_,[],r,U,U,(λ_ z=>nomatch z),by lia,by lia,by show(0:Int)<=_;lia),?_,?_))
  ·rintro i k q hk ⟨o7,o8,o9,ah,fs,rr,rfl,hc,hf,aw,au,WH⟩
   let(U,hi):=k7 hk;refine(_,U,by decide,by decide,λe e0 e1=>?_)
   obtain⟨m2,a0,m3⟩:∃m:Int,atI [L2.T.i 3,.i 5] e=Z (.i m)/\(m=3\/m=5):=by
    obtain rfl|rfl:=(by lia:e=0\/e=1)
    ·exact(3,U,.inl U)
    ·exact(5,U,.inr U)
   refine(_,a0,by lia,by lia,λn3 a4 a3=>(by lia,by lia,λj q=>(M2 λ(o9:Sl)(ps:List (Str×Str))=>q=[.r .gj,.o (.zl (ws.map .s)),.o (.i g),.o (.l (ks.map tK)),.o (.l (fs.map fT)),.o (.l [.i rr]),.o (.b ak),.r (.i (0+(i:Int))),.o (.l (ps.map λp=>.t [.s p.1,.s p.2])),o9,ah]/\ps.length=j/\∀p∈ps,ar p.1=O/\ar p.2=O),(_,[],U,U,(λ_ z=>nomatch z)),?_,?_))
   ·rintro j k q hk ⟨o9,ps,rfl,hc,hp⟩
    let(U,hj):=k7 hk;refine(_,U,bo (by rw[gV];lia),ws,U,w1,w2,hw,λx hx=>(ws,U,w1,w2,hw,λz hz=>(_,ps++[(x,z)],by rw[uj];rfl,by simp[hc],λp aH=>?_)))
    obtain u|u:=mu.mp aH
    ·exact hp p u
    ·rw[aB.mp u];exact(hx,hz)
   rintro q ⟨o9,ps,rfl,aD,hp⟩
   rw[fe]at aD;refine(_,U,U,U,U,λy=>(ws,y,rr,1,ak,U,w1,w2,hw,aw,au,by decide,by decide,by decide,λb r' hb bj s0 s1 a9=>(b.im,?_)))
   refine(bo (by rw[gV];lia),ws,U,w1,w2,hw,λx hx=>(wy ps,ws,U,w1,w2,hw,λz hz=>(b.im,_,_,_,_,fs++[((x,ps,z),b)],r',by rw[uj];rfl,by simp[hc],λu hu=>?_,s0,by lia,?_)))
   rotate_left
   ·have h1:=b.wl;have h2:=qG ps;have h3:(fws (x,ps,z) b).length=(pws ps).length+5+b.ws.length:=by show(pws ps++("to":Str)::z :: ":" :: b.ws).length+2=_;rw[qd];show _+(b.ws.length+3)+2=_;lia
    rw[uj,Fq];show(((fs.map λz=>(fws z.1 z.2).length).sum+((fws (x,ps,z) b).length+0):Nat):Int)<=16*((i+1:Nat):Int)+_
    lia
   obtain v|v:=mu.mp hu
   ·exact hf u v
   ·rw[aB.mp v];exact((hx,hz,by show ps.length<=700;lia,hp,hb,by show b.wt<=2000;lia),by show b.cd<=39;lia)
  ·rintro q ⟨o7,o8,o9,ah,fs,rr,rfl,hc,hf,aw,au,WH⟩
   rw[fe]at hc WH;have bb:=oW (f:=λk=>(kws k).length) (n:=32) (xs:=ks) λk V=>(hk k V).2
   exact(fj BZ ks,fj QQ fs,hq ks fs (λk V=>(hk k V).1,λz hz=>(hf z hz).1,by lia,by lia) (λz hz=>(hf z hz).2) (by lia) (by lia) (by unfold tw;lia))
inductive Sn(ts:List L2.T)(Q:L2.T->Prop):Prop
 |mk(ws:List Str)(n:Nat)(h1:ts=[.l (ws.map .s),.i n])(h2:ws.length<=900000)(h3:n<=900010)(h4:Q (.s (hd (ws.drop n))))
theorem nQ(T:Txt K mg a):aV P w K mg base CX0 1 a.zY a.Mg [WP,W1] (spQ K Sn):=by
 refine T.cL.F.okQ NC (λts Q h=>?_) (λ_ _ _ _ _ _ hr=>?_)
 ·let(_,_,U,_):=h;rfl
 ·refine(_,_,((ay (aN (XL (bQ (ZB (ag (qv 0) (ZB (aR (dZ (by rfl)))))) (ZB (gU (IK U) RG (by rfl) T.Xc (by kernel_rfl) (ae (qv 1) (ae (ZB (dY T.gI (ae (qv 0) az))) az))))))))),λts Q h=>?_)
  let(ws,n,U,hl,hn,g):=h;refine(wh (aM (by rw[gV];show ws.length+1<=_;lia)),aW ws,U,.s (hd (ws.drop n)),?_,U,g)
  have e:((if((ws.map L2.T.s).length:Int)<(n:Int)then((ws.map L2.T.s).length:Int)else(n:Int)):Int)=((min n ws.length:Nat)):=by
   rw[gV]
   split <;> lia
  show atI (ws.map L2.T.s++[L2.T.s ""]) (if((ws.map L2.T.s).length:Int)<(n:Int)then((ws.map L2.T.s).length:Int)else(n))=_
  rw[e];refine jN ?_;rw[show ws.map L2.T.s++[L2.T.s ""]=(ws++[("":Str)]).map L2.T.s by simp,tW]
  by_cases h:n<ws.length
  ·rw[Zn (by lia),CJ h,rY h,UQ h];rfl
  ·rw[ZS (by lia),CF (oa _),Z3,MJ (by lia)];rfl
theorem oH{ws:List Str}{k:Nat}(h:∀w∈ws,w.length<=k)(m:Nat):(hd (ws.drop m)).length<=k:=by
 cases e:ws.drop m with
 |nil=>exact Je _
 |cons w r=>exact h w (UT (by rw[e];exact di))
theorem gq(T:Txt K mg a):aV P w K mg base CX0 2 a.gZ a.ni [WP,W1] (spQ K KU):=by
 refine T.fJ.F.okQ lS (λts Q h=>?_) (λ_ _ _ _ _ _ hr=>?_)
 ·let(_,_,U,_):=h;rfl
 ·refine(_,_,((ai (mR PassesOwn.never (br (ZB (aS (d6 T) hr T.cb (ae (ZB (aS (nQ T) hr T.cL (ae (qv 0) (ae (qv 1) az)))) az))))
 (ay (aG 1 lS.nd (ag (qv 1) ao))))
 (ay (aN (XL (qv 1)))))),λts Q h=>?_)
  let(ws,n,U,hl,hn,g,hq):=h;have V:=λm=>oH g m
  refine(λc q=>M2 λ(o:Sl)(m:Nat)=>q=[.r (.l (ws.map .s)),o]/\(o=.r (.i m)\/o=.o (.i m))/\n+nN (ws.drop n)=m+nN (ws.drop m)/\c=ws.length+n-m/\m<=900009/\n<=m,(_,_,n,U,.inl U,U,U,hn,oa _),?_)
  rintro c q ⟨o,m,rfl,ho,he,rfl,hm,ah⟩
  obtain rfl|rfl:=ho
  all_goals
   refine(ws,m,U,hl,by lia,_,U,V m,a7 (λh=>?_) (λh=>?_))
   ·have ak:m<ws.length:=by
     apply Classical.byContradiction
     intro z;rw[MJ (by lia)]at h
     exact absurd h (by decide +kernel)
    let(e1,_):=m4 h;rw[CG]at e1;exact(λq=>∃c,c<_/\_,λq h=>h,_,by lia,_,m+1,U,.inr U,by lia,U,by lia,by lia)
   ·let(e1,_):=sX h;rw[e1]at he;rw[he]at hq;exact(U,hq)
theorem xx(T:Txt K mg a):aV P w K mg base CX0 1 a.i9 a.rD [Tl] (spQ K yc):=by
 refine T.si.F.okQ xr (λts Q h=>?_) (λ_ _ _ _ _ _ hr=>?_)
 ·let(_,U,_):=h;rfl
 ·have hu:=cj hr;refine(_,_,((ai (bN (QPW.pt (kz (ua (ZB (dY T.gI (ae (qv 0) az))) ao) (kz (ya (ZB (dY T.gI (ae (qv 0) az))) ao) (j6 (ff hu (bQ (qv 0) ao) (ZB aj))))))
 (ay (aN iM))
 aP)
 (ay (aN (gU (tL U U) zc (by rfl) T.MB (by kernel_rfl) (ae (ZB (lh U (DJ (qv 0)) (N':=["_law_sign"]) (.own U .nil) (j8 (g:=(Tg.nm 0)) (λ_ _ _ _ _=>((uN 0),(cS (pC U) jU U (qv 0) (ZB aj))))))) az)))))),λts Q h=>?_)
  let(x,U,hx,q):=h;have lx:x.length<=ot:=wh (aM (by lia))
  unfold dH ofB at q;refine(lx,a7 (λh1=>?_) (λh1=>?_))
  ·have h1:(x.length:Int)<1:=of_decide_eq_true h1;rw[decide_eq_false (show ¬ 1 <=(x.length:Int)by lia)]at q
   exact q
  rw[decide_eq_true (show 1 <=(x.length:Int)by lia),Y3]at q
  refine(lx,a7 (λh2=>?_) (λh2=>?_))
  ·have h2:7<(x.length:Int):=of_decide_eq_true h2;rw[decide_eq_false (show ¬(x.length:Int)<=7 by lia)]at q
   exact q
  rw[decide_eq_true (show(x.length:Int)<=7 by lia),Y3]at q
  obtain⟨c,r,e⟩:∃c r,x.cps.toList=c::r:=by
   cases e:x.cps.toList with
   |nil=>have:x.length=0:=congrArg YH e;lia
   |cons c r=>exact(c,r,U)
  have e2:(decide ((L2.T.s ⟨#[c]⟩).v=(L2.T.s "0").v))=decide (x.cps.toList.head?=Z 48):=by
   rw[e];exact decide_eq_decide.mpr (λh=>by
    have:=V.str.inj h
    have:=congrArg (λz:Str=>z.cps.toList) this
    cases this;rfl,λh=>by cases h;rfl)
  rw[<- e2]at q;refine(lx,c,by rw[e];exact jN (j:=0) U,U,a7 (λh3=>?_) (λh3=>?_))
  ·rw[show decide ((L2.T.s ⟨#[c]⟩).v=(L2.T.s "0").v)=O from h3,Bool.not_true,Zs]at q;exact q
  rw[EX.mpr h3,Bool.not_false,ab2]at q;refine(by rw[n6];exact aM (by lia),λi ys=>ys=(x.cps.toList.take i).map λc=>.b (sgn nV c),U,λi z ys hz e=>?_,λys e=>?_)
  ·let(c,hc,U):=EI hz;subst e;refine(_,U,?_);show _++[L2.T.b (sgn nV c)]=_;rw[Jc,hc];simp
  ·subst e;rw[n6,show x.length=x.cps.toList.length from U,Fs];exact(_,lM _ _,by rw[ZL];exact q)
theorem pk{x y:Int}(b:Bool):atI [L2.T.i x,.i y] (if b then 1 else 0)=Z (.i (if b then y else x)):=by cases b <;> rfl
theorem i6:decide ((L2.T.s x).v=(L2.T.s y).v)=decide (x=y):=decide_eq_decide.mpr (λh=>V.str.inj h,λh=>by rw[h])
theorem in2{w a b:Str}:inT (.s w) [.s a,.s b]=O ↔ w=a\/w=b:=by
 have:=wx (w:=w) (ws:=[a,b])
 rw[show inT (.s w) [.s a,.s b]=_ from this,vm];simp
theorem lX{ws:List Str}{k:Nat}(h:ws.drop k=l)(g:hd l ≠ ""):k<ws.length/\ws.drop (k+1)=l.tail:=by
 refine(?_,drop_tail h)
 apply Classical.byContradiction
 intro z;rw[MJ (by lia)]at h
 rw[<- h]at g;exact g U
theorem nR(h:ar (hd l)=O):hd l ≠ "":=λz=>by rw[z]at h;exact absurd h (by decide +kernel)
def yo(l:List Str):Option (List Str):=(lL l).map (·.2)
theorem L1(l:List Str):yo l=if ar (hd l)=O then if hd (dN l)=":" then Z (dN l).tail else Y else none:=by
 unfold yo lL;by_cases h:ar (hd l)=O
 ·rw[if_pos h,if_pos h,tD (by decide +kernel) (by decide),(m4 h).2]
  split <;> rfl
 ·rw[if_neg h,if_neg h];rfl
theorem vi(ws:List Str)(n:Nat):ws.drop (n+nN (ws.drop n))=dN (ws.drop n):=by rw[<- List.drop_drop,Po]
theorem oE(T:Txt K mg a):aV P w K mg base CX0 3 a.jb a.rF [WP,W1] (spQ K (Qc yo)):=by
 refine T.lR.F.okQ oC (λts Q h=>?_) (λ_ _ _ _ _ _ hr=>?_)
 ·let(_,_,U,_):=h;rfl
 ·have V:=cj hr;refine(_,_,((ai (bN (gE (br (ZB (aS (d6 T) hr T.cb (ae (ZB (aS (nQ T) hr T.cL (ae (qv 0) (ae (qv 1) az)))) az)))))
 (ay (aN (iS ao)))
 aP)
 (ai (aG 1 oC.nd (aS (gq T) hr T.fJ (ae (qv 0) (ae (qv 1) az))))
 (ay (aN (fB (aR (af (iS ao) (af (ag (qv 1) ao) aF))) (ZB (aU dI gP (by rfl) T.kL (by kernel_rfl) (ae (ZB (cS (gG V U) dW (a8 _) (ZB (aS (nQ T) hr T.cL (ae (qv 0) (ae (qv 1) az)))) (ZB aj))) az))))))))),λts Q h=>?_)
  let(ws,n,U,hl,hn,g,q):=h;rw[L1]at q;refine(ws,n,U,hl,by lia,_,U,oH g n,a7 (λh=>?_) (λh=>?_))
  ·have h:¬ ar (hd (ws.drop n))=true:=by simpa using h
   rw[if_neg h]at q;exact q _ U
  have h:ar (hd (ws.drop n))=true:=by simpa using h
  have z:=F8 (ws.drop n);rw[xH]at z;have hd2:=vi ws n;rw[if_pos h]at q;refine(ws,n,U,hl,by lia,g,?_)
  refine(ws,n+nN (ws.drop n),U,hl,by lia,U,_,pk _,?_)
  rw[i6,hd2];refine q _ ?_;cases e:decide (hd (dN (ws.drop n))=":")with
  |false=>rw[if_neg (of_decide_eq_false e)];rfl
  |true =>
   have e:=of_decide_eq_true e;rw[if_pos e]
   have:=lX hd2 (by rw[e];decide)
   exact(n+nN (ws.drop n)+1,U,by lia,this.2)
def EC(l:List Str):Option (List Str):=if hd l="case" then(if ar (hd l.tail)=O then yo l.tail.tail else Y)else(cQ (hd l) l.tail).map (·.2)
theorem Cc(l:List Str):(lK l).map (·.2)=if ar (hd l)=O then if ar (hd l.tail.tail)=O then if hd l.tail="name" then(if hd l.tail.tail.tail=";" then Z l.tail.tail.tail.tail else Y)else if hd l.tail="make" \/ hd l.tail="call" then(if hd (dN l.tail.tail.tail)=";" then Z (dN l.tail.tail.tail).tail else Y)else Y else Y else none:=by
 unfold lK;by_cases h1:ar (hd l)=O
 ·rw[if_pos h1,if_pos h1];by_cases h3:ar (hd l.tail.tail)=O
  ·rw[if_pos h3,if_pos h3];by_cases h4:hd l.tail="name"
   ·rw[if_pos (.inr (.inr h4)),if_pos h4,if_pos h4];unfold oo
    split <;> rfl
   ·rw[if_neg h4,if_neg h4];by_cases h5:hd l.tail="make" \/ hd l.tail="call"
    ·rw[if_pos h5,if_pos (h5.elim .inl λz=>.inr (.inl z)),tD (by decide +kernel) (by decide)]
     split <;> rfl
    ·rw[if_neg h5,if_neg (λz=>z.elim (λz=>h5 (.inl z)) λz=>z.elim (λz=>h5 (.inr z)) h4)];rfl
  ·split <;> rfl
 ·rw[if_neg h1,if_neg h1];rfl
theorem v5(T:Txt K mg a):aV P w K mg base CX0 4 a.iI a.oM [WP,W1] (spQ K (Qc EC)):=by
 have bW:=@nQ P w K mg base a T;refine T.oU.F.okQ fA (λts Q h=>?_) (λ_ _ _ _ _ _ hr=>?_)
 ·let(_,_,U,_):=h;rfl
 ·have hu:=cj hr;refine(_,_,((ai (aG 2 fA.nd (aS bW hr T.cL (ae (qv 0) (ae (qv 1) az))))
 (ai (bN (bO (pC U) jU U (qv 2) (ZB (b6 (dZ (by rfl)))))
 (ai (aG 3 fA.nd (sL (ZB (aS (xx T) hr T.si (ae (ZB (aS bW hr T.cL (ae (qv 0) (ae (ZB (ag (qv 1) ao)) az)))) az))) (pf (cS (gG hu U) dW (a8 _) (ZB (aS bW hr T.cL (ae (qv 0) (ae (ZB (ag (qv 1) ao)) az)))) (ZB aj)))))
 (ay (aN (fB (aR (af (iS ao) (af (ag (qv 1) ao) aF))) (ZB (aU dI gP (by rfl) T.kL (by kernel_rfl) (ae (qv 3) az)))))))
 aP)
 (ai (bN (gE (br (ZB (aS (d6 T) hr T.cb (ae (ZB (aS bW hr T.cL (ae (qv 0) (ae (ZB (ag (qv 1) ao)) az)))) az)))))
 (ay (aN (iS ao)))
 aP)
 (ai (bN (ff hu (qv 2) (ZB aj))
 (ay (aN (aS (oE T) hr T.lR (ae (qv 0) (ae (ZB (ag (qv 1) ao)) az)))))
 aP)
 (ai (bN (QPW.pt (kz (bO gW dU (a8 _) (qv 2) (ZB aj)) (j6 (gE (br (ZB (aS (d6 T) hr T.cb (ae (ZB (aS bW hr T.cL (ae (qv 0) (ae (ZB (ag (qv 1) ao)) az)))) az))))))))
 (ay (aN (iS ao)))
 aP)
 (ai (aG 4 fA.nd (aS bW hr T.cL (ae (qv 0) (ae (ZB (ag (qv 1) ao)) az))))
 (ai (bN (ff hu (qv 4) (ZB aj))
 (ay (aN (fB (aR (af (iS ao) (af (ag (qv 1) ao) aF))) (ZB (aU dI gP (by rfl) T.kL (by kernel_rfl) (ae (ZB (cS (gG hu U) dW (a8 _) (ZB (aS bW hr T.cL (ae (qv 0) (ae (ZB (ag (qv 1) ao)) az)))) (ZB aj))) az))))))
 aP)
 (ai (bN (bO (sQ U) jU U (qv 4) (ZB (b6 (dZ (by rfl)))))
 (ay (aN (iS ao)))
 aP)
 (ai (aG 1 fA.nd (aS (gq T) hr T.fJ (ae (qv 0) (ae (ZB (ag (qv 1) ao)) az))))
 (ay (aN (fB (aR (af (iS ao) (af (ag (qv 1) ao) aF))) (ZB (aU dI gP (by rfl) T.kL (by kernel_rfl) (ae (ZB (cS (gG hu U) dW (a8 _) (ZB (aS bW hr T.cL (ae (qv 0) (ae (qv 1) az)))) (ZB aj))) az)))))))))))))))),λts Q h=>?_)
  let(ws,n,U,hl,hn,q,g):=h;have d1:ws.drop (n+1)=(ws.drop n).tail:=(CG ..).symm;have d2:ws.drop (n+2)=(ws.drop n).tail.tail:=by rw[<- d1,CG]
  have d3:ws.drop (n+3)=(ws.drop n).tail.tail.tail:=by rw[<- d2,CG]
  have d4:ws.drop (n+4)=(ws.drop n).tail.tail.tail.tail:=by rw[<- d3,CG]
  have d5:ws.drop (n+5)=(ws.drop n).tail.tail.tail.tail.tail:=by rw[<- d4,CG]
  unfold EC at g;refine(ws,n,U,hl,by lia,U,a7 (λh=>?_) (λh=>?_))
  ·have h:=in2.mp h;rw[if_neg (by obtain h|h:=h <;> rw[h] <;> decide)]at g
   unfold cQ at g;rw[if_neg (by obtain h|h:=h <;> rw[h] <;> decide),if_pos h]at g
   have fin:∀b:Bool,b=(dH (hd (ws.drop n).tail)&&decide (hd (ws.drop n).tail.tail=";"))->Q (.i (if b then(n:Int)+3 else -1)):=λb V=>g _ (by
    cases b with
    |true =>
     have V:=V.symm;rw[ti,decide_eq_true_eq]at V;unfold oo;rw[if_pos V.1,if_pos V.2]
     have:=lX d2 (by rw[V.2];decide)
     exact(n+3,U,by lia,this.2)
    |false =>
     have V:=V.symm;rw[Bool.and_eq_false_iff]at V;unfold oo
     split
     ·rename_i h1;rw[if_neg (by obtain z|z:=V;rw[z]at h1;cases h1;exact of_decide_eq_false z)];rfl
     ·rfl)
   refine(ws,n+1,U,hl,by lia,_,U,u4 (oH q _) (by decide),a7 (λh1=>?_) (λh1=>?_))
   ·refine(ws,n+2,U,hl,by lia,U,?_)
    rw[i6];exact(_,pk _,fin _ (by rw[<- d2,<- d1,h1];rfl))
   ·exact(_,pk _,fin _ (by rw[<- d1,EX.mpr h1];rfl))
  have h:¬(hd (ws.drop n)="pay" \/ hd (ws.drop n)="get"):=λz=>h (in2.mpr z)
  refine(ws,n+1,U,hl,by lia,_,U,oH q _,a7 (λh1=>?_) (λh1=>?_))
  ·have h1:¬ ar (hd (ws.drop (n+1)))=true:=by simpa using h1
   rw[d1]at h1;refine g _ ?_;rw[if_neg h1];unfold cQ;rw[if_neg h]
   split
   ·rfl
   ·split
    ·rw[Cc,if_neg h1];rfl
    ·rfl
  have h1:ar (hd (ws.drop (n+1)))=true:=by simpa using h1
  rw[d1]at h1;have ak:=(lX d1 (nR h1)).1;rw[if_pos h1]at g;refine(U,a7 (λh2=>?_) (λh2=>?_))
  ·have h2:hd (ws.drop n)="case":=by rw[i6]at h2;exact of_decide_eq_true h2
   rw[if_pos h2,<- d2]at g;exact(ws,n+2,U,hl,by lia,q,g)
  have h2:¬ hd (ws.drop n)="case":=by rw[i6]at h2;exact λz=>h2 (decide_eq_true z)
  unfold cQ at g;rw[if_neg h2,if_neg h]at g;refine(U,a7 (λh3=>?_) (λh3=>?_))
  ·rw[if_neg (dQ h3)]at g;exact g _ U
  rw[if_pos (nh h3),Cc,if_pos h1,<- d3]at g;refine(ws,n+3,U,hl,by lia,_,U,oH q _,a7 (λh4=>?_) (λh4=>?_))
  ·have h4:¬ ar (hd (ws.drop (n+3)))=true:=by simpa using h4
   rw[if_neg h4]at g;exact g _ U
  have h4:ar (hd (ws.drop (n+3)))=true:=by simpa using h4
  rw[if_pos h4,d3,<- d4,<- d2]at g;refine(ws,n+2,U,hl,by lia,U,a7 (λh5=>?_) (λh5=>?_))
  ·have h5:hd (ws.drop (n+2))="name":=by rw[i6]at h5;exact of_decide_eq_true h5
   rw[if_pos h5]at g;refine(ws,n+4,U,hl,by lia,U,_,pk _,?_)
   rw[i6];refine g _ ?_;cases e:decide (hd (ws.drop (n+4))=";")with
   |false=>rw[if_neg (of_decide_eq_false e)];rfl
   |true =>
    have e:=of_decide_eq_true e;rw[if_pos e]
    have:=lX (ws:=ws) U (by rw[e];decide)
    exact(n+5,U,by lia,this.2)
  have h5:¬ hd (ws.drop (n+2))="name":=by rw[i6]at h5;exact λz=>h5 (decide_eq_true z)
  rw[if_neg h5]at g;refine(U,a7 (λh6=>?_) (λh6=>?_))
  ·have h6:¬(hd (ws.drop (n+2))="make" \/ hd (ws.drop (n+2))="call"):=λz=>by
    have h6:(!inT (.s (hd (ws.drop (n+2)))) [.s "make",.s "call"])=true:=h6;rw[in2.mpr z]at h6;cases h6
   rw[if_neg h6]at g;exact g _ U
  have h6:hd (ws.drop (n+2))="make" \/ hd (ws.drop (n+2))="call":=in2.mp (by
   cases e:inT (.s (hd (ws.drop (n+2)))) [.s "make",.s "call"]with
   |true=>rfl
   |false=>exact absurd (show(!inT (.s (hd (ws.drop (n+2)))) [.s "make",.s "call"])=O by rw[e];rfl) h6)
  rw[if_pos h6]at g;have YK:=(lX (ws:=ws) (k:=n+3) U (nR h4)).1;have hd2:=vi ws (n+4);have ah:=F8 (ws.drop (n+4));rw[xH]at ah;refine(ws,n+4,U,hl,by lia,q,?_)
  refine(ws,n+4+nN (ws.drop (n+4)),U,hl,by lia,U,_,pk _,?_)
  rw[i6,hd2];refine g _ ?_;cases e:decide (hd (dN (ws.drop (n+4)))=";")with
  |false=>rw[if_neg (of_decide_eq_false e)];rfl
  |true =>
   have e:=of_decide_eq_true e;rw[if_pos e]
   have:=lX hd2 (by rw[e];decide)
   exact(n+4+nN (ws.drop (n+4))+1,U,by lia,this.2)
inductive BI(ws:List Str)(s0:BS):Int->Nat->Nat->Prop
 |no{k:Nat}{z:Int}:z<0->Run s0 Y->BI ws s0 z k 0
 |at{m:Nat} {s:BS}:m<=ws.length->ws.drop m=s.l->(∀o,Run s o->Run s0 o)->BI ws s0 m s.cs.length (ws.length+1-m)
theorem LZ(h:EC l=Z l2):l2.length<l.length:=by
 unfold EC at h
 split at h
 ·split at h
  ·let(z,h1,U):=kg.mp h
   have:=(vq h1).1
   rw[xv,xv]at this
   (first|lia|omega)
  ·cases h
 ·let(z,h1,U):=kg.mp h
  have:=tE h1
  cases l with
  |nil=>exact absurd U this.1
  |cons w r=>exact Nat.lt_succ_of_le this.2
theorem JA(h:hd s.l ≠ "give"):match EC s.l with
  |none=>fu s=.bad
  |some l2=>∃s',fu s=.on s'/\s'.l=l2/\(s'.cs.length:Int)=s.cs.length+(if decide (hd s.l="case")then 1 else 0):=by
 unfold EC fu;by_cases h1:hd s.l="case"
 ·rw[if_pos h1,if_pos h1,decide_eq_true h1];by_cases h2:ar (hd s.l.tail)=O
  ·rw[if_pos h2,if_pos h2];unfold yo;cases e:lL s.l.tail.tail with
   |none=>rfl
   |some z=>exact(_,U,U,U)
  ·rw[if_neg h2,if_neg h2]
 ·rw[if_neg h1,if_neg h1,if_neg h,decide_eq_false h1];cases e:cQ (hd s.l) s.l.tail with
  |none=>rfl
  |some z=>exact(_,U,U,(Int.add_zero _).symm)
theorem Rk{m:Nat}{A ό:Prop}(h:q[j]?=Z (.o (.i m))\/q[j]?=Z (.r (.i m)))(g:A):jB (qOp (qI0 λi j=>.b (decide (j<=i))) (iT j) (qC (.i 0))) q λb=>if b=O then A else ό:=by
 have e:(if decide ((0) <=(m))=O then A else ό):=by exact g
 unfold jB qOp iT;obtain h|h:=h <;> rw[h] <;> exact e
inductive Ot(ts:List L2.T)(Q:L2.T->Prop):Prop
 |mk(ws:List Str)(n:Nat)(h1:ts=[.l (ws.map .s),.i n])(h2:ws.length<=900000)(h3:n<=ws.length)(h4:(∀w∈ws,w.length<=900000))(h5:(Run ([],[],ws.drop n) Y->Q (.i (-1))))(h6:∀b l (m:Nat),Run ([],[],ws.drop n) (Z (b,l))->m<=ws.length->ws.drop m=l->Q (.i m))
theorem v7(T:Txt K mg a):aV P w K mg base CX0 5 a.iJ a.oN [WP,W1] (spQ K Ot):=by
 refine T.oV.F.okQ bZ (λts Q h=>?_) (λ_ _ _ _ _ _ hr=>?_)
 ·let(_,_,U,_):=h;rfl
 ·have hu:=cj hr;refine(_,_,((ai (aG 2 bZ.nd bR)
 (ai (mR PassesOwn.never (Vw (qv 1) ao)
 (ai (bN (bO gW dU (a8 _) (ZB (aS (nQ T) hr T.cL (ae (qv 0) (ae (qv 1) az)))) (ZB aj))
 (ai (aG 2 bZ.nd (ag (qv 2) (ZB (aU dI gP (by rfl) T.kL (by kernel_rfl) (ae (ZB (cS (gG hu U) dW (a8 _) (ZB (aS (nQ T) hr T.cL (ae (qv 0) (ae (qv 1) az)))) (ZB aj))) az)))))
 (ai (aG 1 bZ.nd (aS (v5 T) hr T.oU (ae (qv 0) (ae (qv 1) az))))
 (ay Ba)))
 aP)
 (ai (bN (gE (br (ZB (aS (d6 T) hr T.cb (ae (ZB (aS (nQ T) hr T.cL (ae (qv 0) (ae (ZB (ag (qv 1) ao)) az)))) az)))))
 (ay (aN (iS ao)))
 aP)
 (ai (aG 1 bZ.nd (ag (qv 1) ao))
 (ai (mR PassesOwn.never (QPW.pt (mQ (ya (qv 2) ao) (k9 (ff hu (ZB (aS (nQ T) hr T.cL (ae (qv 0) (ae (qv 1) az)))) (ZB aj)))))
 (ai (aG 2 bZ.nd (zk (qv 2) ao))
 (ay (aG 1 bZ.nd (ag (qv 1) ao)))))
 (ai (bN (ff hu (qv 2) ao)
 (ay (aN (XL (qv 1))))
 aP)
 (ay (aG 1 bZ.nd (fB (aR (af (iS ao) (af (aS (oE T) hr T.lR (ae (qv 0) (ae (ZB (ag (qv 1) ao)) az))) aF))) (ZB (aU dI gP (by rfl) T.kL (by kernel_rfl) (ae (ZB (cS (gG hu U) dW (a8 _) (ZB (aS (nQ T) hr T.cL (ae (qv 0) (ae (qv 1) az)))) (ZB aj))) az))))))))))))
 (ay (aN (iS ao)))))),λts Q h=>?_)
  let(ws,n,U,hl,hn,aw,hx,hq):=h
  generalize aH:(([],[],ws.drop n):BS)=s0 at hx hq
  refine(λc q=>P3 λ(o:Sl)(at_:Int)(k:Nat)=>q=[.r (.l (ws.map .s)),o,.o (.i k)]/\(o=.r (.i at_)\/o=.o (.i at_))/\BI ws s0 at_ k c,(_,_,n,0,U,.inl U,by
   have:=BI.at (ws:=ws) (s0:=s0) (m:=n) (s:=s0) hn (by rw[<- aH]) (λ_ h=>h)
   rw[<- aH]at this ⊢;exact this),?_)
  rintro c q ⟨o,at_,k,rfl,ho,hb⟩
  cases hb with
  |no hz aX =>
   obtain rfl|rfl:=ho
   all_goals
    refine a7 (λz=>?_) (λ_=>?_)
    ·exact absurd (of_decide_eq_true z) (by lia)
    ·exact hx aX
  |@«at» m s hm au Ew =>
   have dl:s.l.length=ws.length-m:=by rw[<- au,xH]
   have d1:ws.drop (m+1)=s.l.tail:=by rw[<- au,CG]
   have d2:ws.drop (m+2)=s.l.tail.tail:=by rw[<- d1,CG]
   obtain rfl|rfl:=ho
   all_goals
    refine Rk (m:=m) (by first|exact .inl rfl|exact .inr U) ?_
    refine(λq=>∃c,c<_/\_,λq h=>h,?_)
    refine(ws,m,U,hl,by lia,U,a7 (λh=>?_) (λh=>?_))
    ·have h:=dQ h;rw[au]at h;have st:=JA h;refine(ws,m,U,hl,by lia,U,?_)
     rw[i6,au];refine(ws,m,U,hl,by lia,aw,λr hr=>?_)
     rw[au]at hr;have ek:((s.cs.length:Int)+(if decide (hd s.l="case")=O then 1 else 0))=((s.cs.length+(if decide (hd s.l="case")=O then 1 else 0):Nat):Int):=by cases decide (hd s.l="case") <;> simp
     cases e:EC s.l with
     |none =>
      rw[e]at hr st;have hr:r = -1:=hr;subst hr;exact(0,by lia,_,-1,_,by rw[<- ek];rfl,.inr U,.no (by decide) (Ew _ (.bad st)))
     |some l2 =>
      rw[e]at hr st;let(n',U,aD,ak):=hr;let(s',hs,a3,hk):=st
      have:=LZ e
      have:l2.length=ws.length-n':=by rw[<- ak,xH]
      exact(ws.length+1-n',by lia,_,n',s'.cs.length,by rw[hk];rfl,.inr U,.at aD (by rw[ak,a3]) λo ho=>Ew _ (.on hs ho))
    have h:=nh h;rw[au]at h;refine(ws,m+1,U,hl,by lia,_,U,oH aw _,a7 (λh1=>?_) (λh1=>?_))
    ·have h1:¬ ar (hd (ws.drop (m+1)))=true:=by simpa using h1
     rw[d1]at h1;refine hx (Ew _ (.bad ?_));unfold fu;rw[h,if_neg (by decide),if_pos U,if_neg h1]
    have h1:ar (hd (ws.drop (m+1)))=true:=by simpa using h1
    have a5:=(lX (ws:=ws) U (nR h1)).1;rw[d1]at h1;have aL:fu s=(bu s.cs (df s.hts (.t [.s "give",.s (hd s.l.tail)])) s.l.tail.tail).stp:=by
     unfold fu;rw[h,if_neg (by decide),if_pos U,if_pos h1]
    refine(λc q=>Ea5 λ(m':Nat)(cs:List Oc)(b:L2.T)(l':List Str)(k:Int)=>q=[.r (.l (ws.map .s)),.o (.i m'),.o (.i k)]/\k=cs.length/\m<m'/\m'<=ws.length/\c=cs.length/\ws.drop m'=l'/\fu s=(bu cs b l').stp,(_,m+2,s.cs,_,_,_,U,U,by lia,by lia,U,d2,aL),?_)
    rintro c q ⟨m',cs,b,l',k,rfl,hk,a4,a0,rfl,ak,g⟩
    cases cs with
    |nil =>
     have hk:k=0:=hk;refine a7 (λz=>?_) (λ_=>?_)
     ·exact absurd (of_decide_eq_true z) (by lia)
     refine(U,a7 (λ_=>?_) (λz=>?_))
     ·exact(U,hq b l' m' (Ew _ (.fin g)) a0 ak)
     ·exact absurd (decide_eq_true (by rw[hk])) z
    |cons c cs =>
     rw[my]at hk;refine a7 (λz=>?_) (λz=>?_)
     rotate_left
     ·exact absurd (decide_eq_true (by lia)) z
     refine(ws,m',U,hl,by lia,U,a7 (λh2=>?_) (λh2=>?_))
     ·have h2:hd (ws.drop m')="end":=by rw[i6]at h2;exact of_decide_eq_true h2
      have:=lX (ws:=ws) U (by rw[h2];decide)
      rw[ak]at h2;refine(λq=>∃c,c<_/\_,λq h=>h,?_)
      refine(cs.length,by rw[my];lia,m'+1,cs,(c.fed b).whole,l'.tail,k-1,U,by lia,by lia,by lia,U,by rw[<- ak,CG],?_)
      rw[g,bu,h2,if_neg (by decide),if_pos rfl]
     have h2:¬ hd (ws.drop m')="end":=by rw[i6]at h2;exact λz=>h2 (decide_eq_true z)
     rw[ak]at h2;refine(U,a7 (λz=>?_) (λ_=>?_))
     ·exfalso
      have z:(L2.T.i k).v=(L2.T.i 0).v:=of_decide_eq_true z;have z:=V.int.inj z
      lia
     refine(ws,m'+1,U,hl,by lia,aw,λr hr=>?_)
     refine(ws,m',U,hl,by lia,U,_,pk _,?_)
     rw[i6,ak];rw[bu,if_neg h2]at g;have d3:ws.drop (m'+1)=l'.tail:=by rw[<- ak,CG]
     rw[d3]at hr;cases e:decide (hd l'="|")with
     |false =>
      rw[if_neg (of_decide_eq_false e)]at g;exact(0,by lia,_,-1,cs.length+1,by rw[hk];rfl,.inr U,.no (by decide) (Ew _ (.bad g)))
     |true =>
      rw[if_pos (of_decide_eq_true e)]at g;unfold yo at hr;cases e2:lL l'.tail with
      |none =>
       rw[e2]at g hr;have hr:r = -1:=hr;subst hr;exact(0,by lia,_,-1,cs.length+1,by rw[hk];rfl,.inr U,.no (by decide) (Ew _ (.bad g)))
      |some z =>
       rw[e2]at g hr;let(n',U,aD,hd2):=hr;have hd2:ws.drop n'=z.2:=hd2
       have:=(vq (l2:=z.2) (ah:=z.1) e2).1
       rw[<- hd2,<- d3,xH,xH]at this;exact(ws.length+1-n',by lia,_,n',cs.length+1,by rw[hk];rfl,.inr U,.at (s:=(_::cs,[],z.2)) aD hd2 λo ho=>Ew _ (.on g ho))
theorem wJ:∀l:List Str,bL l=if dN l=[]\/hd (dN l)="|" then Z (l.takeWhile ar,dN l)else Y
 |[]=>by rfl
 |w::l=>by
  rw[bL];cases e:ar w with
  |true =>
   have h:w ≠ "|":=λz=>by rw[z]at e;exact absurd e (by decide +kernel)
   unfold dN;rw[if_neg h,if_pos U,wJ l,YS e,YT e];unfold dN
   split <;> rfl
  |false =>
   unfold dN;rw[YU (by rw[e];decide),YV (by rw[e];decide)]
   by_cases h:w="|"
   ·rw[if_pos h,if_pos (.inr h)]
   ·rw[if_neg h,if_neg (by decide),if_neg (λz=>z.elim (λz=>nomatch z) h)]
theorem EB{k:Nat}:(bK (k+1) l).isSome=if ar (hd l)=O then if dN l=[]then O else if hd (dN l)="|" then(bK k (dN l).tail).isSome else ϊ else false:=by
 rw[bK];unfold iA;by_cases h:ar (hd l)=O
 ·rw[if_pos h,if_pos h,wJ,<- (m4 h).2];by_cases h1:dN l=[]
  ·rw[h1];rfl
  ·rw[if_neg h1];have h3:(dN l).isEmpty=false:=by cases e:dN l;exact absurd e h1;rfl
   by_cases h2:hd (dN l)="|"
   ·rw[if_pos (.inr h2),if_pos h2];show(if(dN l).isEmpty=O then _ else if hd (dN l)="|" then(bK k (dN l).tail).map _ else Y).isSome=_
    rw[h3,if_neg (by decide),if_pos h2,ZR]
   ·rw[if_neg (λz=>z.elim h1 h2),if_neg h2];rfl
 ·rw[if_neg h,if_neg h];rfl
inductive Oj(ts:List L2.T)(Q:L2.T->Prop):Prop
 |mk(ws:List Str)(h1:ts=[.l (ws.map .s)])(h2:ws ≠ [])(h3:ws.length<=900000)(h4:(∀w∈ws,w.length<=900000))(h5:Q (.b (i5 ws).isSome))
theorem rh(ws:List Str):(i5 ws).isSome=if hd ws="kind" then if ar (hd ws.tail)=O then(bK (ws.length+1) ws.tail.tail).isSome else ϊ else false:=by
 unfold i5 oo;by_cases h:hd ws="kind"
 ·rw[if_pos h,if_pos h];show(if ar (hd ws.tail)=O then(bK (ws.length+1) ws.tail.tail).map _ else Y).isSome=_
  split
  ·rw[ZR]
  ·rfl
 ·rw[if_neg h,if_neg h];rfl
theorem zF(T:Txt K mg a):aV P w K mg base CX0 3 a.jL a.uy [WP] (spQ K Oj):=by
 refine T.uH.F.okQ kU (λts Q h=>?_) (λ_ _ _ _ _ _ hr=>?_)
 ·let(_,U,_):=h;rfl
 ·have hu:=cj hr;refine(_,_,((ai (bN (QPW.pt (kz (bO gW dU (a8 _) (bQ (qv 0) ao) (ZB aj)) (j6 (gE (br (ZB (aS (d6 T) hr T.cb (ae (ZB (aS (nQ T) hr T.cL (ae (qv 0) (ae ao az)))) az))))))))
 (ay (aN iM))
 aP)
 (ai (aG 1 kU.nd bR)
 (ai (mR PassesOwn.never (ua (qv 1) (ZB (dY T.gI (ae (qv 0) az))))
 (ai (bN (gE (br (ZB (aS (d6 T) hr T.cb (ae (ZB (aS (nQ T) hr T.cL (ae (qv 0) (ae (ZB (ag (qv 1) ao)) az)))) az)))))
 (ay (aN iM))
 aP)
 (ai (aG 1 kU.nd (aS (gq T) hr T.fJ (ae (qv 0) (ae (ZB (ag (qv 1) ao)) az))))
 (ay (bN (QPW.pt (mQ (ua (qv 1) (ZB (dY T.gI (ae (qv 0) az)))) (k9 (bO gW dU (a8 _) (bQ (qv 0) (qv 1)) (ZB aj)))))
 (ay (aN iM))
 aP)))))
 (ay (aN iM)))))),λts Q h=>?_)
  let(ws,U,ak,hl,V,g):=h;rw[rh]at g;have e0:atI (ws.map L2.T.s) 0=Z (.s (hd ws)):=by
   cases ws with
   |nil=>exact absurd U ak
   |cons w r=>exact jN (j:=0) U
  have d1:ws.drop 1=ws.tail:=by rw[List.drop_one]
  have ll:(ws.map L2.T.s).length=ws.length:=gV ..;refine(_,e0,U,a7 (λh=>?_) (λh=>?_))
  ·rw[if_neg (dQ h)]at g;exact g
  rw[if_pos (nh h)]at g;refine(ws,1,U,hl,by lia,_,U,oH V _,a7 (λh1=>?_) (λh1=>?_))
  ·have h1:¬ ar (hd (ws.drop 1))=true:=by simpa using h1
   rw[d1]at h1;rw[if_neg h1]at g;exact g
  have h1:ar (hd (ws.drop 1))=true:=by simpa using h1
  have au:=(lX (ws:=ws) U (nR h1)).1;rw[d1]at h1;rw[if_pos h1]at g;refine(λc q=>M2 λ(m k:Nat)=>q=[.r (.l (ws.map .s)),.o (.i m)]/\1<=m/\m<=ws.length/\c=ws.length-m/\(m=ws.length/\Q (.b O)\/m<ws.length/\ws.length-m<k/\Q (.b (bK k (ws.drop (m+1))).isSome)),(_,1,ws.length+1,U,by lia,by lia,U,.inr (au,by lia,by rw[show ws.drop (1+1)=ws.tail.tail by rw[<- d1,CG]];exact g)),?_)
  rintro c q ⟨m,k,rfl,m1,hm,rfl,aw⟩
  obtain⟨rfl,g⟩|⟨aH,hk,g⟩:=aw
  ·refine a7 (λz=>?_) (λ_=>?_)
   ·have z:=of_decide_eq_true z;rw[ll]at z
    lia
   ·exact g
  refine a7 (λ_=>?_) (λz=>?_)
  rotate_left
  ·exact absurd (decide_eq_true (by rw[ll];lia)) z
  obtain⟨k,rfl⟩:∃k',k=k'+1:=(k-1,by lia)
  rw[EB]at g;refine(λq=>∃c,c<_/\_,λq h=>h,?_)
  refine(ws,m+1,U,hl,by lia,_,U,oH V _,a7 (λh2=>?_) (λh2=>?_))
  ·have h2:¬ ar (hd (ws.drop (m+1)))=true:=by simpa using h2
   rw[if_neg h2]at g;exact g
  have h2:ar (hd (ws.drop (m+1)))=true:=by simpa using h2
  have YL:=(lX (ws:=ws) U (nR h2)).1;rw[if_pos h2]at g;have hd2:=vi ws (m+1);have ah:=F8 (ws.drop (m+1));have aD:=(m4 h2).1;rw[xH]at ah;refine(ws,m+1,U,hl,by lia,V,?_)
  generalize nN (ws.drop (m+1))=j at *
  by_cases h3:dN (ws.drop (m+1))=[]
  ·rw[if_pos h3]at g;have hj:m+1+j=ws.length:=by
    rw[h3,aa6]at hd2
    lia
   refine a7 (λz=>?_) (λ_=>?_)
   ·have z:=of_decide_eq_true z;rw[ll]at z
    lia
   exact(0,by lia,m+1+j,0,U,by lia,by lia,by lia,.inl (hj,g))
  rw[if_neg h3]at g;have hj:m+1+j<ws.length:=by
   apply Classical.byContradiction
   intro z;rw[MJ (by lia)]at hd2
   exact h3 hd2.symm
  refine a7 (λ_=>?_) (λz=>?_)
  rotate_left
  ·exact absurd (decide_eq_true (by rw[ll];lia)) z
  have ej:atI (ws.map L2.T.s) ((m+1+j:Nat):Int)=Z (.s (hd (dN (ws.drop (m+1))))):=by
   refine jN ?_;rw[tW,<- hd2,rY hj,UQ hj];rfl
  refine(_,ej,U,a7 (λh4=>?_) (λh4=>?_))
  ·rw[if_neg (dQ h4)]at g;exact g
  rw[if_pos (nh h4)]at g;refine(ws.length-(m+1+j),by lia,m+1+j,k,U,by lia,by lia,U,.inr (hj,by lia,?_))
  rw[<- hd2,CG]at g;exact g
theorem wH:∀(n:Nat)(l:List Str),l.length<n->match fParams l with
  |none=>¬(nN l % 2=0/\hd (dN l)="to")
  |some (ps,l2)=>nN l % 2=0/\hd (dN l)="to" /\ l2=(dN l).tail
 | 0,_,h=>absurd h (Nat.not_lt_zero _)
 |n+1,[],_=>λz=>absurd z.2 (by decide)
 |n+1,[w],_=>by
  have q:ar "to"=false:=by decide +kernel
  rw[fParams];by_cases h:w="to"
  ·rw[if_pos h,h]
   have:=sX (l:=[("to":Str)]) (by rw[show hd [("to":Str)]="to" from U,q];decide)
   refine(by rw[this.1],by rw[this.2];rfl,by rw[this.2];rfl)
  ·rw[if_neg h];intro z;by_cases hw:ar w=O
   ·have:=m4 (l:=[w]) hw
    rw[this.2]at z;exact absurd z.2 (show ¬ hd (dN ([]:List Str))="to" by decide)
   ·have:=sX (l:=[w]) hw
    rw[this.2]at z;exact h z.2
 |n+1,w::v::l,hn=>by
  have q:ar "to"=false:=by decide +kernel
  rw[fParams];by_cases h:w="to"
  ·rw[if_pos h,h]
   have:=sX (by rw[show hd (("to":Str)::v::l)="to" from U,q];decide)
   refine(by rw[this.1],by rw[this.2];rfl,by rw[this.2];rfl)
  ·rw[if_neg h];by_cases hw:ar w=O
   ·have a1:=m4 (l:=w::v::l) hw;rw[if_pos hw];by_cases hv:ar v=O
    ·have a2:=m4 (l:=v::l) hv;have g:=wH n l (by simp only[my]at hn;lia)
     have b1:nN (w::v::l)=nN l+2:=by rw[a1.1];show nN (v::l)+1=_;rw[a2.1];rfl
     have b2:dN (w::v::l)=dN l:=by rw[a1.2];show dN (v::l)=_;rw[a2.2];rfl
     rw[if_pos hv,b1,b2];cases e:fParams l with
     |none =>
      rw[e]at g;exact λz=>g (by lia,z.2)
     |some z =>
      rw[e]at g;exact(by lia,g.2.1,g.2.2)
    ·have a2:=sX (l:=v::l) hv;have b1:nN (w::v::l)=1:=by rw[a1.1];show nN (v::l)+1=_;rw[a2.1]
     rw[if_neg hv,b1];exact λz=>absurd z.1 (by decide)
   ·have a1:=sX (l:=w::v::l) hw;rw[if_neg hw,a1.2];exact λz=>h z.2
inductive SE(ts:List L2.T)(Q:L2.T->Prop):Prop
 |mk(ws:List Str)(h1:ts=[.l (ws.map .s)])(h2:hd ws="def")(h3:ws.length<=900000)(h4:(∀w∈ws,w.length<=900000))(h5:(oA ws Y->Q (.b ϊ)))(h6:∀r,oA ws (Z r)->Q (.b O))
theorem sT(T:Txt K mg a):aV P w K mg base CX0 6 a.gw a.lW [WP] (spQ K SE):=by
 refine T.mf.F.okQ ko (λts Q h=>?_) (λ_ _ _ _ _ _ hr=>?_)
 ·let(_,U,_):=h;rfl
 ·have hu:=cj hr;refine(_,_,((ai (bN (gE (br (ZB (aS (d6 T) hr T.cb (ae (ZB (aS (nQ T) hr T.cL (ae (qv 0) (ae ao az)))) az)))))
 (ay (aN iM))
 aP)
 (ai (aG 1 ko.nd (aS (gq T) hr T.fJ (ae (qv 0) (ae ao az))))
 (ai (bN (QPW.pt (kz (ff hu (ZB (RX (qv 1) ao)) ao) (j6 (bO gW dU (a8 _) (ZB (aS (nQ T) hr T.cL (ae (qv 0) (ae (qv 1) az)))) (ZB aj)))))
 (ay (aN iM))
 aP)
 (ai (bN (QPW.pt (kz (gE (br (ZB (aS (d6 T) hr T.cb (ae (ZB (aS (nQ T) hr T.cL (ae (qv 0) (ae (ZB (ag (qv 1) ao)) az)))) az))))) (j6 (bO gW dU (a8 _) (ZB (aS (nQ T) hr T.cL (ae (qv 0) (ae (ZB (ag (qv 1) ao)) az)))) (ZB aj)))))
 (ay (aN iM))
 aP)
 (ay (aN (cS (gG hu U) dW (a8 _) (ZB (aS (v7 T) hr T.oV (ae (qv 0) (ae (ZB (ag (qv 1) ao)) az)))) (ZB (dY T.gI (ae (qv 0) az))))))))))),λts Q h=>?_)
  let(ws,U,WT,hl,g,hx,hq):=h;have d1:ws.drop 1=ws.tail:=by rw[List.drop_one]
  have q:=wH (ws.tail.tail.length+1) ws.tail.tail (YQ _);have bad:fHd ws=Y->Q (.b ϊ):=λh=>hx (.Ct h)
  unfold fHd at bad;rw[if_pos WT]at bad;refine(ws,1,U,hl,by lia,_,U,oH g _,a7 (λh1=>?_) (λh1=>?_))
  ·have h1:¬ ar (hd (ws.drop 1))=true:=by simpa using h1
   rw[d1]at h1;rw[if_neg h1]at bad;exact bad U
  have h1:ar (hd (ws.drop 1))=true:=by simpa using h1
  have aD:=(lX (ws:=ws) U (nR h1)).1;have ak:=m4 h1;have hd2:=vi ws 1;have au:=F8 (ws.drop 1);rw[xH]at au;rw[ak.2]at hd2;rw[d1]at h1 ak hd2;rw[if_pos h1]at bad;refine(ws,1,U,hl,by lia,g,?_)
  rw[show nN (ws.drop 1)=nN ws.tail from by rw[d1]]
  rw[d1]at au;have hn:1+nN ws.tail=nN ws.tail.tail+2:=by lia
  generalize 1+nN ws.tail=n at *
  generalize dN ws.tail.tail=L at *
  refine((by show(0:Int)<2;decide),U,a7 (λh2=>?_) (λh2=>?_))
  ·have h2:((n:Nat):Int) % 2=1:=V.int.inj (of_decide_eq_true h2);refine bad ?_;cases e:fParams ws.tail.tail with
   |none=>rfl
   |some z =>
    let(ps,l2):=z;rw[e]at q
    have:=q.1
    lia
  have h2:((n:Nat):Int) % 2≠1:=λz=>h2 (decide_eq_true (show(L2.T.i ((n:Int) % 2)).v=(L2.T.i 1).v by rw[z]))
  refine(ws,n,U,hl,by lia,U,a7 (λh3=>?_) (λh3=>?_))
  ·have h3:=dQ h3;rw[hd2]at h3;refine bad ?_;cases e:fParams ws.tail.tail with
   |none=>rfl
   |some z =>
    let(ps,l2):=z;rw[e]at q;exact absurd q.2.1 h3
  have h3:=nh h3;rw[hd2]at h3;obtain⟨ps,l2,e⟩:∃ps l2,fParams ws.tail.tail=Z (ps,l2):=by
   cases e:fParams ws.tail.tail with
   |none=>rw[e]at q;exact absurd (by lia,h3) q
   |some z=>exact(z.1,z.2,U)
  rw[e]at q bad;let(_,_,U):=q;have bad:(if ar (hd L.tail)=O then if hd L.tail.tail=":" then Z (Prod.mk ((hd ws.tail,ps,hd L.tail):Fh) L.tail.tail.tail)else Y else Y)=Y->Q (.b ϊ):=bad
  have e1:ws.drop (n+1)=L.tail:=by rw[<- hd2,CG]
  have e2:ws.drop (n+2)=L.tail.tail:=by rw[<- e1,CG]
  have e3:ws.drop (n+3)=L.tail.tail.tail:=by rw[<- e2,CG]
  refine(ws,n+1,U,hl,by lia,_,U,oH g _,a7 (λh4=>?_) (λh4=>?_))
  ·have h4:¬ ar (hd (ws.drop (n+1)))=true:=by simpa using h4
   rw[e1]at h4;exact bad (if_neg h4)
  have h4:ar (hd (ws.drop (n+1)))=true:=by simpa using h4
  rw[e1]at h4;refine(ws,n+2,U,hl,by lia,U,a7 (λh5=>?_) (λh5=>?_))
  ·have h5:=dQ h5;rw[e2]at h5;exact bad (by rw[if_pos h4,if_neg h5])
  have h5:=nh h5;have h6:=(lX (ws:=ws) U (by rw[h5];decide)).1
  rw[e2]at h5;have hf:fHd ws=Z (Prod.mk ((hd ws.tail,ps,hd L.tail):Fh) L.tail.tail.tail):=by
   unfold fHd;rw[if_pos WT,if_pos h1,e];show(if ar (hd L.tail)=O then if hd L.tail.tail=":" then Z (Prod.mk ((hd ws.tail,ps,hd L.tail):Fh) L.tail.tail.tail)else Y else Y)=_
   rw[if_pos h4,if_pos h5]
  rw[<- e3]at hf;have ll:(ws.map L2.T.s).length=ws.length:=gV ..;have dec:∀m:Int,decide ((L2.T.i m).v=(L2.T.i ((ws.map L2.T.s).length:Int)).v)=decide (m=ws.length):=λm=>by rw[ll];exact decide_eq_decide.mpr (λh=>V.int.inj h,λh=>by rw[h])
  refine(ws,n+3,U,hl,by lia,g,λh=>(U,?_),λb l m h hm ah=>(U,?_))
  ·rw[dec,decide_eq_false (by lia)]
   exact hx (.EL hf h)
  ·rw[dec];by_cases aw:m=ws.length
   ·rw[aw,MJ (oa _)]at ah;rw[decide_eq_true (by lia)]
    subst ah;exact hq _ (.ok hf h)
   ·rw[decide_eq_false (by lia)]
    refine hx (.EK hf h ?_);rw[<- ah,UQ (show m<ws.length by lia)]
    rfl
inductive N9(ts:List L2.T)(Q:L2.T->Prop):Prop
 |mk(text:_)(h1:ts=[.s text])(h2:text.length<=800000)(h3:(∀r,eO 0 [] [] (rowsOf text) (.inl r)->Q .n))(h4:∀n:Nat,eO 0 [] [] (rowsOf text) (.inr n)->Q (.i n))
theorem jk:Txt.split x y ≠ []:=by
 unfold Txt.split
 split
 ·exact λz=>nomatch z
 ·split
  ·exact λz=>nomatch z
  ·intro z
   have:=congrArg YH z
   rw[PyProof.Rows.len_partsBetween]at this;simp at this
theorem vZ(T:Txt K mg a):aV P w K mg base CX0 7 a.iH a.oK [Tk] (spQ K N9):=by
 refine T.oS.F.okQ dy (λts Q h=>?_) (λ_ _ _ _ _ _ hr=>?_)
 ·let(_,U,_):=h;rfl
 ·have hu:=cj hr;refine(_,_,((ai (bN (ff hu (qv 0) (ZB aj))
 (ay (aN vN))
 aP)
 (ai (aG 1 dy.nd bR)
 (ai (j7 (g:=(Tg.tp [2,3])) PassesOwn.never U (Ki T.nq (gH (qv 0) (ZB aj))) (K3 (j9 2 dy.nd) (j9 3 dy.nd))
 (ai (aG 4 dy.nd (gH (qv 3) (ZB aj)))
 (ay (bN (ff hu (bQ (qv 4) ao) (ZB aj))
 (ai (aG 1 dy.nd (ag (qv 1) ao))
 (ay (bN (gE (br (ZB (aS (sT T) hr T.mf (ae (qv 4) az)))))
 (ay (aN (XL (qv 2))))
 aP)))
 (ay (bN (QPW.pt (kz (ya (qv 1) ao) (j6 (gE (br (ZB (aS (zF T) hr T.uH (ae (qv 4) az))))))))
 (ay (aN (XL (qv 2))))
 aP))))))
 (ay (aN vN)))))),λts Q h=>?_)
  let(text,U,hl,hq,hx):=h;refine(U,a7 (λh=>?_) (λh=>?_))
  ·have h:text="":=by rw[i6]at h;exact of_decide_eq_true h
   have er:rowsOf text=[]:=if_pos h;rw[er]at hq;exact hq _ .nil
  have h:text ≠ "":=by rw[i6]at h;exact λz=>h (decide_eq_true z)
  have er:rowsOf text=Txt.split text "\n":=if_neg h;rw[er]at hq hx;have sl:=gC text "\n";have rl:∀row∈Txt.split text "\n",row.length<=text.length:=λrow hr=>split_le (c:=10) hr
  refine(by decide,aM (by lia),?_)
  generalize Txt.split text "\n"=rows at *
  refine(λi q=>Ea6 λ(fs:List L2.T)(ks:List Kd)(m:Int)(o2 o3 o4:Sl)=>q=[.r (.s text),.o (.i m),o2,o3,o4]/\m=fs.length/\(∀o,eO i ks fs (rows.drop i) o->eO 0 [] [] rows o),([],[],_,_,_,_,U,U,λ_ h=>h),λi z q hz hi=>?_,λq hi=>?_)
  ·let(fs,ks,m,o2,o3,o4,U,hm,hf):=hi;let(u,ah,U):=rj hz;rw[tW]at ah;let(row,zW,U):=kg.mp ah;have il:=(kf.mp zW).1;have ed:rows.drop i=row::rows.drop (i+1):=(UQ il).trans (by rw[(kf.mp zW).2])
   have aD:=rl row (Au zW);rw[ed]at hf;have aw:=gC row " ";have wl:∀w∈Txt.split row " ",w.length<=900000:=λw hw=>u4 (split_le (c:=32) hw) (by lia)
   refine(_,U,by decide,aM (by lia),?_)
   have ak:=jk (x:=row) (y:=" ")
   generalize V:Txt.split row " "=ws at *
   have e0:atI (ws.map L2.T.s) 0=Z (.s (hd ws)):=by
    cases ws with
    |nil=>exact absurd U ak
    |cons w r=>exact jN (j:=0) U
   refine(_,e0,U,a7 (λh1=>?_) (λh1=>?_))
   ·have h1:hd ws="def":=by rw[i6]at h1;exact of_decide_eq_true h1
    have nk:¬(hd (Txt.split row " ")="kind" /\ fs=[]):=λz=>by rw[V,h1]at z;exact absurd z.1 (by decide)
    refine(ws,U,h1,by lia,wl,λhb=>?_,λr hb=>?_)
    ·exact(U,hx i (hf _ (.fnX nk (by rw[V];exact hb))))
    ·exact(fs++[r],ks,m+1,_,_,_,U,by rw[qd,hm];rfl,λo ho=>hf o (.fn nk (by rw[V];exact hb) ho))
   have h1:¬ hd ws="def":=by rw[i6]at h1;exact λz=>h1 (decide_eq_true z)
   have nf:oA (Txt.split row " ") none:=.Ct (by rw[V];unfold fHd;rw[if_neg h1])
   refine a7 (λh2=>?_) (λh2=>?_)
   ·have h2:0<m:=of_decide_eq_true h2;exact(U,hx i (hf _ (.fnX (λz=>by rw[z.2]at hm;have hm:m=0:=hm;lia) nf)))
   have au:fs=[]:=by
    have h2:¬ 0<m:=λz=>h2 (decide_eq_true z)
    cases fs with
    |nil=>rfl
    |cons f r=>rw[my]at hm;lia
   subst au;refine(ws,U,ak,by lia,wl,?_)
   cases e:i5 ws with
   |none =>
    by_cases hk:hd ws="kind"
    ·exact(U,hx i (hf _ (.uh (by rw[V];exact hk) (by rw[V];exact e))))
    ·exact(U,hx i (hf _ (.fnX (λz=>hk (by rw[<- V];exact z.1)) nf)))
   |some z =>
    let(k,l):=z;have hk:hd ws="kind":=by
     have:=rh ws
     rw[e]at this;by_cases hk:hd ws="kind"
     ·exact hk
     ·rw[if_neg hk]at this;cases this
    exact([],ks++[k],m,_,_,_,U,hm,λo ho=>hf o (.kind (by rw[V];exact hk) (by rw[V];exact e) ho))
  ·let(fs,ks,m,o2,o3,o4,U,hm,hf):=hi;rw[kJ,gV,ZX]at hf;exact hq _ (hf _ .nil)
theorem fk{w:Str}(h:hd l=w)(hw:w ≠ ""):l=w::l.tail:=by
 cases l with
 |nil=>exact absurd h.symm hw
 |cons v r=>rw[show v=w from h];rfl
theorem iF(h:ar (hd l)=O):l=hd l::l.tail:=by
 let(v,r,U):=qS h;rfl
theorem sW{due:Str}:∀{l:List Str}{ns l2:List Str},fNames due l=Z (ns,l2)->(∀m∈ns,ar m=O)/\l=ns++due::l2
 |[],ns,l2,h=>by cases h
 |w::l,ns,l2,h=>by
  rw[fNames]at h
  split at h
  ·rename_i e;cases h;rw[e];exact((λ_ z=>nomatch z),U)
  ·split at h
   ·rename_i e;let((g,l'),h1,h2):=kg.mp h;cases h2;let(g1,g2):=sW h1;refine(λm hm=>?_,by rw[g2];rfl)
    obtain z|z:=fx.mp hm
    ·rw[z];exact e
    ·exact g1 m z
   ·cases h
theorem GG{ah:List L2.T}(h:lL l=Z (ah,l2)):∃m ns,ar m=O/\(∀k∈ns,ar k=O)/\ah=[.s m,.t (ns.map .s)]/\l=m ::(ns++(":":Str)::l2):=by
 unfold lL at h
 split at h
 ·rename_i e;let((g,l'),h1,h2):=kg.mp h;cases h2;let(g1,g2):=sW h1;exact(hd l,g,e,g1,U,by rw[<- g2];exact iF e)
 ·cases h
theorem Jl:∀{cs:List Nat}{acc:Nat},PySem.NumText.AllDigits cs->cs.foldl (λacc c=>acc*10+(c-48)) acc<(acc+1)*10 ^ cs.length
 |[],acc,_=>by show acc<(acc+1)*10 ^ 0;lia
 |c::cs,acc,h=>by
  have h1:=h c di;have h2:=Jl (acc:=acc*10+(c-48)) λd hd=>h d (aJ _ hd)
  rw[my,Nat.pow_succ];refine wa h2 ?_;rw[Nat.mul_comm (10 ^ cs.length) 10,<- Nat.mul_assoc];exact aa5 _ (by lia)
theorem Mu(h:dH x=O):∃n:Nat,1<=n/\n<=9999999/\intOf x=n/\x=ka n:=by
 have hl:=tI h;have hi:=yu h;unfold dH ofB at h;simp only[ti]at h;have hd:=λc q=>tu c (va (Av.mp h.1.2.2 c q))
 have g:x.cps.toList ≠ []:=λz=>by have:x.length=0:=congrArg YH z;lia
 have e:=PySem.intText_digits hd g (by lia)
 rw[hi]at e;have e:=Option.some.inj e;have hlen:x.cps.toList.length=x.length:=Y4;have Q:=by
  have:=h.2
  simpa using this
 obtain⟨c,r,K⟩:∃c r,x.cps.toList=c::r:=by
  cases e:x.cps.toList with
  |nil=>exact absurd e g
  |cons c r=>exact(c,r,U)
 have q:49<=c:=by
  have h1:=hd c (by rw[K];exact di)
  have:c≠48:=λz=>Q (by rw[K,z];rfl)
  lia
 have hv:=PySem.NumText.toDigits_digitsVal (x.cps.toList.length-1) x.cps.toList (by rw[hlen];lia) hd (.inr (c,r,K,q))
 refine(PySem.NumText.digitsVal x.cps.toList,?_,?_,e,?_)
 ·rw[K];exact PySem.NumText.digitsVal_pos q
 ·have:=Jl (acc:=0) hd
  have h7:10 ^ x.cps.toList.length<=10 ^ 7:=Nat.pow_le_pow_right (by decide) (by lia)
  have:PySem.NumText.digitsVal x.cps.toList<(0+1)*10 ^ x.cps.toList.length:=this
  lia
 ·have V:=zI (PySem.NumText.digitsVal x.cps.toList);rw[hv,Zb]at V;have e3:x.cps.toList.map (Char.toNat ∘ Char.ofNat)=x.cps.toList:=by
   rw[ZI]
   ·exact List.map_id _
   ·intro d P
    have:=hd d P
    have hk:∀k:Fin 10,(Char.ofNat (48+k.val)).toNat=48+k.val:=by decide
    have:=hk (d-48,by lia)
    rwa [show 48+(d-48)=d by lia]at this
  rw[e3]at V;cases x with
  |mk cps =>
   have:=(Array.toList_inj.mp V).symm
   exact congrArg Str.mk this
def HdR(h:List L2.T)(p:List Str):Prop:=∀ό:Bd,ό.ok->∃g:Bd,g.ok/\L2.T.t (h++[ό.t])=g.t/\g.ws=p++ό.ws
def HsR(hts:List (List L2.T))(p:List Str):Prop:=∀ό:Bd,ό.ok->∃g:Bd,g.ok/\df hts ό.t=g.t/\g.ws=p++ό.ws
theorem HsR.nil:HsR [] []:=λό h=>(ό,h,U,U)
theorem HsR.snoc{hts:List (List L2.T)}{q:List Str}{h:List L2.T}(hs:HsR hts p)(K:HdR h q):HsR (hts++[h]) (p++q):=λό P=>by
 let(B1,h1,V,z):=K ό P;let(B2,h2,Q,g):=hs B1 h1;exact(B2,h2,by rw[nI,V,Q],by rw[g,z,Ay])
theorem OZ{h:List L2.T}(e:lK l=Z (h,l2)):∃p,HdR h (("let":Str)::p)/\l=p++l2:=by
 unfold lK at e
 split at e
 ·rename_i h1
  split at e
  ·rename_i h2
   split at e
   ·rename_i h3;have V:=iF h1;have Q:=fk U (by obtain z|z|z:=h2 <;> rw[z] <;> decide)
    have P:=iF h3
    split at e
    ·rename_i h4;let(z,g1,g2):=kg.mp e;cases g2;let(K,_,q):=cC g1;have e3:=fk K (by decide)
     refine([hd l,hd l.tail,hd l.tail.tail,(";")],λό g=>(.nam (hd l) (hd l.tail.tail) ό,(h1,h3,g),?_,?_),?_)
     ·rw[h4];rfl
     ·rw[h4];rfl
     ·show l=hd l::hd l.tail::hd l.tail.tail ::(";")::z.2;rw[q,<- e3,<- P,<- Q];exact V
    ·rename_i h4;let((ns,l'),g1,g2):=kg.mp e;cases g2;let(K,q):=sW g1;refine(hd l::hd l.tail::hd l.tail.tail ::(ns++[(";":Str)]),λό g=>(.mk (hd l.tail) (hd l) (hd l.tail.tail) ns ό,(?_,h1,h3,K,g),U,?_),?_)
     ·obtain z|z|z:=h2
      ·exact .inl z
      ·exact .inr z
      ·exact absurd z h4
     ·show("let":Str)::hd l::hd l.tail::hd l.tail.tail ::(ns++(";":Str)::ό.ws)=("let":Str)::hd l::hd l.tail::hd l.tail.tail ::(ns++[(";":Str)]++ό.ws)
      simp
     ·show l=hd l::hd l.tail::hd l.tail.tail ::(ns++[(";":Str)]++l');rw[Ay];show l=hd l::hd l.tail::hd l.tail.tail ::(ns++(";":Str)::l');rw[<- q,<- P,<- Q];exact V
   ·cases e
  ·cases e
 ·cases e
theorem LM{w:Str}{h:List L2.T}(e:cQ w l=Z (h,l2)):∃p,HdR h p/\w::l=p++l2:=by
 unfold cQ at e
 split at e
 ·rename_i hw;let(p,h1,h2):=OZ e;exact(_,h1,by rw[h2,hw];rfl)
 ·split at e
  ·rename_i hw
   split at e
   ·rename_i h1;let(z,g1,g2):=kg.mp e;cases g2;let(d1,_,d2):=cC g1;have V:=fk d1 (by decide)
    let(n,P,K,q,g):=Mu h1;have e0:=fk U (λz=>by rw[z]at h1;exact absurd h1 (by decide +kernel))
    refine([w,hd l,(";")],λό Q=>(.mm w n ό,(hw,P,K,Q),?_,?_),?_)
    ·rw[q];rfl
    ·rw[g];rfl
    ·show w::l=w::hd l ::(";")::z.2;rw[d2,<- V,<- e0]
   ·cases e
  ·cases e
def nt:Ar->Str->List Str->Bd->Ar
 |.nil,m,ns,b=>.cons m ns b .nil
 |.cons m' g b' r,m,ns,b=>.cons m' g b' (nt r m ns b)
theorem Fg:∀(a:Ar)(m ns b),(nt a m ns b).ts=a.ts++[.t [.s m,.t (ns.map .s),b.t]]
 |.nil,m,ns,b=>rfl
 |.cons m' g b' r,m,ns,b=>by show _ ::(nt r m ns b).ts=_;rw[Fg r];rfl
theorem Ff:∀(a:Ar)(m ns b),(nt a m ns b).ws=a.ws++("|":Str)::m ::(ns++(":":Str)::b.ws)
 |.nil,m,ns,b=>by show("|":Str)::m ::(ns++(":":Str) ::(b.ws++[]))=_;rw[qp];rfl
 |.cons m' g b' r,m,ns,b=>by
  show("|":Str)::m' ::(g++(":":Str) ::(b'.ws++(nt r m ns b).ws))=("|":Str)::m' ::(g++(":":Str) ::(b'.ws++r.ws))++_
  rw[Ff r];simp
theorem Fi:∀{a:Ar}{m ns b},a.ok->ar m=O->(∀k∈ns,ar k=O)->b.ok->(nt a m ns b).ok/\nt a m ns b ≠ .nil
 |.nil,m,ns,b,_,h1,h2,h3=>((h1,h2,h3,trivial),λz=>nomatch z)
 |.cons m' g b' r,m,ns,b,(g1,g2,g3,q),h1,h2,h3=>((g1,g2,g3,(Fi q h1 h2 h3).1),λz=>nomatch z)
inductive OcR(c:Oc)(p:List Str):Prop
 |mk(hp:List Str)(done:Ar)(m:Str)(ns:List Str)(h1:HsR c.hts hp)(h2:done.ok)(h3:ar m=O)(h4:∀k∈ns,ar k=O)(h5:ar c.lk=O)(h6:c.arms=done.ts)(h7:c.ah=[.s m,.t (ns.map .s)])(h8:p=hp++("case":Str)::c.lk ::(done.ws++("|":Str)::m ::(ns++[(":":Str)])).tail)
theorem AN{α:Type}{a b:List α}(h:a ≠ []):(a++b).tail=a.tail++b:=by
 cases a with
 |nil=>exact absurd U h
 |cons x r=>rfl
theorem OcR.fed{c:Oc}{p:List Str}(h:OcR c p){ό:Bd}(g:ό.ok):∃(hp:List Str)(done:Ar),HsR c.hts hp/\done.ok/\done ≠ .nil/\ar c.lk=O/\(c.fed ό.t).arms=done.ts/\p++ό.ws=hp++("case":Str)::c.lk::done.ws.tail:=by
 let(hp,done,m,ns,h1,h2,h3,h4,h5,h6,h7,U):=h;let(o1,o2):=Fi h2 h3 h4 g;refine(hp,nt done m ns ό,h1,o1,o2,h5,?_,?_)
 ·show c.arms++[.t (c.ah++[ό.t])]=_;rw[h6,h7,Fg];rfl
 ·rw[Ff,Ay]
  congr 1
  show("case":Str)::c.lk ::((done.ws++("|":Str)::m ::(ns++[(":":Str)])).tail++ό.ws)=_
  rw[<- AN (by simp)]
  simp
theorem OcR.next{c:Oc}{ah:List L2.T}(h:OcR c p)(q:ό.ok)(e:lL l=Z (ah,l2)):∃g,OcR {c.fed ό.t with ah:=ah} g/\p++ό.ws++("|":Str)::l=g++l2:=by
 let(hp,done,h1,h2,h3,h4,h5,h6):=h.fed q;let(m,ns,g1,g2,U,U):=GG e;refine(_,.mk hp done m ns h1 h2 g1 g2 h4 h5 U U,?_);have hw:done.ws ≠ []:=by cases done with
  |nil=>exact absurd U h3
  |cons _ _ _ _=>exact λz=>nomatch z
 rw[h6,AN hw];show _=(hp++("case":Str)::c.lk ::(done.ws.tail++("|":Str)::m ::(ns++[(":":Str)])))++l2
 simp
theorem OcR.whole{c:Oc}{p:List Str}(h:OcR c p){ό:Bd}(z:ό.ok):∃g:Bd,g.ok/\(c.fed ό.t).whole=g.t/\g.ws=p++ό.ws++[("end":Str)]:=by
 let(hp,done,h1,h2,h3,h4,h5,h6):=h.fed z;let(g,o1,o2,q):=h1 (.cas c.lk done) (h4,h3,h2);refine(g,o1,?_,?_)
 ·rw[<- o2];unfold Oc.whole;rw[h5];rfl
 ·rw[q,h6];show hp++("case":Str)::c.lk ::(done.ws.tail++[("end":Str)])=_
  simp
inductive CsR:List Oc->List Str->Prop
 |nil:CsR [] []
 |cons{c cs p q}:CsR cs p->OcR c q->CsR (c::cs) (p++q)
theorem tJ:∀{cs:List Oc}{p:List Str}{ό:Bd}{l:List Str},CsR cs p->ό.ok->match bu cs ό.t l with
  |.fin b l'=>∃P:Bd,P.ok/\b=P.t/\p++ό.ws++l=P.ws++l'
  |.on cs' l'=>∃g,CsR cs' g/\p++ό.ws++l=g++l'
  |.bad=>True
 |_,_,ό,l,.nil,Q=>(ό,Q,U,U)
 |_,_,ό,l,.cons (p:=p) (q:=q) h1 h2,Q=>by
  rw[bu];by_cases V:hd l="|"
  ·rw[if_pos V];cases K:lL l.tail with
   |none=>trivial
   |some z =>
    let(g,g1,g2):=h2.next Q K;refine(p++g,.cons h1 g1,?_);rw[<- fk V (by decide)]at g2
    rw[Ay p g,<- g2];simp
  ·rw[if_neg V];by_cases K:hd l="end"
   ·rw[if_pos K];let(P,o1,o2,o3):=h2.whole Q
    have:=tJ (l:=l.tail) h1 o1
    rw[o2];have e:p++q++ό.ws++l=p++P.ws++l.tail:=by
     rw[o3,fk K (by decide)]
     simp
    rw[e];exact this
   ·rw[if_neg K];trivial
theorem NG{o:Option (L2.T×List Str)}(h:Run s o):∀{p q:List Str},CsR s.cs p->HsR s.hts q->∀{b l'},o=Z (b,l')->∃ό:Bd,ό.ok/\b=ό.t/\p++q++s.l=ό.ws++l':=by
 induction h with
 |@bad s e=>intro p q _ _ b l' z;cases z
 |@fin s b0 l0 e =>
  intro p q V Q b l' z;cases z;unfold fu at e
  split at e
  ·split at e
   ·split at e <;> cases e
   ·cases e
  ·split at e
   ·rename_i e1
    split at e
    ·rename_i K;let(ό,b1,b2,b3):=Q (.give (hd s.l.tail)) K
     have:=tJ (l:=s.l.tail.tail) V b1
     have b2:df s.hts (.t [.s "give",.s (hd s.l.tail)])=ό.t:=b2;rw[b2]at e;cases g:bu s.cs ό.t s.l.tail.tail with
     |fin b4 l4 =>
      rw[g]at e this;cases e;let(B',o1,o2,P):=this;refine(B',o1,o2,?_);rw[<- P,b3];have ee:s.l=("give":Str)::hd s.l.tail::s.l.tail.tail:=by rw[<- iF K];exact fk e1 (by decide)
      rw[ee];show p++q++("give":Str)::hd s.l.tail::s.l.tail.tail=p++(q++[("give":Str),hd s.l.tail])++s.l.tail.tail;simp
     |on ak l4=>rw[g]at e;cases e
     |bad=>rw[g]at e;cases e
    ·cases e
   ·split at e <;> cases e
 |@on s s' o e _ ih =>
  intro p q V Q b l' z;unfold fu at e
  split at e
  ·rename_i e1
   split at e
   ·rename_i K
    split at e
    ·rename_i ah l2 g;cases e;let(m,ns,g1,g2,U,g4):=GG g;have oc:OcR (s.hts,hd s.l.tail,[],[.s m,.t (ns.map .s)]) _:=.mk q .nil m ns Q trivial g1 g2 K U U U;let(ό,o1,o2,P):=ih (.cons V oc) .nil z;refine(ό,o1,o2,?_);rw[<- P];have ee:s.l=("case":Str)::hd s.l.tail::m ::(ns++(":":Str)::l2):=by rw[<- g4,<- iF K];exact fk e1 (by decide)
     rw[ee];show p++q++("case":Str)::hd s.l.tail::m ::(ns++(":":Str)::l2)=p++(q++("case":Str)::hd s.l.tail ::(m ::(ns++[(":":Str)])))++[]++l2
     simp
    ·cases e
   ·cases e
  ·split at e
   ·rename_i e1
    split at e
    ·rename_i K;let(ό,b1,b2,b3):=Q (.give (hd s.l.tail)) K
     have:=tJ (l:=s.l.tail.tail) V b1
     have b2:df s.hts (.t [.s "give",.s (hd s.l.tail)])=ό.t:=b2;rw[b2]at e;cases g:bu s.cs ό.t s.l.tail.tail with
     |fin b4 l4=>rw[g]at e;cases e
     |on ak l4 =>
      rw[g]at e this;cases e;let(p',o1,o2):=this;let(B',r1,r2,r3):=ih o1 .nil z;refine(B',r1,r2,?_);rw[<- r3,qp,<- o2,b3];have ee:s.l=("give":Str)::hd s.l.tail::s.l.tail.tail:=by rw[<- iF K];exact fk e1 (by decide)
      rw[ee];show p++q++("give":Str)::hd s.l.tail::s.l.tail.tail=p++(q++[("give":Str),hd s.l.tail])++s.l.tail.tail;simp
     |bad=>rw[g]at e;cases e
    ·cases e
   ·split at e
    ·rename_i h l2 g;cases e;let(pp,g1,g2):=LM g;let(ό,o1,o2,P):=ih V (Q.snoc g1) z;refine(ό,o1,o2,?_);rw[<- P];have e0:=(tE g).1;have ee:=fk (l:=s.l) U e0;rw[ee,g2];simp
    ·cases e
mutual
theorem Bd.cw:∀{b:Bd},b.ok->5*b.cd<=b.ws.length/\b.wt<=2*b.ws.length
 |.give x,_=>by show 5*0<=2/\3<=2*2;(first|lia|omega)
 |.mm w n b,(_,_,_,h)=>by have:=Bd.cw h;show 5*b.cd<=b.ws.length+3/\4+b.wt<=2*(b.ws.length+3);(first|lia|omega)
 |.nam x y b,(_,_,h)=>by have:=Bd.cw h;show 5*b.cd<=b.ws.length+5/\6+b.wt<=2*(b.ws.length+5);(first|lia|omega)
 |.mk w x y ns b,(_,_,_,_,h)=>by have:=Bd.cw h;show 5*b.cd <=(ns++(";":Str)::b.ws).length+4/\6+ns.length+b.wt<=2*((ns++(";":Str)::b.ws).length+4);rw[qd,my];(first|lia|omega)
 |.cas x as,(_,hn,h)=>by
  have h1:=Ar.cw h;have h2:=h1.1 hn;have h3:=h1.2;show 5*(as.cd+1) <=(as.ws.tail++[("end":Str)]).length+2/\4+as.wt<=2*((as.ws.tail++[("end":Str)]).length+2);rw[qd,xv];show _<=_-1+1+2/\_<=2*(_-1+1+2)
  (first|lia|omega)
theorem Ar.cw:∀{as:Ar},as.ok->(as ≠ .nil->5*as.cd+3<=as.ws.length)/\as.wt<=2*as.ws.length
 |.nil,_=>(λh=>absurd U h,oa _)
 |.cons m ns b .nil,(_,_,K,_)=>by
  have:=Bd.cw K
  show(_->5*(max b.cd 0)+3 <=(ns++(":":Str) ::(b.ws++[])).length+2)/\3+ns.length+b.wt+0<=2*((ns++(":":Str) ::(b.ws++[])).length+2);rw[qd,my,qp]
  (first|lia|omega)
 |.cons m ns b (.cons m' g b' r),(_,_,K,hr)=>by
  have:=Bd.cw K
  have h1:=Ar.cw hr;have h2:=h1.1 (λz=>nomatch z)
  have h3:=h1.2
  generalize Ar.cons m' g b' r=q at *
  show(_->5*(max b.cd q.cd)+3 <=(ns++(":":Str) ::(b.ws++q.ws)).length+2)/\3+ns.length+b.wt+q.wt<=2*((ns++(":":Str) ::(b.ws++q.ws)).length+2);rw[qd,my,qd]
  (first|lia|omega)
end
theorem vX:∀{n:Nat}{l l2:List Str}{ps:List (Str×Str)},l.length<n->fParams l=Z (ps,l2)->(∀p∈ps,ar p.1=O/\ar p.2=O)/\l=pws ps++("to":Str)::l2
 | 0,_,_,_,h,_=>absurd h (Nat.not_lt_zero _)
 |n+1,[],_,_,_,h=>by cases h
 |n+1,[w],_,_,_,h=>by
  rw[fParams]at h
  split at h
  ·rename_i e;cases h;rw[e];exact((λ_ z=>nomatch z),U)
  ·cases h
 |n+1,w::v::l,l2,ps,hn,h=>by
  rw[fParams]at h
  split at h
  ·rename_i e;cases h;rw[e];exact((λ_ z=>nomatch z),U)
  ·split at h
   ·rename_i h1
    split at h
    ·rename_i h2;let((g,l'),g1,g2):=kg.mp h;cases g2;let(o1,o2):=vX (n:=n) (by simp only[my]at hn;lia) g1
     refine(λp hp=>?_,by rw[o2];rfl)
     obtain z|z:=fx.mp hp
     ·rw[z];exact(h1,h2)
     ·exact o1 p z
    ·cases h
   ·cases h
theorem Ph{f:L2.T}(h:oA l (Z f))(hl:l.length<=700):∃z:Fh×Bd,f=fT z/\lZ z/\z.2.cd<190/\l=fws z.1 z.2:=by
 cases h with
 |@ok h l4 b g K =>
  unfold fHd at g
  split at g
  ·rename_i h1
   split at g
   ·rename_i h2
    split at g
    ·rename_i ps l2 h3
     split at g
     ·rename_i h4
      split at g
      ·rename_i h5;cases g;let(g1,g2):=vX (YQ _) h3;let(ό,o1,o2,q):=NG K .nil .nil U;have q:=by simpa using q
       have ee:l=fws (hd l.tail,ps,hd l2) ό:=by
        unfold fws;rw[<- q,<- fk h5 (by decide),<- iF h4,<- g2,<- iF h2]
        exact fk h1 (by decide)
       have hw:=Bd.cw o1;have hlen:(fws (hd l.tail,ps,hd l2) ό).length=(pws ps).length+5+ό.ws.length:=by show(pws ps++("to":Str)::hd l2 :: ":" :: ό.ws).length+2=_;rw[qd];show _+(ό.ws.length+3)+2=_;lia
       rw[<- ee,qG]at hlen;refine(((hd l.tail,ps,hd l2),ό),by rw[o2];rfl,(h2,h4,by lia,g1,o1,by lia),by lia,ee)
      ·cases g
     ·cases g
    ·cases g
   ·cases g
  ·cases g
theorem wD:∀{l l2 ns:List Str},bL l=Z (ns,l2)->(∀m∈ns,ar m=O)/\l=ns++l2
 |[],_,_,h=>by cases h;exact((λ_ z=>nomatch z),U)
 |w::l,l2,ns,h=>by
  rw[bL]at h
  split at h
  ·cases h;exact((λ_ z=>nomatch z),U)
  ·split at h
   ·rename_i e;let((g,l'),h1,h2):=kg.mp h;cases h2;let(g1,g2):=wD h1;refine(λm hm=>?_,by rw[g2];rfl)
    obtain z|z:=fx.mp hm
    ·rw[z];exact e
    ·exact g1 m z
   ·cases h
def MkG(m:Mk1):Prop:=ar m.1=O/\∀f∈m.2,ar f=O
theorem HU{m:Mk1}(h:iA l=Z (m,l1)):MkG m/\l=mw m++l1:=by
 unfold iA at h
 split at h
 ·rename_i e;let((ns,l'),h1,h2):=kg.mp h;cases h2;let(g1,g2):=wD h1;refine((e,g1),?_);show l=hd l ::(ns++l');rw[<- g2];exact iF e
 ·cases h
theorem wc:∀{k:Nat}{l:List Str}{ms:List Mk1},bK k l=Z ms->ms ≠ []/\(∀m∈ms,MkG m)/\("|":Str)::l=ms.flatMap λm=>("|":Str)::mw m
 | 0,_,_,h=>by cases h
 |k+1,l,ms,h=>by
  rw[bK]at h
  split at h
  ·cases h
  ·rename_i m l1 e;let(g1,g2):=HU e
   split at h
   ·rename_i he;cases h;have he:l1=[]:=by cases l1;rfl;cases he
    rw[he]at g2;refine(xT _ _,λx hx=>by rw[aB.mp hx];exact g1,?_)
    rw[g2];simp
   ·split at h
    ·rename_i K;let(q,h1,h2):=kg.mp h;cases h2;let(o1,o2,g):=wc h1;refine(xT _ _,λx hx=>?_,?_)
     ·obtain z|z:=fx.mp hx
      ·rw[z];exact g1
      ·exact o2 x z
     ·rw[Y0,<- g,g2,<- fk K (by decide)];rfl
    ·cases h
theorem Ga{α β:Type}{f:α->List β}{x:α}:∀{xs:List α},x∈xs->(f x).length <=(xs.flatMap f).length
 |y::r,h=>by
  rw[Y0,qd];obtain z|z:=fx.mp h
  ·rw[z];lia
  ·have:=Ga (f:=f) z;lia
theorem Lx{k:Kd}(h:i5 l=Z (k,l1))(hl:l.length<=700):xR k/\l=kws k:=by
 unfold i5 at h
 split at h
 ·cases h
 ·rename_i r l2 h1;let(z,_,U):=cC h1
  split at h
  ·rename_i h2;let(ms,h3,h4):=kg.mp h;cases h4;let(o1,o2,q):=wc h3;have ee:=by
    show l=("kind":Str)::hd l.tail ::(ms.flatMap λm=>("|":Str)::mw m).tail
    rw[<- q];show l=("kind":Str)::hd l.tail::l.tail.tail;rw[<- iF h2];exact fk z (by decide)
   have hlen:=congrArg YH q;rw[my,xv,xv]at hlen;have hm:=Gf ms;refine((h2,by lia,o1,λm g=>((o2 m g).1,?_,(o2 m g).2)),ee)
   have:=Ga (f:=λm=>("|":Str)::mw m) g
   have:m.2.length+2 <=(ms.flatMap λm=>("|":Str)::mw m).length:=this
   lia
  ·cases h
theorem Gj(row:Str):Txt.join " " (Txt.split row " ")=row:=by
 rw[lT];exact StrLaws.join_split ..
theorem JX{fs:List L2.T}{rows:List Str}{o:L2.T ⊕ Nat}(h:eO n ks fs rows o):∀{r},o=.inl r->(∀row∈rows,(Txt.split row " ").length<=700)->∃(g:List Kd)(gs:List (Fh×Bd)),r=.t [tKs (ks++g),.t (fs++gs.map fT)]/\rows=g.map gM++gs.map iz/\(∀k∈g,xR k)/\(∀z∈gs,lZ z/\z.2.cd<190)/\(fs ≠ []->g=[]):=by
 induction h with
 |nil =>
  intro r e _;cases e;exact([],[],by simp,U,(λ_ z=>nomatch z),(λ_ z=>nomatch z),λ_=>rfl)
 |@kind n ks row rows k l o h1 h2 _ q =>
  intro r e hl;let(g,gs,Q,P,V,K,_):=q e λrow hr=>hl row (aJ _ hr)
  let(g1,g2):=Lx h2 (hl row di);refine(k::g,gs,by rw[Q];simp,?_,λx hx=>?_,K,λz=>absurd U z)
  ·rw[P,CH,vj g1.ne,<- g2,Gj];rfl
  ·obtain z|z:=fx.mp hx
   ·rw[z];exact g1
   ·exact V x z
 |uh=>intro r e;cases e
 |@fn n ks fs row rows f o h1 h2 _ q =>
  intro r e hl;let(g,gs,Q,P,V,K,e5):=q e λrow hr=>hl row (aJ _ hr)
  cases e5 (by simp)
  let(z,g1,g2,g3,g4):=Ph h2 (hl row di);refine([],z::gs,by rw[Q,g1];simp,?_,λ_ z=>(nomatch z),λx hx=>?_,λ_=>rfl)
  ·rw[P];show row::gs.map iz=Txt.join " " (fws z.1 z.2)::gs.map iz;rw[<- g4,Gj]
  ·obtain y|y:=fx.mp hx
   ·rw[y];exact(g2,g3)
   ·exact K x y
 |fnX=>intro r e;cases e
theorem Run.det{o o':Option (L2.T×List Str)}(h:Run s o)(h':Run s o'):o=o':=by
 induction h generalizing o' with
 |on e _ q =>
  cases h' with
  |on g r=>rw[e]at g;cases g;exact q r
  |fin g=>rw[e]at g;cases g
  |bad g=>rw[e]at g;cases g
 |fin e =>
  cases h' with
  |on g r=>rw[e]at g;cases g
  |fin g=>rw[e]at g;cases g;rfl
  |bad g=>rw[e]at g;cases g
 |bad e =>
  cases h' with
  |on g r=>rw[e]at g;cases g
  |fin g=>rw[e]at g;cases g
  |bad g=>rfl
theorem oA.det{l:List Str}{o o':Option L2.T}(h:oA l o)(h':oA l o'):o=o':=by
 cases h with
 |Ct e =>
  cases h' with
  |Ct _=>rfl
  |EL _ _=>rfl
  |EK _ _ _=>rfl
  |ok g=>rw[e]at g;cases g
 |EL e r =>
  cases h' with
  |Ct g=>rfl
  |EL g r'=>rfl
  |EK g r'=>rfl
  |ok g r'=>rw[e]at g;cases g;cases r.det r'
 |EK e r hl =>
  cases h' with
  |Ct g=>rfl
  |EL g r'=>rfl
  |EK g r'=>rfl
  |ok g r'=>rw[e]at g;cases g;cases r.det r';cases hl
 |ok e r =>
  cases h' with
  |Ct g=>rw[e]at g;cases g
  |EL g r'=>rw[e]at g;cases g;cases r.det r'
  |EK g r' hl=>rw[e]at g;cases g;cases r.det r';cases hl
  |ok g r'=>rw[e]at g;cases g;cases r.det r';rfl
theorem eO.det{n:Nat}{ks:List Kd}{fs:List L2.T}{rows:List Str}{o o':L2.T ⊕ Nat}(h:eO n ks fs rows o)(h':eO n ks fs rows o'):o=o':=by
 induction h generalizing o' with
 |nil=>cases h';rfl
 |kind z K _ P =>
  cases h' with
  |kind _ g r=>rw[K]at g;cases g;exact P r
  |uh _ g=>rw[K]at g;cases g
  |fn q _ _=>exact absurd (z,U) q
  |fnX q _=>exact absurd (z,U) q
 |uh z K =>
  cases h' with
  |kind _ g r=>rw[K]at g;cases g
  |uh _ g=>rfl
  |fn q _ _=>exact absurd (z,U) q
  |fnX q _=>exact absurd (z,U) q
 |fn z K _ P =>
  cases h' with
  |kind q _ _=>exact absurd (q,U) z
  |uh q _=>exact absurd (q,U) z
  |fn _ g r=>cases K.det g;exact P r
  |fnX _ g=>cases K.det g
 |fnX z K =>
  cases h' with
  |kind q _ _=>exact absurd (q,U) z
  |uh q _=>exact absurd (q,U) z
  |fn _ g r=>cases K.det g
  |fnX _ g=>rfl
inductive KQ(ts:List L2.T)(Q:L2.T->Prop):Prop
 |mk(row:_)(h1:ts=[.s row])(h2:row.length<=900000)(h3:∀b:Bool,Q (.b b))
theorem Qk{sep:Str}:∀{ws:List Str}{w:Str},w∈ws->w.length <=(Txt.join sep ws).length
 |[x],w,h=>by rw[aB.mp h];exact oa _
 |x::y::r,w,h=>by
  rw[gY,Str.length_append,Str.length_append];obtain z|z:=fx.mp h
  ·rw[z];lia
  ·have:=Qk (sep:=sep) z;lia
theorem sA{w:Str}(h:w∈Txt.split x y):w.length<=x.length:=by
 have:=Qk (sep:=y) h
 rw[lT,StrLaws.join_split]at this;exact this
theorem PY{bs:List Bool}{b:Bool}:∃bs':List Bool,bs.map L2.T.b++[L2.T.b b]=bs'.map L2.T.b:=(bs++[b],by rw[uj];rfl)
theorem HI(T:Txt K mg a):aV P w K mg base CX0 1 a.rg a.Ck [Ty] (spQ K KQ):=by
 refine T.CO.F.okQ x6 (λts Q h=>?_) (λ_ _ _ _ _ _ hr=>?_)
 ·let(_,U,_):=h;rfl
 ·have hu:=cj hr;refine(_,_,((ai (bN (bO gW dU (a8 _) (ZB (bT (qv 0) cY (cM ao))) (ZB aj))
 (ay (aN iM))
 aP)
 (ai (aG 1 x6.nd (gH (qv 0) (ZB aj)))
 (ai (bN (ya (ZB (dY T.gI (ae (qv 1) az))) ao)
 (ay (aN iM))
 aP)
 (ay (aN (gU (yB U U) Ft (by rfl) T.QY (by kernel_rfl) (ae (ZB (lh U (Kj U T.nq (by kernel_rfl) (ae (qv 1) az)) (N':=[Tu,"_law_part"]) (.own U (.own U .nil)) (j8 (g:=(Tg.tp [0,1])) (λ_ _ _ _ _=>((K3 (uN 0) (uN 1)),(cS FX (mF (g':=λi j=>.b (decide (j<i))) λ_ _ _ _=>.b _) (a8 _) (ZB (dY T.gI (ae (ZB (gH (qv 1) (ZB aj))) az))) (ZB (ag ao (ZB (Km ao (ZB (aU dI gP (by rfl) T.kL (by kernel_rfl) (ae (ZB (cS (gG hu U) dW (a8 _) (qv 0) ao)) az))))))))))))) az)))))))),λts Q h=>?_)
  let(row,U,hl,V):=h;have lr:row.length<=ot:=wh (aM (by(first|lia|omega)))
  refine(lr,U,a7 (λ_=>V _) (λ_=>?_))
  have sl:=gC row " | "
  refine(by decide,aM (by(first|lia|omega)),a7 (λ_=>V _) (λ_=>?_))
  have rl:∀part∈Txt.split row " | ",part.length<=900000:=λpart hp=>u4 (sA hp) hl
  generalize Txt.split row " | "=parts at *
  refine(by rw[kJ,gV];exact aM (by(first|lia|omega)),λi ys=>∃bs:List Bool,ys=bs.map .b,([],U),?_,?_)
  ·rintro i z ys hz ⟨bs,rfl⟩
   let(u,q,U):=rj hz;rw[tW]at q;let(part,WL,U):=kg.mp q;have pl:=rl part (Au WL);refine(_,U,by decide,aM (by(first|lia|omega)),U,?_)
   generalize decide ((L2.T.i (i:Int)).v=(L2.T.i 0).v)=c
   exact(.inl (by decide,by decide),PY)
  ·rintro ys ⟨bs,rfl⟩
   exact(bs,L2.lM _,V _)
theorem Wh{l:List J}(h:l.Nodup){x y:J}(i j:Nat)(hi:l[i]?=Z x)(g:l[j]?=Z y)(ne:i≠j):x≠y:=λz=>by
 subst z;let(h1,K):=kf.mp hi;let(h2,q):=kf.mp g;exact ne ((List.getElem_inj h).mp (K.trans q.symm))
theorem sx{ό C':J}(h1:C'≠C)(h2:C'≠ό):(B.ref C :: .ref ό::bmV).contains (.ref C')=false:=by
 have q:=beq_eq_false_iff_ne.mpr λz=>h1 (B.ref.inj z)
 have g:=beq_eq_false_iff_ne.mpr λz=>h2 (B.ref.inj z)
 rw[Ax,Ax,q,g];rfl
theorem Ry:(B.ref C::bm).contains (.ref C)=true:=by rw[Ax,beq_self_eq_true,ab4]
theorem Rx{ό:J}:(B.ref C :: .ref ό::bm).contains (.ref ό)=true:=by rw[Ax,Ax,beq_self_eq_true,ab4,Zt]
section
variable{K:BT}{fn:List Str}{C C':J}{bm:List B}{ini:Option J}{i:Nat}{qs:QS}{qr:QH}{ns:List Str}{us:List T}{D:dP}{q:Sq}
theorem Xe(c:cv K fn C bm ini)(h:(B.ref C::bm).contains (.ref C')=O)(k:qs (D.go i) (q.set i (.r (.xc C ns us)))):VC K fn C' i qs qr C ns us D q:=(bm,ini,c,by rw[if_pos h];exact k)
end
inductive HA(ts:List L2.T)(Q:L2.T->Prop):Prop
 |mk(text:Str)(n:Nat)(h1:ts=[.s text])(h2:text.length<=800000)(h3:eO 0 [] [] (rowsOf text) (.inr n))(h4:Q (.t [.b O,.b O,.b ϊ,.i n]))
theorem D4(T:Txt K mg a):aV P w K mg base CX0 13 a.nW a.yp [Tk] (spQ K HA):=by
 refine T.yK.F.okQ ij (λts Q h=>?_) (λ_ _ _ _ _ _ hr=>?_)
 ·let(_,_,U,_):=h;rfl
 ·have z:=cj hr;refine(_,_,((ai (aG 1 ij.nd (b6 (dZ (by rfl))))
 (ai (RQ (λ_ _=>(aK (Kb (XN (F5 T) hr T.AE (ae (qv 0) az)))))
 (VA (i:=2) U ij.nd U U U T.iy T.cV (λ_=>(ai (aG 3 ij.nd (VD (ZB (NY U U T.hJ (kC T.AI U T.zL (kC T.GZ U T.D9 (kC T.G4 U T.Ea (kC T.Jj U T.HM (kC T.G5 U T.Eb (kC T.Nf U T.Lj OD)))))) (qv 2))) (pf (gU (yA U) Fm (by rfl) T.hJ (by kernel_rfl) (ae (ZB (FE (fn:=fns) U zO Ez (qv 2))) (ae (ZB (P1 (n:="bool") U T.Uv (by kernel_rfl))) az))))))
 (ay (aG 1 ij.nd (b6 (af (RY U T.pX U T.hJ U T.oF (qv 2)) (af (RZ (fn:=fns) (n:="ValueError") U (by decide +kernel) U T.hJ U T.Ah (by kernel_rfl) (qv 2)) (af (XL (qv 3)) (af (FE (fn:=fns) U zO Ez (qv 2)) aF)))))))))
 (RW U U T.oF T.pX (λ_=>(ay (aG 1 ij.nd (b6 (dZ (by rfl))))))
 Kk)))
 (ay (aN (XL (qv 1))))))),λts Q h=>?_)
  let(text,n,U,hl,hn,q):=h;refine(text,U,hl,λr hr=>?_,λm hm=>?_)
  ·cases hr.det hn
  cases hm.det hn;have ne:∀{x y:J}(i j:Nat),[a.aH,a.aX,a.bC,a.cE,a.ck,a.dJ,a.cm,a.fQ][i]?=Z x->[a.aH,a.aX,a.bC,a.cE,a.ck,a.dJ,a.cm,a.fQ][j]?=Z y->i≠j->x≠y:=λi j=>Wh T.nd i j
  have no:[a.bC,a.cE,a.ck,a.dJ,a.cm,a.fQ].any (λx=>(B.ref a.aX :: .ref a.aH::bmV).contains (.ref x))=false:=by
   rw[List.any_eq_false];intro y g;rw[Bool.not_eq_true];simp only[fx,UR,or_false]at g;obtain rfl|rfl|rfl|rfl|rfl|rfl:=g
   ·exact sx (ne 2 1 U U (by decide)) (ne 2 0 U U (by decide))
   ·exact sx (ne 3 1 U U (by decide)) (ne 3 0 U U (by decide))
   ·exact sx (ne 4 1 U U (by decide)) (ne 4 0 U U (by decide))
   ·exact sx (ne 5 1 U U (by decide)) (ne 5 0 U U (by decide))
   ·exact sx (ne 6 1 U U (by decide)) (ne 6 0 U U (by decide))
   ·exact sx (ne 7 1 U U (by decide)) (ne 7 0 U U (by decide))
  refine Xe T.cV Ry ?_;refine(_,_,T.cV,?_);show _;rw[no];have ty:(B.ref a.aX :: .ref a.aH::bmV).contains (.type "ValueError")=true:=by
   rw[Ax,Ax];rfl
  refine(_,_,_,T.cV,U,by rfl,?_)
  refine(_,_,T.cV,?_);show _;rw[Rx];refine(_,_,T.cV,?_);show _;rw[ty];exact(U,_,_,_,T.cV,U,U,q)
structure I0(text:Str):Prop where
 l:text.length<=30000
 n:(rowsOf text).length<=100
 w:∀row∈rowsOf text,(Txt.split row " ").length<=700
theorem O4(text:Str):Txt.join "\n" (rowsOf text)=text:=by
 unfold rowsOf;by_cases h:text=""
 ·rw[h];decide +kernel
 ·rw[if_neg h,lT];exact StrLaws.join_split ..
theorem Ht{row:Str}(h:row∈rowsOf text):row.length<=text.length:=by
 unfold rowsOf at h
 split at h
 ·cases h
 ·exact sA h
theorem I0.prog(h:I0 text){r:L2.T}(hr:eO 0 [] [] (rowsOf text) (.inl r)):∃ks fs,r=pT ks fs/\ET ks fs/\(∀z∈fs,z.2.cd<190)/\ks.map gM++fs.map iz=rowsOf text:=by
 let(ks,fs,Q,K,P,q,_):=JX hr U h.w;have hn:=h.n
 have:=congrArg YH K
 rw[qd,gV,gV]at this;exact(ks,fs,Q,(P,λz g=>(q z g).1,by lia,by lia),λz g=>(q z g).2,K.symm)
theorem I0.sum(h:I0 text):((rowsOf text).map (·.length)).sum+(rowsOf text).length*(Str.ofString "\n").length<=16777216:=by
 have h1:=oW λw hw=>u4 (Ht hw) h.l
 have h2:=h.n;rw[show(Str.ofString "\n").length=1 from by decide +kernel]
 lia
inductive Od(ts:List L2.T)(Q:L2.T->Prop):Prop
 |mk(text:Str)(r:L2.T)(h1:ts=[.s text])(h2:text.length<=800000)(h3:eO 0 [] [] (rowsOf text) (.inl r))(h4:Q r)
theorem BA(T:Txt K mg a):aV P w K mg base CX0 12 a.wF a.EE ["text"] (spQ K Od):=by
 refine(F5 T).calm.imp λvs H Q E h=>?_
 let(dl,ts,Fp,Qp,D,r,h,fin):=h;refine(dl,ts,Fp,Qp,D,r,?_,fin);let(text,r,U,hl,hr,q):=h;exact(_,U,hl,λr' g _=>by cases hr.det g;exact q,λn hn=>by cases hr.det hn)
inductive KN(ts:List L2.T)(Q:L2.T->Prop):Prop
 |mk(text:_)(h1:ts=[.s text])(h2:I0 text)(h3:Q (.b O))
theorem Le(T:Txt K mg a):aV P w K mg base CX0 193 a.vo a.Gy [Tk] (spQ K KN):=by
 refine T.vt.F.okQ qf (λts Q h=>?_) (λ_ _ _ _ _ _ hr=>?_)
 ·let(_,U,_):=h;rfl
 ·have hu:=cj hr;refine(_,_,((ai (aG 1 qf.nd (aS (vZ T) hr T.oS (ae (qv 0) az)))
 (ai (aG 2 qf.nd (bT (ZB (gH (qv 0) (ZB aj))) cY (RT (qv 1))))
 (ai (bN (br (ZB (gU (yB U U) Ft (by rfl) T.QY (by kernel_rfl) (ae (ZB (lh U (NV (qv 2)) (N':=[Ty]) (.own U .nil) (j8 (g:=(Tg.nm 0)) (λ_ _ _ _ _=>((uN 0),(aS (HI T) hr T.CO (ae (qv 0) az))))))) az))))
 (ay (aN iM))
 aP)
 (ai (bN (bO FW A0 (a8 _) (qv 1) (ZB vN))
 (ai (aG 3 qf.nd (aS (D4 T) hr T.yK (ae (qv 0) az)))
 (ay (aN (sL (ZB (cS (gG hu U) dW (a8 _) (qv 3) (ZB (b6 (af iM (af iM (af iM (af (XL (qv 1)) aF)))))))) (pf (gU (yA U) Fm (by rfl) T.hJ (by kernel_rfl) (ae (bQ (qv 3) ao) (ae (ZB (P1 (n:="int") U T.kL (by kernel_rfl))) az))))))))
 aP)
 (ay (aN (cS (gG hu U) dW (a8 _) (ZB (fM (ZB aj) (ZB (aS (FZ T) hr T.AB (ae (ZB (aS (BA T) hr T.AE (ae (qv 0) az))) az))))) (qv 0))))))))),λts Q h=>?_)
  let(text,U,q,hq):=h;have hl:=q.l;have sl:=gC text "\n";have rl:∀row∈Txt.split text "\n",row.length<=900000:=λrow hr=>u4 (sA hr) (by lia)
  have mem:∀{lo hi:Option Int}{i:Nat}{z:L2.T},(dq ((Txt.split text "\n").map L2.T.s) lo hi)[i]?=Z z->∃row:Str,z=.s row/\row.length<=900000:=λ{lo hi i z} h=>by
   rw[rH,tW]at h;let(row,zW,U):=kg.mp h;exact(row,U,rl row (UT (YZ (Au zW))))
  have len:∀{lo hi:Option Int},(dq ((Txt.split text "\n").map L2.T.s) lo hi).length<ot:=λ{lo hi}=>by
   refine aM ?_;unfold dq;rw[xU,xH,gV]
   lia
  refine(text,U,by lia,λr hr=>?_,λn hn=>?_)
  all_goals
   refine(by decide,aM (by lia),aW _,len,λi ys=>∃bs:List Bool,ys=bs.map .b,([],U),?_,?_)
   ·rintro i z ys hz ⟨bs,rfl⟩
    let(row,U,V):=mem hz;exact(_,U,row,U,V,λb=>PY)
   rintro ys ⟨bs,rfl⟩
   refine(bs,L2.lM _,a7 (λ_=>hq) (λ_=>?_))
  ·let(ks,fs,U,hp,ah,e):=q.prog hr;refine(text,_,U,by lia,hr,ks,fs,U,hp,ah,?_)
   rw[e];refine(_,cW _,q.sum,U,?_);rw[O4,Tf];exact hq
  ·refine(text,n,U,by lia,hn,U,U,?_)
   have eq:eqF [L2.T.b O,.b O,.b ϊ,.i n] [L2.T.b O,.b O,.b ϊ,.i n]=true:=L5 λx hx=>by
    simp only[fx,UR,or_false]at hx;obtain rfl|rfl|rfl|rfl:=hx
    ·rfl
    ·rfl
    ·rfl
    ·exact beq_self_eq_true (n:Int)
   show _;rw[eq];exact(_,U,by rfl,hq)
def mw2(x:Str):Nat:=x.cps.toList.countP (· == 32)+1
def Pr(x:Str):Prop:=∀c∈x.cps.toList,32<=c/\c<=126
theorem Pr.app(h:Pr x)(g:Pr y):Pr (x++y):=λc q=>by
 rw[Str.cps_append,WS]at q;exact(mu.mp q).elim (h c) (g c)
theorem zM(x y:Str):mw2 (x++y)+1=mw2 x+mw2 y:=by
 unfold mw2;rw[Str.cps_append,WS,List.countP_append]
 lia
theorem S9:mw2 (Str.ofString " ")=2:=by decide +kernel
theorem m5:∀{ws:List Str},ws ≠ []->mw2 (Txt.join " " ws)=(ws.map mw2).sum
 |[],h=>absurd U h
 |[x],_=>by rfl
 |x::y::r,_=>by
  have h1:=zM (x++Str.ofString " ") (Txt.join " " (y::r));have h2:=zM x (Str.ofString " ");have h3:=S9;have h4:=m5 (ws:=y::r) (xT _ _);rw[gY,CH,U5]
  lia
theorem qW:∀{ws:List Str},(Txt.join " " ws).length <=(ws.map (·.length)).sum+ws.length:=λ{ws}=>by
 have h3:=pK " " ws;rw[show(Str.ofString " ").length=1 from by decide +kernel]at h3
 lia
theorem qH{sep:Str}(hs:Pr sep):∀{ws:List Str},(∀w∈ws,Pr w)->Pr (Txt.join sep ws)
 |[],_=>λc g=>by cases g
 |[x],h=>by exact h x di
 |x::y::r,h=>by
  rw[gY];exact((h x di).app hs).app (qH hs λw hw=>h w (aJ _ hw))
theorem FN:Pr (Str.ofString " "):=by unfold Pr;decide +kernel
theorem Hi(x:Str):(Txt.split x " ").length<=mw2 x:=by
 have e:Txt.join " " (Txt.split x " ")=x:=by rw[lT];exact StrLaws.join_split ..
 have h:=m5 (ws:=Txt.split x " ") jk;rw[e]at h;rw[h];clear h e
 induction Txt.split x " " with
 |nil=>exact oa _
 |cons w r g=>rw[CH,U5,my];unfold mw2 at g ⊢;lia
structure pU(k:Nat)(L:List Str):Prop where
 n:L.length<=8+k
 s:(L.map mw2).sum<=640+15*k
 l:(L.map (·.length)).sum<=6000+200*k
 c:∀x∈L,Pr x
theorem y7{f:Str->Nat}{a b:Nat}(h:a<=b):((L.take a).map f).sum+((L.drop b).map f).sum <=(L.map f).sum:=by
 have e:=congrArg (λl=>(l.map f).sum) (YW b L)
 simp only[uj,Fq]at e;have q:L.take a=(L.take b).take a:=by rw[List.take_take,Zn h]
 have g:=congrArg (λl=>(l.map f).sum) (YW a (L.take b))
 simp only[uj,Fq]at g;rw[<- q]at g
 lia
theorem AU{f:Str->Nat}{a:Nat}(h:a<L.length):((L.take a).map f).sum+f L[a]+((L.drop (a+1)).map f).sum=(L.map f).sum:=by
 have e:=congrArg (λl=>(l.map f).sum) (YW a L)
 simp only[uj,Fq]at e;rw[UQ h,CH,U5]at e
 lia
theorem pU.put{k:Nat}{ϋ:List Str}{a b:Nat}(h:pU k L)(q:a<=b)(hn:(L.take a).length+ϋ.length+(L.drop b).length<=8+(k+1))(hs:((L.take a).map mw2).sum+(ϋ.map mw2).sum+((L.drop b).map mw2).sum<=640+15*(k+1))(hl:((L.take a).map (·.length)).sum+(ϋ.map (·.length)).sum+((L.drop b).map (·.length)).sum<=6000+200*(k+1))(g:∀y∈ϋ,Pr y):pU (k+1) (L.take a++ϋ++L.drop b):=by
 refine(?_,?_,?_,λx hx=>?_)
 ·rw[qd,qd];exact hn
 ·rw[uj,Fq,uj,Fq];exact hs
 ·rw[uj,Fq,uj,Fq];exact hl
 ·obtain z|z:=mu.mp hx
  ·obtain z|z:=mu.mp z
   ·exact h.c x (YZ z)
   ·exact g x z
  ·exact h.c x (UT z)
theorem pU.XY{k:Nat}{a:Nat}(h:pU k L)(h1:mw2 y<=15)(h2:y.length<=200)(q:Pr y):pU (k+1) (L.take a++[y]++L.drop a):=by
 have P:=y7 (f:=mw2) (L:=L) (oa a);have K:=y7 (f:=(·.length)) (L:=L) (oa a)
 have:=h.n;have:=h.s;have:=h.l
 refine h.put (oa _) ?_ ?_ ?_ λz g=>by rw[aB.mp g];exact q
 ·rw[xU,xH];show _+1+_<=_;lia
 ·show _+(mw2 y+0)+_<=_;lia
 ·show _+(y.length+0)+_<=_;lia
theorem OV{xs:List Nat}:∀{x:Nat},x∈xs->x<=xs.sum:=by
 induction xs with
 |nil=>intro x h;cases h
 |cons y r g =>
  intro x h;rw[U5];obtain z|z:=fx.mp h
  ·lia
  ·have:=g z;lia
theorem FC{k:Nat}(h:pU k L)(P:k<=3):I0 (Txt.join "\n" L)/\((L.map (·.length)).sum+L.length*(Str.ofString "\n").length<=16777216):=by
 have hn:=h.n;have hs:=h.s;have hl:=h.l;have K:(Str.ofString "\n").length=1:=by decide +kernel
 have h1:=pK "\n" L;rw[K]at h1 ⊢;refine((by lia,?_,λrow hr=>?_),by lia)
 ·unfold rowsOf
  split
  ·exact Je _
  ·by_cases q:L=[]
   ·rename_i g;rw[q]at g;exact absurd (by decide +kernel) g
   ·rw[Li,kP q λr hr z=>absurd (h.c r hr 10 z).1 (by decide)];lia
 ·have hm:row∈L:=by
   unfold rowsOf at hr
   split at hr
   ·cases hr
   ·by_cases q:L=[]
    ·rename_i g;rw[q]at g;exact absurd (by decide +kernel) g
    ·rw[Li,kP q λr hr z=>absurd (h.c r hr 10 z).1 (by decide)]at hr;exact hr
  have h2:=Hi row;have h3:mw2 row <=(L.map mw2).sum:=OV (List.mem_map_of_mem hm)
  lia
def Pz(n k:Nat)(x:Str):Prop:=x.length<=n/\mw2 x<=k+1/\Pr x
theorem Pz.app{n k m j:Nat}{x y:Str}(h:Pz n k x)(g:Pz m j y):Pz (n+m) (k+j) (x++y):=by
 have:=zM x y
 have:=h.2.1;have:=g.2.1
 exact(by rw[Str.length_append];exact Nat.add_le_add h.1 g.1,by lia,h.2.2.app g.2.2)
theorem F7(h:ar x=O):Pz 8 0 x:=by
 have q:=d7 h;refine((bw h).2,?_,λc g=>(by have:=(q c g).1;lia,(q c g).2))
 unfold mw2;rw[aa9.mpr λc g z=>by have:=(q c g).1;simp at z;lia]
 exact oa _
def TxQ(q:Sq)(qe:QE)(n k:Nat):Prop:=n<=300->∃s,Pz n k s/\∀Q:L2.T->Prop,Q (.s s)->qe q Q
theorem TxQ.c{q:Sq}{s:Str}(h:(s.cps.toList.all λc=>decide (32<=c)&&decide (c<=126))=O):TxQ q (qC (.s s)) s.length (s.cps.toList.countP (· == 32)):=λ_=>(s,(oa _,oa _,λc g=>by
 have:=Av.mp h c g
 rw[ti,decide_eq_true_eq,decide_eq_true_eq]at this;exact this),λ_ h=>h)
theorem TxQ.r{k:Nat}(h:q[i]?=Z (.r (.s x)))(hp:Pz n k x):TxQ q (iT i) n k:=λ_=>(x,hp,λQ g=>by unfold iT;rw[h];exact g)
theorem TxQ.o{k:Nat}(h:q[i]?=Z (.o (.s x)))(hp:Pz n k x):TxQ q (iT i) n k:=λ_=>(x,hp,λQ g=>by unfold iT;rw[h];exact g)
theorem TxQ.im{k:Nat}(h:TxQ q qe n k):TxQ q (qIm qe) n k:=λhn=>by
 let(s,h1,h2):=h hn;exact(s,h1,λQ g=>h2 _ (U,g))
theorem TxQ.add{k m:Nat}{qa qb:QE}(h:TxQ q qa n k)(g:TxQ q qb m j):TxQ q (qOp Bf qa qb) (n+m) (k+j):=λhn=>by
 let(s,h1,h2):=h (by lia)
 let(t,g1,g2):=g (by lia)
 refine(s++t,h1.app g1,λQ z=>h2 _ (g2 _ (wh (aM ?_),z)))
 have:=h1.1
 have:=g1.1
 lia
def TxL(q:Sq)(ql:QA)(m:Nat):Prop:=∃ss:List Str,ss.length=m/\(∀s∈ss,Pz 200 14 s)/\∀Q:List L2.T->Prop,Q (ss.map .s)->ql q Q
theorem TxL.nil:TxL q N3 0:=([],U,(λ_ z=>nomatch z),λ_ h=>h)
theorem TxL.cons{q:Sq}{n k m:Nat}{qe:QE}{ql:QA}(h:TxQ q qe n k)(hd:(decide (n<=200)&&decide (k<=14))=O)(hl:TxL q ql m):TxL q (FG qe ql) (m+1):=by
 rw[ti,decide_eq_true_eq,decide_eq_true_eq]at hd;let(s,h1,h2):=h (by lia)
 let(ss,g1,g2,g3):=hl;refine(s::ss,by rw[my,g1],λz g=>?_,λQ K=>h2 _ (g3 _ K))
 obtain y|y:=fx.mp g
 ·rw[y];exact(u4 h1.1 hd.1,u4 h1.2.1 (Nat.succ_le_succ hd.2),h1.2.2)
 ·exact g2 z y
def BL(m:Nat)(L:List Str):Prop:=L.length=m/\∀s∈L,Pz 200 14 s
theorem RA{m:Nat}(h:TxL q ql m)(k:∀L:List Str,BL m L->rest D (q.set 3 (.o (.l (L.map .s))))):N2 (DK 3 (R4 ql)) rest D q:=by
 let(ss,h1,h2,h3):=h;exact h3 _ (k ss (h1,h2))
theorem mE{m:Nat}(h3:q[3]?=Z (.o (.l (L.map .s))))(g:BL n L)(h:TxL q ql m)(hm:decide (n+m<=100)=O)(k:∀L:List Str,BL (n+m) L->rest D (q.set 3 (.o (.l (L.map .s))))):N2 (DK 3 (qOp Bf (iT 3) (R4 ql))) rest D q:=by
 let(ss,h1,h2,h4):=h;have hm:=of_decide_eq_true hm;have k:=k (L++ss) (by rw[qd,g.1,h1],λs hs=>(mu.mp hs).elim (g.2 s) (h2 s))
 rw[uj]at k;show iT 3 q _;unfold iT;rw[h3];refine h4 _ (wh (aM ?_),aW _,aW _,k);rw[gV,gV,g.1,h1]
 lia
theorem Vd{k:Nat}(h:TxQ q qe n k)(hn:decide (n<=300)=O)(k:∀s:Str,Pz n k s->rest D (q.set 4 (.o (.s s)))):N2 (DK 4 qe) rest D q:=by
 let(s,h1,h2):=h (of_decide_eq_true hn);exact h2 _ (k s h1)
inductive KR(ts:List L2.T)(Q:L2.T->Prop):Prop
 |mk(x y:Str)(h1:ts=[.gj,.s x,.s y])(h2:ar x=O)(h3:ar y=O)(h4:∀z,Pz 200 14 z->Q (.s z))
theorem MC{ws:List Str}{r:Int}(h0:0<=r)(h1:r<ws.length):∃w∈ws,atI (ws.map L2.T.s) r=Z (.s w):=by
 obtain⟨k,rfl⟩:∃k:Nat,r=k:=(r.toNat,by lia)
 have g:k<ws.length:=by lia
 exact(ws[k],Zy g,jN (by rw[tW,rY g];rfl))
theorem D6(T:Txt K mg a):aV P w K mg base CX0 2 a.nZ a.yr [WF,"_law_a","_law_b"] (spQ K KR):=by
 refine T.yM.F.okQ cG (λts Q h=>?_) (λ_ _ _ _ _ _ hr=>?_)
 ·let(_,_,U,_):=h;rfl
 ·have hu:=cj hr;refine(_,_,((ai (aG 3 cG.nd (aR (af aj (af aj (af (XL (qv 1)) (af aj (af (ag (ZB aj) (qv 1)) (af (ag (ZB (ag (ZB (ag (ZB (ag (ZB aj) (qv 1))) (ZB aj))) (qv 2))) (ZB aj)) (af (ag (ZB (ag (ZB (ag (ZB aj) (qv 1))) (ZB aj))) (qv 2)) (af aj (af (ag (ZB aj) (qv 1)) aF)))))))))))
 (ai (aG 3 cG.nd (ag (qv 3) (ZB (aR (af (ag (ZB (ag (ZB (ag (ZB aj) (qv 1))) (ZB aj))) (qv 2)) (af (ag (ZB (ag (ZB (ag (ZB (ag (ZB aj) (qv 1))) (ZB aj))) (qv 2))) (ZB aj)) (af (ag (ZB (ag (ZB (ag (ZB (ag (ZB aj) (qv 1))) (ZB aj))) (qv 2))) (ZB aj)) aF)))))))
 (ai (aG 3 cG.nd (ag (qv 3) (ZB (aR (af (ag (ZB (ag (ZB (ag (ZB (ag (ZB (ag (ZB (ag (ZB (ag (ZB aj) (qv 1))) (ZB aj))) (qv 2))) (ZB aj))) (qv 2))) (ZB aj))) (qv 2)) (af (ag (ZB aj) (qv 1)) (af aj (af (ag (ZB aj) (qv 1)) aF))))))))
 (ai (aG 3 cG.nd (ag (qv 3) (ZB (aR (af (ag (ZB (ag (ZB (ag (ZB aj) (qv 1))) (ZB aj))) (qv 2)) (af (ag (ZB (ag (ZB (ag (ZB (ag (ZB (ag (ZB (ag (ZB aj) (qv 1))) (ZB aj))) (qv 2))) (ZB aj))) (qv 1))) (ZB aj)) (af (ag (ZB aj) (qv 1)) aF)))))))
 (ai (aG 4 cG.nd (ag (ZB (ag (ZB (ag (ZB (ag (ZB aj) (qv 1))) (ZB aj))) (qv 2))) (ZB aj)))
 (ai (aG 3 cG.nd (ag (qv 3) (ZB (aR (af (ag (ZB (ag (ZB (ag (qv 4) (ZB aj))) (qv 1))) (ZB aj)) (af (ag (ZB (ag (ZB (ag (ZB (ag (ZB aj) (qv 1))) (ZB aj))) (qv 2))) (ZB aj)) (af (ag (ZB (ag (ZB (ag (ZB aj) (qv 1))) (ZB aj))) (qv 2)) aF)))))))
 (ai (aG 3 cG.nd (ag (qv 3) (ZB (aR (af (ag (ZB (ag (ZB (ag (qv 4) (ZB aj))) (qv 1))) (ZB aj)) (af (ag (ZB (ag (ZB (ag (ZB (ag (ZB (ag (qv 4) (ZB aj))) (qv 1))) (ZB aj))) (qv 2))) (ZB aj)) aF))))))
 (ai (aG 3 cG.nd (ag (qv 3) (ZB (aR (af (ag (ZB (ag (ZB (ag (ZB (ag (ZB (ag (ZB (ag (qv 4) (ZB aj))) (qv 1))) (ZB aj))) (qv 2))) (ZB aj))) (qv 1)) aF)))))
 (ai (aG 3 cG.nd (ag (qv 3) (ZB (aR (af (ag (ZB (ag (ZB (ag (ZB (ag (ZB (ag (ZB (ag (ZB (ag (qv 4) (ZB aj))) (qv 1))) (ZB aj))) (qv 2))) (ZB aj))) (qv 1))) (ZB aj)) aF)))))
 (ai (aG 3 cG.nd (ag (qv 3) (ZB (aR (af (ag (ZB (ag (ZB (ag (ZB aj) (qv 1))) (ZB aj))) (qv 2)) (af (ag (ZB (ag (ZB (ag (ZB (ag (ZB (ag (ZB (ag (ZB (ag (ZB aj) (qv 1))) (ZB aj))) (qv 2))) (ZB aj))) (qv 1))) (ZB aj))) (qv 1)) (af (ag (ZB (ag (qv 4) (ZB aj))) (qv 1)) aF)))))))
 (ay (aN (XL (bQ (qv 3) (ZB (aS (kc (iE T)) hr T.bt (ae (qv 0) (ae (ZB (dY T.gI (ae (qv 3) az))) az))))))))))))))))))),λts Q h=>?_)
  let(x,y,U,hx,hy,hq):=h;have V:=F7 hx;have py:=F7 hy;refine RA (q:=[.r .gj,.r (.s x),.r (.s y),.no,.no]) (m:=9) ?_ λL g=>?_
  ·repeat (first|exact TxL.nil|apply TxL.cons|exact .r U V|exact .r U py|apply TxQ.add|apply TxQ.im|exact .c (by decide +kernel)|decide +kernel)
  refine mE (q:=[.r .gj,.r (.s x),.r (.s y),.o (.l (L.map .s)),.no]) (m:=3) U g ?_ (by decide) λL g=>?_
  ·repeat (first|exact TxL.nil|apply TxL.cons|exact .r U V|exact .r U py|apply TxQ.add|apply TxQ.im|exact .c (by decide +kernel)|decide +kernel)
  refine mE (q:=[.r .gj,.r (.s x),.r (.s y),.o (.l (L.map .s)),.no]) (m:=4) U g ?_ (by decide) λL g=>?_
  ·repeat (first|exact TxL.nil|apply TxL.cons|exact .r U V|exact .r U py|apply TxQ.add|apply TxQ.im|exact .c (by decide +kernel)|decide +kernel)
  refine mE (q:=[.r .gj,.r (.s x),.r (.s y),.o (.l (L.map .s)),.no]) (m:=3) U g ?_ (by decide) λL g=>?_
  ·repeat (first|exact TxL.nil|apply TxL.cons|exact .r U V|exact .r U py|apply TxQ.add|apply TxQ.im|exact .c (by decide +kernel)|decide +kernel)
  refine Vd (q:=[.r .gj,.r (.s x),.r (.s y),.o (.l (L.map .s)),.no]) (.add (.add (.add (.add (.c (by decide +kernel)) (.r U V)) (.c (by decide +kernel))) (.r U py)) (.c (by decide +kernel))) (by decide +kernel) λhd ph=>?_
  refine mE (q:=[.r .gj,.r (.s x),.r (.s y),.o (.l (L.map .s)),.o (.s hd)]) (m:=3) U g ?_ (by decide) λL g=>?_
  ·repeat (first|exact TxL.nil|apply TxL.cons|exact .r U V|exact .r U py|apply TxQ.add|apply TxQ.im|exact .c (by decide +kernel)|decide +kernel|exact .o U ph)
  refine mE (q:=[.r .gj,.r (.s x),.r (.s y),.o (.l (L.map .s)),.o (.s hd)]) (m:=2) U g ?_ (by decide) λL g=>?_
  ·repeat (first|exact TxL.nil|apply TxL.cons|exact .r U V|exact .r U py|apply TxQ.add|apply TxQ.im|exact .c (by decide +kernel)|decide +kernel|exact .o U ph)
  refine mE (q:=[.r .gj,.r (.s x),.r (.s y),.o (.l (L.map .s)),.o (.s hd)]) (m:=1) U g ?_ (by decide) λL g=>?_
  ·repeat (first|exact TxL.nil|apply TxL.cons|exact .r U V|exact .r U py|apply TxQ.add|apply TxQ.im|exact .c (by decide +kernel)|decide +kernel|exact .o U ph)
  refine mE (q:=[.r .gj,.r (.s x),.r (.s y),.o (.l (L.map .s)),.o (.s hd)]) (m:=1) U g ?_ (by decide) λL g=>?_
  ·repeat (first|exact TxL.nil|apply TxL.cons|exact .r U V|exact .r U py|apply TxQ.add|apply TxQ.im|exact .c (by decide +kernel)|decide +kernel|exact .o U ph)
  refine mE (q:=[.r .gj,.r (.s x),.r (.s y),.o (.l (L.map .s)),.o (.s hd)]) (m:=3) U g ?_ (by decide) λL g=>?_
  ·repeat (first|exact TxL.nil|apply TxL.cons|exact .r U V|exact .r U py|apply TxQ.add|apply TxQ.im|exact .c (by decide +kernel)|decide +kernel|exact .o U ph)
  have hl:=g.1;have ll:(L.map L2.T.s).length=29:=by rw[gV];exact hl
  refine(by rw[ll];decide,by rw[ll];decide,λr r0 r1=>?_)
  rw[ll]at r1;let(z,hz,e):=MC (ws:=L) r0 (by rw[hl];exact r1)
  exact(_,e,U,hq z (g.2 z hz))
theorem Mr{α:Type}{xs:List α}:dq xs Y (Z (j:Int))=xs.take j:=by
 unfold dq;rw[HT.vd,HT.A5,Nat.sub_zero,List.drop_zero,aa1]
 lia
theorem Mt{α:Type}{xs:List α}:dq xs (Z (j:Int)) Y=xs.drop j:=by
 unfold dq;rw[HT.vd,HT.A5,List.take_of_length_le (by rw[xH];lia)]
 by_cases h:j<=xs.length
 ·rw[Zn h]
 ·rw[ZS (by lia),MJ (oa _),MJ (by lia)]
theorem tk{ws:List Str}{p:Int}(h:0<=p):dq (ws.map L2.T.s) Y (Z p)=(ws.take p.toNat).map .s:=by
 obtain⟨k,rfl⟩:∃k:Nat,p=k:=(p.toNat,by lia)
 rw[rH,Mr];rfl
theorem dr{ws:List Str}{p:Int}(h:0<=p):dq (ws.map L2.T.s) (Z p) Y=(ws.drop p.toNat).map .s:=by
 obtain⟨k,rfl⟩:∃k:Nat,p=k:=(p.toNat,by(first|lia|omega))
 rw[rH,Mt];rfl
theorem l3{ws:List Str}{a b:Int}(ha:0<=a)(g:0<=b)(hl:ws.length<=640):
  (dq (ws.map L2.T.s) Y (Z a)).length + [L2.T.s y].length<=ot/\T.ims (dq (ws.map L2.T.s) Y (Z a))=O/\(dq (ws.map L2.T.s) Y (Z a)++[L2.T.s y]).length+(dq (ws.map L2.T.s) (Z b) Y).length<=ot/\T.ims (dq (ws.map L2.T.s) Y (Z a)++[L2.T.s y])=O/\T.ims (dq (ws.map L2.T.s) (Z b) Y)=O/\dq (ws.map L2.T.s) Y (Z a)++[L2.T.s y]++dq (ws.map L2.T.s) (Z b) Y=(ws.take a.toNat++[y]++ws.drop b.toNat).map .s:=by
 rw[tk ha,dr g];have e:(ws.take a.toNat).map L2.T.s++[.s y]=(ws.take a.toNat++[y]).map .s:=by rw[uj];rfl
 rw[e,<- uj];simp only[gV,qd,xU,xH];refine(wh (aM (by show _+1<=_;lia)),aW _,wh (aM (by show _+1+_<=_;(first|lia|omega))),aW _,aW _,trivial)
theorem LA{p:Int}(h0:0<=p)(h1:p<n):ixN n p=Z p.toNat:=by unfold ixN;rw[if_pos h0,if_pos h1]
theorem lY{ϋ:List Str}{a b:Int}(ha:0<=a)(g:0<=b)(hl:L.length<=640)(q:ϋ.length<=640):
  (dq (L.map L2.T.s) Y (Z a)).length+(ϋ.map L2.T.s).length<=ot/\T.ims (dq (L.map L2.T.s) Y (Z a))=O/\(dq (L.map L2.T.s) Y (Z a)++ϋ.map L2.T.s).length+(dq (L.map L2.T.s) (Z b) Y).length<=ot/\T.ims (dq (L.map L2.T.s) Y (Z a)++ϋ.map L2.T.s)=O/\T.ims (dq (L.map L2.T.s) (Z b) Y)=O/\dq (L.map L2.T.s) Y (Z a)++ϋ.map L2.T.s++dq (L.map L2.T.s) (Z b) Y=(L.take a.toNat++ϋ++L.drop b.toNat).map .s:=by
 rw[tk ha,dr g,<- uj,<- uj];simp only[gV,qd,xU,xH];refine(wh (aM (by lia)),aW _,wh (aM (by(first|lia|omega))),aW _,aW _,trivial)
theorem Nk{f:Str->Nat}{a b:Nat}:((L.take a).map f).sum+(((L.drop a).take b).map f).sum+((L.drop (a+b)).map f).sum=(L.map f).sum:=by
 have e:=congrArg (λl=>(l.map f).sum) (YW a L)
 have g:=congrArg (λl=>(l.map f).sum) (YW b (L.drop a))
 simp only[uj,Fq,List.drop_drop]at e g
 lia
theorem sY{ws:List Str}:mw2 (Txt.join " " ws) <=(ws.map mw2).sum+1:=by
 cases ws with
 |nil=>exact(by decide +kernel)
 |cons w r=>rw[m5 (xT _ _)];lia
theorem vP:∀{ws:List Str},Pr (Txt.join " " ws)->∀w∈ws,Pr w
 |[x],h,w,hw=>by rw[aB.mp hw];exact h
 |x::y::r,h,w,hw=>by
  rw[gY]at h;obtain z|z:=fx.mp hw
  ·rw[z];exact λc g=>h c (by rw[Str.cps_append,Str.cps_append,WS,WS];exact px _ (px _ g))
  ·exact vP (λc g=>h c (by rw[Str.cps_append,WS];exact lO _ g)) w z
theorem NJ{row:Str}(h:Pr row)(n:Nat):Pr (Txt.join " " ((Txt.split row " ").take n))/\Pr (Txt.join " " ((Txt.split row " ").drop n))/\mw2 (Txt.join " " ((Txt.split row " ").take n))+mw2 (Txt.join " " ((Txt.split row " ").drop n))<=mw2 row+2/\(Txt.join " " ((Txt.split row " ").take n)).length+(Txt.join " " ((Txt.split row " ").drop n)).length<=row.length+1:=by
 have e:Txt.join " " (Txt.split row " ")=row:=by rw[lT];exact StrLaws.join_split ..
 have h2:=m5 (ws:=Txt.split row " ") jk;have h3:(Txt.join " " (Txt.split row " ")).length=_:=PySem.size_glued " " (Txt.split row " ");have g:0<(Txt.split row " ").length:=ZJ.mpr jk;have hp:=vP (by rw[e];exact h)
 generalize Txt.split row " "=ws at *
 have s1:=Nk (f:=mw2) (L:=ws) (a:=n) (b:=0);have s2:=Nk (f:=(·.length)) (L:=ws) (a:=n) (b:=0);simp only[List.take_zero,List.map_nil,List.sum_nil,Nat.add_zero]at s1 s2;have a1:=sY (ws:=ws.take n);have a2:=sY (ws:=ws.drop n);have b1:=qW (ws:=ws.take n);have b2:=qW (ws:=ws.drop n);rw[xU]at b1;rw[xH]at b2;refine(qH FN λw hw=>hp w (YZ hw),qH FN λw hw=>hp w (UT hw),by lia,?_)
 rw[show(Str.ofString " ").length=1 from by decide +kernel]at h3
 lia
theorem Pz.put{k:Nat}{a:Nat}(h:pU k L)(g:Pz 200 14 y):pU (k+1) (L.take a++[y]++L.drop a):=h.XY g.2.1 g.1 g.2.2
theorem pU.at{k:Nat}(h:pU k L){a:Nat}(ha:a<L.length):((L.take a).map mw2).sum+mw2 L[a]+((L.drop (a+1)).map mw2).sum<=640+15*k/\((L.take a).map (·.length)).sum+L[a].length+((L.drop (a+1)).map (·.length)).sum<=6000+200*k/\(L.take a).length+1+(L.drop (a+1)).length<=8+k:=by
 have q:=AU (f:=mw2) ha;have g:=AU (f:=(·.length)) ha
 have:=h.s;have:=h.l;have:=h.n
 refine(by(first|lia|omega),by(first|lia|omega),?_)
 simp only[xU,xH]
 (first|lia|omega)
inductive KL(ts:List L2.T)(Q:L2.T->Prop):Prop
 |mk(vR L:List Str)(k:Nat)(h1:ts=[.gj,.zl (L.map .s),.zl (vR.map .s)])(h2:4<=vR.length)(h3:vR.length<=7)(h4:(∀w∈vR,ar w=O))(h5:pU k L)(h6:k<=2)(h7:∀L',pU (k+1) L'->Q (.l (L'.map .s)))
theorem HH(T:Txt K mg a):aV P w K mg base CX0 4 a.q9 a.Cj [WF,TZ,Th] (spQ K KL):=by
 have bf:=kc (@iE P w K mg base a T);refine T.CN.F.okQ eR (λts Q h=>?_) (λ_ _ _ _ _ _ hr=>?_)
 ·let(_,_,_,U,_):=h;rfl
 ·have hu:=cj hr;refine(_,_,((ai (aG 3 eR.nd (aS bf hr T.bt (ae (qv 0) (ae ao az))))
 (ai (aG 4 eR.nd (aS bf hr T.bt (ae (qv 0) (ae (ZB (ag (ZB (dY T.gI (ae (qv 1) az))) ao)) az))))
 (ai (aG 5 eR.nd (aS (D6 T) hr T.yM (ae (qv 0) (ae (ZB (aS (vY T) hr T.jR (ae (qv 0) (ae (qv 2) az)))) (ae (ZB (aS (vY T) hr T.jR (ae (qv 0) (ae (qv 2) az)))) az)))))
 (ai (bN (QPW.pt (kz (ua (qv 3) ao) (j6 (bO (SY (WE hr) U) Nw (a8 _) (qv 1) (ZB (aR aF))))))
 (ay (aN (ag (ZB (ag (ZB (bT (qv 1) cY (cM (qv 4)))) (ZB (aR (af (XL (qv 5)) aF))))) (ZB (bT (qv 1) (cM (qv 4)) cY)))))
 aP)
 (ai (bN (ff hu (qv 3) ao)
 (ay (aN (fB (aR (af (FF (ZB (aR (dZ (by rfl)))) (qv 1)) (af (FF (qv 1) (ZB (aR (dZ (by rfl))))) aF))) (ZB (aS bf hr T.bt (ae (qv 0) (ae ao az)))))))
 aP)
 (ai (aG 4 eR.nd (aS bf hr T.bt (ae (qv 0) (ae (ZB (dY T.gI (ae (qv 1) az))) az))))
 (ai (aG 6 eR.nd (XL (bQ (qv 1) (qv 4))))
 (ai (bN (ff hu (qv 3) ao)
 (ay (aN (ag (ZB (bT (qv 1) cY (cM (qv 4)))) (ZB (bT (qv 1) (cM (ZB (ag (qv 4) ao))) cY)))))
 aP)
 (ai (bN (ff hu (qv 3) ao)
 (ai (aG 7 eR.nd (aS bf hr T.bt (ae (qv 0) (ae (ZB (dY T.gI (ae (qv 1) az))) az))))
 (ai (aG 8 eR.nd (aU (kK U) Dk (by rfl) T.tO (by kernel_rfl) (ae (qv 1) az)))
 (ai (NQ (i:=8) (pv 8) (pv 8) (ZB (b6 (af (XL (bQ (qv 1) (qv 7))) (af (XL (bQ (qv 1) (qv 4))) aF)))) (qv 4) (qv 7))
 (ay (zh (i:=8) (pv 8))))))
 aP)
 (ai (bN (ff hu (qv 3) ao)
 (ay (aN (ag (ZB (ag (ZB (bT (qv 1) cY (cM (qv 4)))) (ZB (aR (af (fM (ZB aj) (ZB (bT (qv 1) (cM (qv 4)) (cM (ZB (ag (qv 4) ao)))))) aF))))) (ZB (bT (qv 1) (cM (ZB (ag (qv 4) ao))) cY)))))
 aP)
 (ai (aG 9 eR.nd (gH (qv 6) (ZB aj)))
 (ai (aG 10 eR.nd (aS bf hr T.bt (ae (qv 0) (ae (ZB (dY T.gI (ae (qv 9) az))) az))))
 (ai (bN (ff hu (qv 3) ao)
 (ay (aN (ag (ZB (ag (ZB (bT (qv 1) cY (cM (qv 4)))) (ZB (aR (af (fM (ZB aj) (ZB (bT (qv 9) cY (cM (qv 10))))) (af (fM (ZB aj) (ZB (bT (qv 9) (cM (qv 10)) cY))) aF)))))) (ZB (bT (qv 1) (cM (ZB (ag (qv 4) ao))) cY)))))
 aP)
 (ay (aN (ag (ZB (ag (ZB (bT (qv 1) cY (cM (qv 4)))) (ZB (aR (af (fM (ZB aj) (ZB (bT (qv 9) cY (cM (qv 10))))) aF))))) (ZB (bT (qv 1) (cM (ZB (ag (qv 4) ao))) cY))))))))))))))))))),λts Q h=>?_)
  let(vR,L,k,U,c1,c2,ak,q,hk,hq):=h;have g:(L.map L2.T.s).length=L.length:=gV ..;have hn:=q.n;have hs:=q.s;have hle:=q.l;have ims:=aW L;refine(by decide,by decide,λt t0 t1=>(by rw[g];lia,by rw[g];lia,λp p0 p1=>?_))
  rw[g]at p1;refine(vR,U,c1,c2,ak,λx hx=>(vR,U,c1,c2,ak,λy hy=>(x,y,U,hx,hy,λz hz=>?_)))
  refine(λrest=>a7 (λ_=>rest) (λh=>(L.map .s,[],0,U,U,by decide,(λj x y _ hy=>nomatch hy),λc hc=>a7 (λ_=>rest) (λh2=>?go)))) ?ins
  case ins =>
   let(g1,g2,g3,g4,g5,g6):=l3 (ws:=L) (y:=z) p0 p0 (by lia)
   refine(U,g1,g2,U,g3,g4,g5,?_);show Q _;rw[g6];exact hq _ (hz.put q)
  clear rest;have aH:L ≠ []:=λz=>h2 (hc.mpr (by rw[z];rfl))
  have pos:0<L.length:=ZJ.mpr aH;have em:Pz 200 14 (Str.ofString ""):=(by decide +kernel,by decide +kernel,by unfold Pr;decide +kernel)
  refine(U,a7 (λ_=>?_) (λ_=>?_))
  ·refine(_,_,U,U,wh (aM (by rw[g];show 1+_<=_;lia)),U,ims,_,_,U,U,wh (aM (by rw[g];show _+1<=_;lia)),ims,U,by decide,by decide,λr r0 r1=>?_)
   have a1:=hq _ (em.put (a:=0) q);have a2:=hq _ (em.put (a:=L.length) q);rw[ZX,Fs,qp,uj]at a2
   obtain rfl|rfl:=(by lia:r=0\/r=1)
   ·exact(_,U,a1)
   ·exact(_,U,a2)
  refine(by rw[g];lia,by rw[g];lia,λe e0 e1=>?_)
  rw[g]at e1;have V:e.toNat<L.length:=by lia
  have hm:=Zy V;have a3:=q.at V;have ex:∀{r:Int}(h0:0<=r)(h1:r.toNat<L.length),atI (L.map L2.T.s) r=Z (.s L[r.toNat]):=λ{r} h0 h1=>by
   unfold atI;rw[LA h0 (by rw[g];lia)]
   show(L.map L2.T.s)[r.toNat]?=_;rw[tW,rY h1];rfl
  have en:(e+1).toNat=e.toNat+1:=by lia
  refine(_,ex e0 V,U,?_);refine(U,a7 (λ_=>?_) (λ_=>?_))
  ·have b1:=tk (ws:=L) e0;have b2:=dr (ws:=L) (p:=e+1) (by lia)
   show _+_<=_/\_;rw[b1,b2];refine(wh (aM (by simp only[gV,xU,xH];lia)),aW _,aW _,?_)
   have:=hq _ (q.put (ϋ:=[]) (a:=e.toNat) (b:=e.toNat+1) (ZP _) (by show _+0+_<=_;lia) (by show _+0+_<=_;lia) (by show _+0+_<=_;lia) λ_ z=>nomatch z)
   rw[qp,uj,<- en]at this;exact this
  refine(U,a7 (λ_=>?_) (λ_=>?_))
  ·refine(by rw[g];lia,by rw[g];lia,λo o0 o1=>?_)
   rw[g]at o1;have au:o.toNat<L.length:=by lia
   refine(_,U,ims,_,ex o0 au,U,_,ex e0 V,U,_,_,U,.mk _ U (_,_,U,LA e0 (by rw[g];exact e1),ims,.mk _ U (_,_,U,LA o0 (by rw[Az,g];exact o1),?_,?_)))
   ·rw[<- ab5];exact aW _
   ·show Q _;rw[<- ab5,<- ab5];have pm:=List.set_set_perm V au;refine hq _ (by rw[pm.length_eq];lia,by rw[(pm.map mw2).sum_nat];lia,by rw[(pm.map (·.length)).sum_nat];lia,λx hx=>q.c x (pm.mem_iff.mp hx))
  have aL:(e+2).toNat=e.toNat+2:=by lia
  refine(U,a7 (λ_=>?_) (λ_=>?_))
  ·have Yo:dq L (Z e) (Z (e+2))=(L.drop e.toNat).take 2:=by
    obtain⟨j,rfl⟩:∃j:Nat,e=j:=(e.toNat,by lia)
    rw[show((j:Int)+2)=((j+2:Nat):Int)by lia]
    unfold dq;rw[HT.vd,HT.vd,Zn (by lia:j<=L.length)]
    show(L.drop j).take _=(L.drop j).take 2;rw[aa1,xH]
    lia
   let(g1,g2,g3,g4,g5,g6):=l3 (ws:=L) (y:=Txt.join " " ((L.drop e.toNat).take 2)) (b:=e+2) e0 (by lia) (by lia)
   have s1:=Nk (f:=mw2) (L:=L) (a:=e.toNat) (b:=2);have s2:=Nk (f:=(·.length)) (L:=L) (a:=e.toNat) (b:=2);have m1:=sY (ws:=(L.drop e.toNat).take 2);have m2:=qW (ws:=(L.drop e.toNat).take 2);have m3:((L.drop e.toNat).take 2).length<=2:=by rw[xU];lia
   refine(_,by rw[rH,Yo,cW],by rw[show(Str.ofString " ").length=1 from by decide +kernel];lia,g1,g2,U,g3,g4,g5,?_)
   show Q _;rw[g6,aL];refine hq _ (q.put (Nat.le_add_right _ _) ?_ ?_ ?_ λy hy=>?_)
   ·rw[xU,xH];show _+1+_<=_;lia
   ·show _+(mw2 _+0)+_<=_;lia
   ·show _+(Str.length _+0)+_<=_;lia
   ·rw[aB.mp hy];exact qH FN λw hw=>q.c w (UT (YZ hw))
  have a0:L[e.toNat].length<=6600:=by lia
  have rc:=NJ (q.c _ hm)
  generalize L[e.toNat]=row at *
  have sl:=gC row " ";have gh:0<(Txt.split row " ").length:=ZJ.mpr jk;have wsum:((Txt.split row " ").map (·.length)).sum+(Txt.split row " ").length<=row.length+1:=by
   have h3:(Txt.join " " (Txt.split row " ")).length=_:=PySem.size_glued " " (Txt.split row " ");rw[show Txt.join " " (Txt.split row " ")=row by rw[lT];exact StrLaws.join_split ..,show(Str.ofString " ").length=1 from by decide +kernel]at h3
   lia
  refine(by decide,aM (by lia),?_)
  generalize Txt.split row " "=ws at *
  have lw:(ws.map L2.T.s).length=ws.length:=gV ..;have ah:=aW ws;refine(by rw[lw];lia,by rw[lw];lia,λu u0 u1=>?_)
  let(r1,r2,r3,r4):=rc u.toNat;have aD:=tk (ws:=ws) u0;have aX:=dr (ws:=ws) u0;have w1:=y7 (f:=(·.length)) (L:=ws) (oa u.toNat);have aw:(Str.ofString " ").length=1:=by decide +kernel
  have j1:((ws.take u.toNat).map (·.length)).sum+(ws.take u.toNat).length*(Str.ofString " ").length<=16777216:=by rw[aw,xU];lia
  have j2:((ws.drop u.toNat).map (·.length)).sum+(ws.drop u.toNat).length*(Str.ofString " ").length<=16777216:=by rw[aw,xH];lia
  refine(U,a7 (λ_=>?_) (λ_=>?_))
  ·let(g1,g2,g3,g4,g5,g6):=lY (L:=L) (ϋ:=[Txt.join " " (ws.take u.toNat),Txt.join " " (ws.drop u.toNat)]) (b:=e+1) e0 (by lia) (by lia) (by show 2<=640;decide)
   refine(ah,_,by rw[aD,cW],j1,ah,_,by rw[aX,cW],j2,g1,g2,U,g3,g4,g5,?_)
   have hY:=hq _ (q.put (ϋ:=[Txt.join " " (ws.take u.toNat),Txt.join " " (ws.drop u.toNat)]) (a:=e.toNat) (b:=e.toNat+1) (ZP _) (by show _+2+_<=_;lia) (by show _+(mw2 _+(mw2 _+0))+_<=_;lia) (by show _+(Str.length _+(Str.length _+0))+_<=_;lia) λy hy=>by
    obtain z|z:=fx.mp hy
    ·rw[z];exact r1
    ·rw[aB.mp z];exact r2)
   rw[<- en,<- g6]at hY;exact hY
  ·let(g1,g2,g3,g4,g5,g6):=l3 (ws:=L) (y:=Txt.join " " (ws.take u.toNat)) (b:=e+1) e0 (by lia) (by lia)
   refine(ah,_,by rw[aD,cW],j1,g1,g2,U,g3,g4,g5,?_)
   show Q _;rw[g6,en];refine hq _ (q.put (ZP _) (by show _+1+_<=_;lia) (by show _+(mw2 _+0)+_<=_;lia) (by show _+(Str.length _+0)+_<=_;lia) λy hy=>by rw[aB.mp hy];exact r1)
inductive Ol(ts:List L2.T)(Q:L2.T->Prop):Prop
 |mk(h1:ts=[.gj])(h2:∀ks fs,ET ks fs->(∀z∈fs,z.2.cd<=39)->ks.length<=3->fs.length<=5->tw ks fs<=640->Q (pT ks fs))
theorem TC{k:Kd}(h:xR k):Sh (kws k):=.cons (by decide) (.cons (bw h.n).2 (Sh.tail λx hx=>by
 let(m,hm,hx):=Y7.mp hx;exact(Sh.cons (by decide) (.cons (bw (h.m m hm).1).2 (.nm (h.m m hm).2.2))) x hx))
theorem JY{ws:List Str}(g:ws ≠ [])(hs:Sh ws)(q:Cl ws):Pr (Txt.join " " ws)/\mw2 (Txt.join " " ws)=ws.length/\(Txt.join " " ws).length<=9*ws.length:=by
 refine(qH FN λw hw c h=>(by have:=(q w hw c h).1;lia,(q w hw c h).2),?_,?_)
 ·rw[m5 g];clear g hs
  induction ws with
  |nil=>rfl
  |cons w r K =>
   rw[CH,U5,K λx hx=>q x (aJ _ hx),my]
   unfold mw2;rw[aa9.mpr λc h z=>by have:=(q w di c h).1;simp at z;lia]
   lia
 ·have h1:=qW (ws:=ws);have h2:=hs.sum
  lia
theorem Iu{fs:List (Fh×Bd)}(hp:ET ks fs)(h3:ks.length<=3)(h5:fs.length<=5)(K:tw ks fs<=640):pU 0 (ks.map gM++fs.map iz):=by
 have q:∀k∈ks,Pr (gM k)/\mw2 (gM k)=(kws k).length/\(gM k).length<=9*(kws k).length:=λk h=>by
  rw[vj (hp.k k h).ne];exact JY (xT _ _) (TC (hp.k k h)) (El (hp.k k h))
 have hf:∀z∈fs,Pr (iz z)/\mw2 (iz z)=(fws z.1 z.2).length/\(iz z).length<=9*(fws z.1 z.2).length:=λz h=>JY (xT _ _) (LS (hp.f z h)) (Ey (hp.f z h))
 have e1:(ks.map (mw2 ∘ gM))=ks.map λk=>(kws k).length:=ZI λk h=>(q k h).2.1
 have V:(fs.map (mw2 ∘ iz))=fs.map λz=>(fws z.1 z.2).length:=ZI λz h=>(hf z h).2.1
 have l1:∀{α:Type}{f g:α->Nat}{xs:List α},(∀x∈xs,f x<=9*g x)->(xs.map f).sum<=9*(xs.map g).sum:=λ{α f g xs} h=>by
  induction xs with
  |nil=>exact oa _
  |cons x r P =>
   have:=h x di
   have:=P λy Q=>h y (aJ _ Q)
   rw[CH,U5,CH,U5]
   lia
 have a1:=l1 (f:=(λx=>x.length) ∘ gM) λk h=>(q k h).2.2
 have a2:=l1 (f:=(λx=>x.length) ∘ iz) λz h=>(hf z h).2.2
 unfold tw at K;refine(?_,?_,?_,λx hx=>?_)
 ·rw[qd,gV,gV];lia
 ·rw[uj,Fq,Zb,Zb,e1,V];exact K
 ·rw[uj,Fq,Zb,Zb];lia
 ·obtain z|z:=mu.mp hx
  ·let(k,h,U):=YY.mp z;exact(q k h).1
  ·let(k,h,U):=YY.mp z;exact(hf k h).1
theorem S2(T:Txt K mg a):aV P w K mg base CX0 200 a.yn a.QV [Tm] (vB K):=by
 have US:aV P w K mg base CX0 60 a.wG a.EF [WF] (spQ K Ol):=(OP T).calm.Ya λts Q h=>let(e,k):=h;(e,k)
 refine T.Xv.F.X7 (n:=6) (s1:=(cz t9).headD (.Pass (0,0,0,0))) (rest:=(cz t9).tail) kT U U (λ_ _ _ _ _ _ hr=>?_)
 have hu:=cj hr;refine(_,_,_,(lj (i:=1) kT.nd U (Or.inl U) (zz (OQ T) hr.aY U T.AG.m T.AG.F.kp T.AG.b .nil ub (bh (pv 0) (bh b7 dC)))),((ai (aG 2 kT.nd (vf (aS (FZ T) hr T.AB (ae (ZB (aS US hr T.MX (ae (qv 1) az))) az))))
 (ai (aG 3 kT.nd (vf (aS (F6 T) hr T.EZ (ae (qv 1) az))))
 (ai (aG 4 kT.nd (XL (qv 2)))
 (ai (j7 (g:=(Tg.nm 5)) PassesOwn.never U (jf U T.iL (ae (ZB (ag ao (ZB (aS (kc (iE T)) hr T.bt (ae (qv 1) (ae ao az)))))) az)) (j9 5 kT.nd)
 (ay (aG 4 kT.nd (vf (aS (HH T) hr T.CN (ae (qv 1) (ae (qv 4) (ae (qv 3) az))))))))
 (ai (aG 6 kT.nd (qE (ZB aj) (qv 4)))
 (ai (aG 7 kT.nd (fM (ZB aj) (ZB (aS (FZ T) hr T.AB (ae (ZB (aS (BA T) hr T.AE (ae (ZB (qE (ZB aj) (qv 2))) az))) az)))))
 (ai (bN (QPW.pt (kz (bO gW dU (a8 _) (qv 7) (ZB (qE (ZB aj) (qv 2)))) (j6 (gE (br (ZB (aS (Le T) hr T.vt (ae (qv 6) az))))))))
 (ay (aN iM))
 aP)
 (ay (aN (sL (ZB (aS (Le T) hr T.vt (ae (ZB (qE (ZB aj) (qv 2))) az))) (pf (aS (Le T) hr T.vt (ae (qv 6) az)))))))))))))),λp0 ns D hS hlen k=>?_,λns hlen=>?_)
 ·refine(_,U,p0,ns,_,U,hS,hlen,by decide,by decide,λd l H1 fd fl D1 s1=>?_)
  exact k d l H1 fd fl D1 s1
 ·refine(U,λks fs hp ak h3 h5 ht=>(ks,fs,U,hp,λz hz=>Y9 (ak z hz) (by decide),mV _,?_))
  have ah:=Iu hp h3 h5 ht;have hw:=Dc hp;have V:=FC ah (by decide)
  have Yq:∀z∈fs,z.2.cd<190:=λz hz=>Y9 (ak z hz) (by decide)
  have eL:∃L0,L0=ks.map gM++fs.map iz:=(_,U)
  let(L0,eL):=eL;rw[<- eL]at ah hw V;rw[<- eL];have aD:=V.1.l;refine(U,λvR p1 p2 au=>(mV vR,U,by decide,by decide,λd d0 d1=>(by(first|lia|omega),by(first|lia|omega),λi q=>M2 λ(o5:Sl)(L:List Str)=>q=[.r (.z ns),.r .gj,.o (.zl (L0.map .s)),.o (.zl (vR.map .s)),.o (.zl (L.map .s)),o5,.no,.no]/\pU i L,(_,L0,U,ah),?_,?_)))
  ·rintro i x q hx ⟨o5,L,rfl,hL⟩
   let(U,hi):=k7 hx;exact(_,U,vR,L,i,U,p1,p2,au,hL,by(first|lia|omega),λL' aw=>(mV L',_,L',U,aw))
  ·rintro q ⟨o5,L,rfl,hL⟩
   rw[fe]at hL;have tx:=FC hL (by(first|lia|omega))
   refine(_,U,_,cW _,tx.2,_,U,_,cW _,V.2,_,_,U,by(first|lia|omega),hw,ks,fs,U,hp,Yq,?_)
   rw[<- eL];refine(_,cW _,V.2,_,U,_,cW _,V.2,U,a7 (λh=>?_) (λh=>?_))
   ·exact absurd U (dQ h)
   refine(_,U,tx.1,_,U,_,cW _,V.2,_,U,V.1,_,U,tx.1,U)
end
variable{mg:Str->Option B}
theorem all_mk{l:W.OpenLaw}{w:Da}{K:BT}{h:Ev}{fa:J}(X:K.In h)(G:h.Ns mainGlobals mg)(hfa:mg "law"=Z (.ref fa))
  {aH:J} (xm:W.nsIn K mainGlobals "PurseError"=Z (Z (.ref aH))) (xl:W.keepIn K (.ref aH)=O)
  (xk:jT K fns aH (bmV) Y=O)
  {aX:J} (GY:W.nsIn K mainGlobals "NoText"=Z (Z (.ref aX))) (GU:W.keepIn K (.ref aX)=O)
  {yz:ClassData} (UU:W.clsIn K aX=Z yz)
  (UW:W.nsIn K yz.ns "__init__"=Z (Z (.ref gi))) (GR:LK K gi "__init__" "NoText.__init__" sC T7 T6 Ua Ub T5 Ud Eu Uc T4) (GW:CI K Eu "NoText.__init__") (GQ:KI K gi) (GV:W.isFn K (.ref gi)=O)
  (GP:jT K fns aX (.ref aH::bmV) (Z gi)=O)
  {bC:J} (yW:W.nsIn K mainGlobals "NoProgram"=Z (Z (.ref bC))) (yT:W.keepIn K (.ref bC)=O)
  {rJ:ClassData} (Nb:W.clsIn K bC=Z rJ)
  (Nc:W.nsIn K rJ.ns "__init__"=Z (Z (.ref c6))) (yS:LK K c6 "__init__" "NoProgram.__init__" p9 M4 M3 M5 M6 M1 M8 xI M7 M0) (yV:CI K xI "NoProgram.__init__") (yR:KI K c6) (yU:W.isFn K (.ref c6)=O)
  (yQ:jT K fns bC (.ref aH::bmV) (Z c6)=O)
  {cE:J} (C7:W.nsIn K mainGlobals "NoValue"=Z (Z (.ref cE))) (C0:W.keepIn K (.ref cE)=O)
  (CS:jT K fns cE (.ref aH::bmV) Y=O)
  {ck:J} (C8:W.nsIn K mainGlobals "NoPaper"=Z (Z (.ref ck))) (C1:W.keepIn K (.ref ck)=O)
  {wV:ClassData} (Ra:W.clsIn K ck=Z wV)
  (Rc:W.nsIn K wV.ns "__init__"=Z (Z (.ref fO))) (CY:LK K fO "__init__" "NoPaper.__init__" vE Qs Qq Qv Qx Qn QF B0 Qz Ql) (C5:CI K B0 "NoPaper.__init__") (CV:KI K fO) (C3:W.isFn K (.ref fO)=O)
  (CT:jT K fns ck (.ref aH::bmV) (Z fO)=O)
  {dJ:J} (GX:W.nsIn K mainGlobals "NoTurn"=Z (Z (.ref dJ))) (GS:W.keepIn K (.ref dJ)=O)
  (GO:jT K fns dJ (.ref aH::bmV) Y=O)
  {cm:J} (C9:W.nsIn K mainGlobals "NoChain"=Z (Z (.ref cm))) (C2:W.keepIn K (.ref cm)=O)
  {wW:ClassData} (Rb:W.clsIn K cm=Z wW)
  (Rf:W.nsIn K wW.ns "__init__"=Z (Z (.ref fP))) (CZ:LK K fP "__init__" "NoChain.__init__" vF Qt Qr Qw Qy Qo QK B3 QD Qm) (C6:CI K B3 "NoChain.__init__") (CW:KI K fP) (C4:W.isFn K (.ref fP)=O)
  (CU:jT K fns cm (.ref aH::bmV) (Z fP)=O)
  {fQ:J} (Ji:W.nsIn K mainGlobals "NoRow"=Z (Z (.ref fQ))) (Jg:W.keepIn K (.ref fQ)=O)
  (Jf:jT K fns fQ (.ref aH::bmV) Y=O)
  {au:J} (Bl:W.nsIn K mainGlobals "RowWords"=Z (Z (.ref au))) (Bx:W.plainGet K au Str.empty=O) (Bv:W.hasDictIn K au=O) (Bt:W.plainOver K au=O)
  (Br:W.findIn K (.ref au) "__setattr__"=Z (Z (.builtin "object.__setattr__"))) (Bp:W.makesIn K au=O) (Bn:W.keepIn K (.ref au)=O)
  (qM:bS K au "words")
  (pz:bS K au "number")
  (qN:bS K au "place")
  (sN:DM K au "__init__" "RowWords.__init__" ie cT)
  (qI:DM K au "ahead" "RowWords.ahead" gN dF)
  (mX:DM K au "has_more" "RowWords.has_more" fw cu)
  (sM:DM K au "take" "RowWords.take" ic eJ)
  (mW:DM K au "take_due" "RowWords.take_due" fv cq)
  (mh:DM K au "take_name" "RowWords.take_name" eV b8)
  (jw:DM K au "take_names_to" "RowWords.take_names_to" cR bD)
  (lq:DM K au "take_coins" "RowWords.take_coins" dR bU)
  (pw:DM K au "finish" "RowWords.finish" gD c7)
  {aD:J} (Bm:W.nsIn K mainGlobals "OpenCase"=Z (Z (.ref aD))) (By:W.plainGet K aD Str.empty=O) (Bw:W.hasDictIn K aD=O) (Bu:W.plainOver K aD=O)
  (Bs:W.findIn K (.ref aD) "__setattr__"=Z (Z (.builtin "object.__setattr__"))) (Bq:W.makesIn K aD=O) (Bo:W.keepIn K (.ref aD)=O)
  (qO:bS K aD "heads")
  (pA:bS K aD "looked")
  (sP:bS K aD "arms")
  (mY:bS K aD "arm_head")
  (sO:DM K aD "__init__" "OpenCase.__init__" ig cU)
  (mj:DM K aD "begin_arm" "OpenCase.begin_arm" eY b9)
  (lu:DM K aD "finish_arm" "OpenCase.finish_arm" dS bV)
  (qJ:DM K aD "whole" "OpenCase.whole" gO dG)
  (xnd:decide [aH,aX,bC,cE,ck,dJ,cm,fQ].Nodup=O)
  (Ia:DY K "is_name" sG nY)
  (Ek:DY K "is_coins" oZ lJ)
  (O1:DY K "is_of" zf vp)
  (To:DY K "read" Dx wF)
  (BO:DY K "read_kind" mJ jH)
  (zP:DY K "read_maker" kX i8)
  (uO:DY K "read_function" iQ gu)
  (BQ:DY K "read_body" mL jJ)
  (zR:DY K "close_arms" kZ ja)
  (xD:DY K "under_heads" jW iG)
  (BP:DY K "read_head" mK jI)
  (Ej:DY K "read_let" oY lI)
  (Tv:DY K "_law_deal" DE Aa)
  (Tt:DY K "_law_draw" DD z9)
  (Tq:DY K "_law_name" Dz z7)
  (Tp:DY K "_law_pool" Dy z6)
  (BR:DY K "_law_good_name" mM jK)
  (Wt:DY K "_law_one" JU Gq)
  (Tj:DY K "_law_some" Dv zZ)
  (Tr:DY K "_law_kind" DA z8)
  (Tw:DY K "_law_body" DF Ab)
  (Ts:DY K "_law_form" DB wG)
  (BV:DY K "_law_body_text" mP jM)
  (Tn:DY K "_law_rows" Dw z5)
  (Ti:DY K "_law_word" Du zY)
  (wk:DY K "_law_behind_names" jn gZ)
  (zQ:DY K "_law_good_coins" kY i9)
  (zS:DY K "_law_behind_arm" k6 jb)
  (xF:DY K "_law_behind_head" jY iI)
  (xG:DY K "_law_behind_body" jZ iJ)
  (BU:DY K "_law_good_kind" mO jL)
  (uP:DY K "_law_good_function" iR gw)
  (xE:DY K "_law_first_wrong" jX iH)
  (Ib:DY K "_law_bad_row" sH nZ)
  (Lu:DY K "_law_spoilt" vH q9)
  (Lv:DY K "_law_beyond" vI rg)
  (HZ:DY K "_law_refused" sF nW)
  (O0:DY K "_law_right" ze vo)
  (Q0:NI K "law" yn) (Wu:LK K yn "law" "law" t9 X0 XZ TR Up SK Ux Mw Uq XH) (W9:CI K Mw "law") (Wx:KI K yn)
  (U1:NB K "len")
  (U4:NB K "all")
  (U3:NB K "any")
  (Q8:NB K "list")
  (M9:NB K "tuple")
  (UY:NB K "str")
  (U2:NB K "int")
  (Q9:NB K "bool")
  (CQ:NB K "reversed")
  (U0:NB K "max")
  (UZ:NB K "min")
  (Na:NB K "range")
  (yN:NB K "isinstance")
  (AH:NB K "enumerate")
  (yO:NB K "ValueError")
  {fS:J} {xA:Option J} {ng:Array B} {zK:Nat} {xq:Array (Option B)}
  (yX:W.nsIn K mainGlobals "KEPT_WORDS"=Z (Z (.ref fS))) (yP:K.lookup fS=Z (.type "tuple",xA,.seq ng zK,xq)) (pZ:Vals ((["kind","def","to","let","make","call","name","case","end","pay","get","give"]:List Str).map V.str) ng.toList)
  {Hd:Tok} (G6:W.nsIn K mainGlobals "LETTERS"=Z (Z (.str "abcdefghijklmnopqrstuvwxyz" Hd)))
  {He:Tok} (G7:W.nsIn K mainGlobals "FIGURES"=Z (Z (.str "0123456789" He)))
  {vA:Tok} (vv:W.nsIn K mainGlobals "LONGEST_NAME"=Z (Z (.int 8 vA)))
  {uL:Tok} (uI:W.nsIn K mainGlobals "LONGEST_COINS"=Z (Z (.int 7 uL)))
  : ∃fd:Ch,(∀(s:ϋ)(v:B),BindsTo s fd ([v],[]) [("_law_script",v)])/\∀base:Ev,K.In base->base.Ns mainGlobals mg->aV l.prog w K mg base CX0 200 fa fd [Tm] (vB K):=by
 have e:=hfa.symm.trans (W.mg_of X G Q0);cases e;have n8:=pM GR GW GQ;have lP:=pM yS yV yR;have pV:=pM CY C5 CV;have pW:=pM CZ C6 CW;let(IY,_,yI):=Ia;let(ER,_,xf):=Ek;let(PF,_,GN):=O1;let(UB,_,MN):=To;let(Cy,_,uB):=BO;let(Aj,_,r8):=zP;let(uV,_,ma):=uO;let(CA,_,uD):=BQ;let(Al,_,se):=zR;let(xN,_,oO):=xD;let(Cz,_,uC):=BP;let(EO,_,xb):=Ej;let(UI,_,MT):=Tv;let(UH,_,MS):=Tt;let(UD,_,MP):=Tq;let(UC,_,MO):=Tp;let(CB,_,uE):=BR;let(Xj,_,Q5):=Wt;let(Uz,_,ML):=Tj;let(UE,_,MQ):=Tr;let(UJ,_,MU):=Tw;let(UG,_,MR):=Ts;let(CD,_,uG):=BV;let(UA,_,MM):=Tn;let(Uy,_,MK):=Ti;let(w6,_,nF):=wk;let(Ak,_,sd):=zQ;let(Am,_,sf):=zS;let(xP,_,oQ):=xF;let(xQ,_,oR):=xG;let(CC,_,uF):=BU;let(uW,_,me):=uP;let(xO,_,oP):=xE;let(IZ,_,yJ):=Ib;let(MF,_,CK):=Lu;let(MG,_,CL):=Lv;let(IW,_,yH):=HZ;let(PD,_,GL):=O0;have Q6:=pM Wu W9 Wx;let(iX,_,gy):=sN;let(tS,_,fU):=qI;let(oz,_,dw):=mX;let(uX,_,gx):=sM;let(oy,_,dv):=mW;let(nB,_,c8):=mh;let(ke,_,bY):=jw;let(mv,_,cN):=lq;let(rX,_,fm):=pw;let(iY,_,gA):=sO;let(nC,_,c9):=mj;let(mx,_,cO):=lu;let(tT,_,fV):=qJ;have T:Txt K mg (aH,aX,gi,_,bC,c6,_,cE,ck,fO,_,dJ,cm,fP,_,fQ,au,cT,_,dF,_,cu,_,eJ,_,cq,_,b8,_,bD,_,bU,_,c7,_,aD,cU,_,b9,_,bV,_,dG,_,nY,_,lJ,_,vp,_,wF,_,jH,_,i8,_,gu,_,jJ,_,ja,_,iG,_,jI,_,lI,_,Aa,_,z9,_,z7,_,z6,_,jK,_,Gq,_,zZ,_,z8,_,Ab,_,wG,_,jM,_,z5,_,zY,_,gZ,_,i9,_,jb,_,iI,_,iJ,_,jL,_,gw,_,iH,_,nZ,_,q9,_,rg,_,nW,_,vo,_,yn,_,fS):=(jx xk,W.mg_of X G xm,xl,jx GP,W.mg_of X G GY,GU,n8,GV,n8.b2,jx yQ,W.mg_of X G yW,yT,lP,yU,lP.b3,jx CS,W.mg_of X G C7,C0,jx CT,W.mg_of X G C8,C1,pV,C3,pV.b2,jx GO,W.mg_of X G GX,GS,jx CU,W.mg_of X G C9,C2,pW,C4,pW.b2,jx Jf,W.mg_of X G Ji,Jg,(Bx,Bv,Bt,Br),W.mg_of X G Bl,(Bp,iX.1,iX.2,Bn),qM,pz,qN,gy,iX,gy.b3,fU,tS,fU.b1,dw,oz,dw.b1,gx,uX,gx.b1,dv,oy,dv.b2,c8,nB,c8.b1,bY,ke,bY.b2,cN,mv,cN.b1,fm,rX,fm.b1,(By,Bw,Bu,Bs),W.mg_of X G Bm,(Bq,iY.1,iY.2,Bo),qO,pA,sP,mY,gA,iY,gA.b3,c9,nC,c9.b2,cO,mx,cO.b2,fV,tT,fV.b1,of_decide_eq_true xnd,(yI,W.mg_of X G IY,yI.b1),(xf,W.mg_of X G ER,xf.b1),(GN,W.mg_of X G PF,GN.b3),(MN,W.mg_of X G UB,MN.b1),(uB,W.mg_of X G Cy,uB.b1),(r8,W.mg_of X G Aj,r8.b1),(ma,W.mg_of X G uV,ma.b1),(uD,W.mg_of X G CA,uD.b1),(se,W.mg_of X G Al,se.b3),(oO,W.mg_of X G xN,oO.b2),(uC,W.mg_of X G Cz,uC.b2),(xb,W.mg_of X G EO,xb.b1),(MT,W.mg_of X G UI,MT.b2),(MS,W.mg_of X G UH,MS.b2),(MP,W.mg_of X G UD,MP.b1),(MO,W.mg_of X G UC,MO.b1),(uE,W.mg_of X G CB,uE.b1),(Q5,W.mg_of X G Xj,Q5.b2),(ML,W.mg_of X G Uz,ML.b3),(MQ,W.mg_of X G UE,MQ.b2),(MU,W.mg_of X G UJ,MU.b5),(MR,W.mg_of X G UG,MR.b1),(uG,W.mg_of X G CD,uG.b1),(MM,W.mg_of X G UA,MM.b1),(MK,W.mg_of X G Uy,MK.b2),(nF,W.mg_of X G w6,nF.b2),(sd,W.mg_of X G Ak,sd.b1),(sf,W.mg_of X G Am,sf.b2),(oQ,W.mg_of X G xP,oQ.b2),(oR,W.mg_of X G xQ,oR.b2),(uF,W.mg_of X G CC,uF.b1),(me,W.mg_of X G uW,me.b1),(oP,W.mg_of X G xO,oP.b1),(yJ,W.mg_of X G IZ,yJ.b3),(CK,W.mg_of X G MF,CK.b3),(CL,W.mg_of X G MG,CL.b1),(yH,W.mg_of X G IW,yH.b1),(GL,W.mg_of X G PD,GL.b1),(Q6,W.mg_of X G Q0,Q6.b1),W.mg_none_of X G U1,W.mg_none_of X G U4,W.mg_none_of X G U3,W.mg_none_of X G Q8,W.mg_none_of X G M9,W.mg_none_of X G UY,W.mg_none_of X G U2,W.mg_none_of X G Q9,W.mg_none_of X G CQ,W.mg_none_of X G U0,W.mg_none_of X G UZ,W.mg_none_of X G Na,W.mg_none_of X G yN,W.mg_none_of X G AH,W.mg_none_of X G yO,W.mg_of X G yX,λ_=>.inr (_,_,_,yP,U,U,Hj pZ,pZ),(_,W.mg_of X G G6),(_,W.mg_of X G G7),(_,W.mg_of X G vv),(_,W.mg_of X G uI))
 exact(W.fnOf "law" "law" (iK t9) (cz t9) (av t9) .none TR Up SK Ux Mw Uq,λs v=>.of_eq U,λbase _ _=>S2 T)
theorem walk{l:W.OpenLaw}{q:Db}{loose:List Str}{XP:(Str->Option B)->Ev->Prop}{P:Da->Ev->Prop}{d:DefRec}{K:Params->BT}(hn:l.most=Z 63)(g:d.params.defaults=[])
  (Q:∀(w:Da)(h:Ev),P w h->(K w.params).In h)
  (F:∀(w:Da)(mg:Str->Option B)(fa:J)(h:Ev),(K w.params).In h->h.Ns mainGlobals mg->mg d.name=Z (.ref fa) ->
   ∃fd:Ch,(∀(s:ϋ)(u:B),BindsTo s fd ([u],[]) [("_law_script",u)])/\∀base:Ev,(K w.params).In base->base.Ns mainGlobals mg->aV l.prog w (K w.params) mg base CX0 200 fa fd [Tm] (vB (K w.params))):
  W.WalkO q loose XP P l.row.toRowW d [] (λf vs=>PySem.call f vs) :=
 L2.Ng (n:=63) (k:=200) (x:="_law_script") (CX:=λ_=>CX0) (sp:=λw=>vB (K w.params)) hn (by decide) g (U,by decide,by decide) Q F (λ_ _ a ns hl hO V=>(a,ns,U,W3 hO V,hl,λ_=>rfl)) λ_ _ _ _ _ z=>z
end K03
namespace PySem.W.Fast
def tw10031034708657731350:=Nat
def tw10087803324259443225:=Nat
def tw10105535865904278759:=Nat
def tw10112106884762715540:=Nat
def tw10140280050770342413:=Nat
def tw10149326284843670196:=Nat
def tw102067869874465469:=Nat
def tw10319993660382302713:=Nat
def tw1048909709700773349:=Nat
def tw10533046140139299593:=Nat
def tw1054938902655613712:=Nat
def tw10552434461795934285:=Nat
def tw10624594932248909438:=Nat
def tw10685169841304091661:=Nat
def tw10700165230084856500:=Nat
def tw10756994590166191954:=Nat
def tw10794802163468600767:=Nat
def tw10794967838477190879:=Nat
def tw10795178535038185580:=Nat
def tw10830261347842577619:=Nat
def tw10925886257135371511:=Nat
def tw10926831978823307044:=Nat
def tw11004732087070822575:=Nat
def tw11169808346564181789:=Nat
def tw11221450524810632062:=Nat
def tw11253139691705996829:=Nat
def tw11274266514649431476:=Nat
def tw11381601517142541402:=Nat
def tw11439729859104999763:=Nat
def tw1149179158352924131:=Nat
def tw11503350902870676829:=Nat
def tw11522733937898229378:=Nat
def tw11540655255055858175:=Nat
def tw11557088315517743078:=Nat
def tw11561537059687180375:=Nat
def tw11569521816049011074:=Nat
def tw11727825218187536976:=Nat
def tw11784528514830641065:=Nat
def tw11799356181881451638:=Nat
def tw11813000622693446410:=Nat
def tw12014011092846694448:=Nat
def tw12035255440412151695:=Nat
def tw12175832703983519716:=Nat
def tw12197002304323378082:=Nat
def tw12210261605634662523:=Nat
def tw1221324760839274759:=Nat
def tw12230437047494917550:=Nat
def tw12264908303399567578:=Nat
def tw12302005682291918473:=Nat
def tw12303342959871934605:=Nat
def tw12314818043953152003:=Nat
def tw12348198142602068562:=Nat
def tw12385147310696953425:=Nat
def tw12534488241990320164:=Nat
def tw12538005536778953331:=Nat
def tw12578972111768551588:=Nat
def tw12617747979036632379:=Nat
def tw1262268450399090579:=Nat
def tw12636649842083601165:=Nat
def tw12662841111016548179:=Nat
def tw12753741182273986810:=Nat
def tw12912852963285545567:=Nat
def tw12926608496190649868:=Nat
def tw12953930360665586347:=Nat
def tw13045763108953064778:=Nat
def tw1317562056876675826:=Nat
def tw1317885384817063077:=Nat
def tw13240375736551728874:=Nat
def tw13247254231451123299:=Nat
def tw13254110499899020462:=Nat
def tw13262050931309509076:=Nat
def tw13267358215811246449:=Nat
def tw13280200449167885391:=Nat
def tw13322650651736334762:=Nat
def tw13474447964127975596:=Nat
def tw13613675623735148979:=Nat
def tw13635125707938233598:=Nat
def tw13693851330101448946:=Nat
def tw1372813341371740711:=Nat
def tw13944022688629962310:=Nat
def tw13969577876081866361:=Nat
def tw13992778560371575602:=Nat
def tw14073118430537022729:=Nat
def tw14125966770922242577:=Nat
def tw141361719749657316:=Nat
def tw14247333502810170440:=Nat
def tw14296238870075343422:=Nat
def tw14314665747588953900:=Nat
def tw14316457216164496186:=Nat
def tw14340052247702875713:=Nat
def tw1435566922045214764:=Nat
def tw1442152630434296401:=Nat
def tw14459766559216358928:=Nat
def tw14466798921396727202:=Nat
def tw14477873346444913434:=Nat
def tw14535253762957433004:=Nat
def tw14560767326230244546:=Nat
def tw14592758731159516061:=Nat
def tw14648199654286638595:=Nat
def tw14679214847365670853:=Nat
def tw14763018457017425822:=Nat
def tw1477728902199246949:=Nat
def tw14779792093085334871:=Nat
def tw14841864039415966992:=Nat
def tw14868410350236577915:=Nat
def tw14895414669334351027:=Nat
def tw1492142474213872556:=Nat
def tw14974130301163844849:=Nat
def tw15004030283652931926:=Nat
def tw15042071309449188396:=Nat
def tw15111568073785544364:=Nat
def tw15183767522179594268:=Nat
def tw15216561077794829324:=Nat
def tw15259116967256632692:=Nat
def tw15272765503269851002:=Nat
def tw15319807884709529933:=Nat
def tw15333403513422254319:=Nat
def tw1534741818178939487:=Nat
def tw15377999427959909023:=Nat
def tw1541110952202932139:=Nat
def tw15413754390469135924:=Nat
def tw15471772747489882124:=Nat
def tw15494569741287559319:=Nat
def tw15502692480361756381:=Nat
def tw15578636228456552429:=Nat
def tw15593524517432523764:=Nat
def tw15612577067720033777:=Nat
def tw15797997031533553316:=Nat
def tw15837603178846180085:=Nat
def tw15862388709119636729:=Nat
def tw15924739328383068248:=Nat
def tw15972938091917458015:=Nat
def tw16011841339913210133:=Nat
def tw16032252948692103173:=Nat
def tw16036835561500545877:=Nat
def tw16057358010449483582:=Nat
def tw16078571221155989347:=Nat
def tw16088882229092605248:=Nat
def tw16096963427340787589:=Nat
def tw16243484540687379765:=Nat
def tw16344791748833542608:=Nat
def tw16361059821397494315:=Nat
def tw16528399166775752071:=Nat
def tw16576389857224057125:=Nat
def tw16596899928841053786:=Nat
def tw16643155614415751795:=Nat
def tw16817318627149937948:=Nat
def tw16818482290119762665:=Nat
def tw17014443827251506437:=Nat
def tw17098626909450323504:=Nat
def tw17139031127897181013:=Nat
def tw17153533025129002850:=Nat
def tw17199213726984123570:=Nat
def tw17288774456956101892:=Nat
def tw17338819928909126062:=Nat
def tw17358303356063208738:=Nat
def tw17408141763037232549:=Nat
def tw17474207344543435281:=Nat
def tw17485022362616807640:=Nat
def tw1750194940744679106:=Nat
def tw17522601701342986709:=Nat
def tw17708522792322327852:=Nat
def tw17750595861663145569:=Nat
def tw17868479070051722955:=Nat
def tw17890633135200484789:=Nat
def tw17916215784912580982:=Nat
def tw17921559750058315876:=Nat
def tw17984847581300022231:=Nat
def tw18308966171669149455:=Nat
def tw18327027788568087982:=Nat
def tw18381168855233776785:=Nat
def tw1991213959244551:=Nat
def tw201156615663508888:=Nat
def tw2030681653344480062:=Nat
def tw2086763645013014335:=Nat
def tw2190547241797934442:=Nat
def tw2191995122901481036:=Nat
def tw2271220133376853444:=Nat
def tw2367558434764316705:=Nat
def tw243629642060252290:=Nat
def tw2463623435978365677:=Nat
def tw2505939009751503478:=Nat
def tw2506055150763719146:=Nat
def tw256125041586792209:=Nat
def tw2565831959814940627:=Nat
def tw2592280588325990402:=Nat
def tw2644280284592890145:=Nat
def tw2661932302432324755:=Nat
def tw2676187109625000205:=Nat
def tw2677727476114271085:=Nat
def tw278067150749324344:=Nat
def tw2794376159912654276:=Nat
def tw28645568380425696:=Nat
def tw301826159120929176:=Nat
def tw3023691570090364865:=Nat
def tw303144416792033596:=Nat
def tw3105315371892200072:=Nat
def tw315531877211155516:=Nat
def tw3227021546493809495:=Nat
def tw3238382287051767935:=Nat
def tw3356505928920066482:=Nat
def tw3462807513083149336:=Nat
def tw3479765932173620066:=Nat
def tw3498502816156561345:=Nat
def tw3566498248206654457:=Nat
def tw364147197444697208:=Nat
def tw3835461937634665659:=Nat
def tw3858763915229792332:=Nat
def tw3864682928678822024:=Nat
def tw3873071328829884667:=Nat
def tw3874812102248754440:=Nat
def tw3900544573849280543:=Nat
def tw396652395747625475:=Nat
def tw3989312916380690098:=Nat
def tw4020459022313570850:=Nat
def tw4025555841466695171:=Nat
def tw403005827114782116:=Nat
def tw4086014381855112390:=Nat
def tw4095777012296052077:=Nat
def tw4115659748258352617:=Nat
def tw4171563075562295320:=Nat
def tw4199916073222862744:=Nat
def tw4206919337280330398:=Nat
def tw4292242294971740711:=Nat
def tw4321914070918096446:=Nat
def tw4413659365949834801:=Nat
def tw4433120602851670226:=Nat
def tw4442130919631877637:=Nat
def tw4531494048081566025:=Nat
def tw4551161147414215900:=Nat
def tw4570884564802953373:=Nat
def tw4588070862731112155:=Nat
def tw4733082906101242666:=Nat
def tw4852343155446272693:=Nat
def tw4855377290151105562:=Nat
def tw4891672946000239441:=Nat
def tw4919136677205242045:=Nat
def tw4954112949435346253:=Nat
def tw4964369004025260274:=Nat
def tw5031361328002989731:=Nat
def tw5039405286962163943:=Nat
def tw5042548724654668016:=Nat
def tw5051756496664626075:=Nat
def tw512851448434597432:=Nat
def tw5167206363200705574:=Nat
def tw518259935123468633:=Nat
def tw5283019472146313720:=Nat
def tw5345675105666192151:=Nat
def tw5373145944450362905:=Nat
def tw5383373687736274901:=Nat
def tw5558896498573145480:=Nat
def tw5564997920427685338:=Nat
def tw5601145129086394744:=Nat
def tw5646044717662572477:=Nat
def tw5668975974818816065:=Nat
def tw5686729453318590254:=Nat
def tw5721954591161932780:=Nat
def tw5770067483751861929:=Nat
def tw584528788246532065:=Nat
def tw5921987056588115402:=Nat
def tw6052651923907460435:=Nat
def tw6098083477244305816:=Nat
def tw6145533515502215633:=Nat
def tw616765858112232419:=Nat
def tw6168539573293941868:=Nat
def tw6242579828333028356:=Nat
def tw6460354185996955062:=Nat
def tw6603331852166243298:=Nat
def tw665712373062904347:=Nat
def tw6660931755021438465:=Nat
def tw6707116629781817379:=Nat
def tw6745977429637732009:=Nat
def tw6912573031861035774:=Nat
def tw695027781978522226:=Nat
def tw6952112026532264946:=Nat
def tw6993081571300015068:=Nat
def tw7033495070884999796:=Nat
def tw7077002766246140238:=Nat
def tw7168963836622520534:=Nat
def tw7253845202308429821:=Nat
def tw7359613866307284938:=Nat
def tw739716694473521975:=Nat
def tw7454926012736535053:=Nat
def tw7458739535753889350:=Nat
def tw7514489096086806166:=Nat
def tw7524506029672120187:=Nat
def tw7535191748833755959:=Nat
def tw754845942217775794:=Nat
def tw7560763017283119054:=Nat
def tw7572320114804293904:=Nat
def tw7664336532678922413:=Nat
def tw7666640858156011628:=Nat
def tw7782714338819624710:=Nat
def tw7897847942806421526:=Nat
def tw7959695753070628660:=Nat
def tw8017119624112651667:=Nat
def tw806552859390076894:=Nat
def tw8198145787746973885:=Nat
def tw8254510059518556758:=Nat
def tw8284235013511256298:=Nat
def tw8421805714977432520:=Nat
def tw84219616058852746:=Nat
def tw8427967574507421134:=Nat
def tw8459744684423956534:=Nat
def tw8500252845586017932:=Nat
def tw8556777161237269496:=Nat
def tw8633997549150843143:=Nat
def tw8721482852237799728:=Nat
def tw8981876571606195709:=Nat
def tw9044766030404642075:=Nat
def tw9154328573452497410:=Nat
def tw9183849948134565759:=Nat
def tw9287425636414390077:=Nat
def tw9358130268879038084:=Nat
def tw958208119603800273:=Nat
def tw9600716542209765118:=Nat
def tw9667272007418742278:=Nat
def tw9701099913426388479:=Nat
def tw9770653052656847713:=Nat
def tw9839815466065025963:=Nat
def tw9867317505131964812:=Nat
end PySem.W.Fast
open PySem PySem.W PyProof.Rows
set_option maxRecDepth 100000 in
set_option maxHeartbeats 0 in
theorem PySem.Challenge.cw_pursewright_k03_the_first_wrong_row_holds : PySem.Challenge.rw_pursewright_k03_the_first_wrong_row.Holds := by
 w_on;o_law;k_head;(case hw=>w_witness2)
 k_fill
 refine K03.walk (l:=PySem.Challenge.rw_pursewright_k03_the_first_wrong_row) rfl rfl (fun w h Y=>PySem.W.kIn_of Y) ?F
 case F =>
  intro w mg fa h KX G hmg;refine' K03.all_mk KX G hmg ..
  all_goals try first|refine' L2.DY.of ?_ ?_ ?_ ?_|refine' L2.DM.of ?_ ?_ ?_ ?_ ?_
  all_goals try delta L2.NI L2.LK L2.CI L2.KI L2.NB L2.bS
  all_goals try first|k_is|kernel_rfl|repeat (first|exact .nil|refine .cons ⟨_,rfl⟩ ?_)