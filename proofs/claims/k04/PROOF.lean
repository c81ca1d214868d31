import PyProof.Rows.All
import Wide.All
import OpenK.AllK
import Wide.FinOn
import Lean
import PyProof.EqAt
import PyProof.EqKinds
import PyProof.TupleCall
import PyProof.InstStoreFacts
import PySem.Challenge.RW_pursewright_k04_words_amiss
set_option Elab.async false
set_option linter.all false
set_option maxRecDepth 100000
local macro_rules|`(tactic|symm)=>`(tactic|exact ⟨rfl,rfl,rfl,by decide +kernel,rfl,by decide +kernel,by decide +kernel⟩)
open List renaming mem_singleton→aB,mem_cons_of_mem→aJ,mem_cons_self→di,mem_cons→fH,length_map→gV,getElem?_eq_some_iff→iZ,mem_append→lS,mem_append_right→mu,length_cons→mD,nodup_nil→mE,length_append→oa,mem_append_left→ot,append_nil→qp,getElem?_eq_getElem→rZ,getElem?_map→ti,getElem?_set_ne→ui,size_toArray→u3,getElem?_set_self→u4,map_append→u9,lookup_cons→v9,nodup_cons→xh,length_tail→xi,length_drop→xE,cons_ne_nil→xR,replicate→xU,length_take→x8,nodup_append→ya,mem_of_getElem?→yb,all_eq_true→AE,length_set→AF,contains_cons→AH,append_assoc→AI,getElem?_append_right→CP,tail_drop→CQ,getElem?_append_left→CS,map_cons→E6,length→E7,take_add_one→E8,mem_of_mem_drop→GS,mem_map→Jf,take_length→MJ,drop_eq_nil_of_le→MK,drop_eq_getElem_cons→UO,range→UR,not_mem_nil→U3,mem_of_mem_take→X6,length_reverse→Yg,perm_append_comm_assoc→YE,takeWhile_cons_of_pos→YL,dropWhile_cons_of_pos→YM,takeWhile_cons_of_neg→YN,dropWhile_cons_of_neg→YO,lookup→YQ,flatMap_cons→YR,set_eq_of_length_le→YS,getElem?_replicate→YW,length_eq_zero_iff→YX,mem_flatMap→YY,map_map→Y3,sum_append→Y4,sum_cons→Y5,getElem?_eq_none→Y7,getElem_mem→Zd,cons_append→Ze,any_cons→Zg,mem_filterMap→Zh,ext_getElem→Zq,sublist_nil→Zr,eq_nil_iff_forall_not_mem→Zs,length_nil→Zv,length_zip→Zw,filterMap_cons→Zx,all_map→ZC,mem_range→ZE,sublist_append_right→ZF,map_drop→ZJ,map_take→ZK,any_eq_true→ZN,isEmpty_iff→ZQ,any_map→ZU,append_eq_nil_iff→ZV,map_set→ZX,of_mem_zip→ZZ,getElem?_reverse→Z4,dropLast_concat→Z6,mem_of_mem_tail→Z7,drop_eq_nil_iff→Z9,map_congr_left→aa2
open PySem renaming wpAny_bind→dO,starEach→fx,sizeLine→px,wpAny_pure→u7,wpAny_mono→E5,wpAny_Call_Name_kw→Je,wpAny_call_entry→YZ,sizeLine_eq→Y0,wpAny_holding→Y6,wpAny_newObj_type→Y9,wpAny_setField→Zo,wpAny_typeOf→ZD,PassesOwn→ZR,wpAny_rule→ZY,wpAny_specialOf→Z2,wpAny_updateSeq→Z3,GenState→aa0
open PySem.Heap renaming get?_push_of_some→hL,lt_size→uj,get?_push_size→u0,get?_update_other→Cd,get?_update_self→CT,get?_none_of_le→Fq,size_push→WN,MadeExcOf→Za,SameBut→Zk,get?_update_ne→aa1,ExtBut→aa6
open Option renaming map_eq_some_iff→kf,map_eq_none_iff→WM,isSome_map→ZH,bind_eq_some_iff→ZO,getD_some→ZP
open Nat renaming le_refl→qd,le_trans→u6,lt_of_lt_of_le→wh,le_of_lt→xj,ne_of_lt→AG,zero_le→Fs,lt_irrefl→UP,lt_succ_self→YV,lt_of_le_of_lt→Y1,toDigits→Zn,ne_of_gt→ZA,le_succ_of_le→ZI,min_eq_right→ZL,min_le_right→ZM,le_of_eq→ZS,sub_le→ZT,sub_self→ZW,min_eq_left→Z0,zero_lt_one→Z1,mul_le_mul_right→Z8,lt_trans→aa5
open Bool renaming false_ne_true→r8,and_eq_true→tY,eq_false_iff→E3,true_and→YT,and_false→Zl,or_true→Zm,eq_iff_iff→Zu,false_and→Z5,true_or→aa4
open PySem.Obj renaming data_mapFields→YK,isFreed_of_fields→Y8,mapSeq→Zj,mapFields→Zt
open Array renaming length_toList→YU,getElem?_eq_some_iff→Zb,getElem?_toList→Zp,toList_append→Zy,toList→Zz,find?_toList→aa3
open Int renaming le_trans→Y2,le_refl→Zc,toNat_of_nonneg→Zf,natCast_nonneg→Zi,toNat_natCast→ZG
open Option renaming some→Z,none→Y
open Bool renaming true→O,false→ϊ
open PySem renaming Value→B,Addr→J,Shared→ϋ
def U{α:Sort u}{a:α}:a=a:=rfl
open Lean in
def lp:Nat->Syntax->MacroM (TSyntax `rcasesPat)
|n+1,s=>match s with
 |`(($a,$b,*))=>do let c<-(#[a]++b.getElems).mapM λx=>lp n x;`(rcasesPat|⟨$[$c:rcasesPat],*⟩)
 |`(⟨$a,*⟩)=>do let c<-a.getElems.mapM λx=>lp n x;`(rcasesPat|⟨$[$c:rcasesPat],*⟩)
 |`($x:ident)=>let y:=if x.getId==`U then mkIdent `rfl else x;`(rcasesPat|$y:ident)
 |_=>`(rcasesPat|_)
|_,_=>`(rcasesPat|_)
local macro_rules|`(tactic|let $p:term:=$e)=>do`(tactic|obtain $(<-lp 9 p):rcasesPat:=$e)
local macro_rules|`(($a,$b,*))=>`(⟨$a,$b,*⟩)
open PySem.W renaming Frag→BT
open PySem renaming FuncData→Ch,World→Da,Program→Db,Around→Do,Heap→Ev,Expr→EQ,Stmt→Fk
theorem zrf(h:True=True:=by rfl):True=True:=h
local macro_rules|`(‹$t›)=>`(autoParam $t zrf._auto_1)
noncomputable section
set_option bootstrap.genMatcherCode false
set_option genSizeOf false
set_option genInjectivity false
namespace L2
open PySem PySem.Spec PyProof.Rows
inductive M2{A' B':Type}(P:A'->B'->Prop):Prop
 |mk(a b:_)(_:P a b)
inductive Ea7{A' B' C' D' E' F' G':Type}(P:A'->B'->C'->D'->E'->F'->G'->Prop):Prop
 |mk(a b c d e f g:_)(_:P a b c d e f g)
inductive Ea8{A' B' C' D' E' F' G' H':Type}(P:A'->B'->C'->D'->E'->F'->G'->H'->Prop):Prop
 |mk(a b c d e f g h:_)(_:P a b c d e f g h)
inductive P3{A' B' C':Type}(P:A'->B'->C'->Prop):Prop
 |mk(a b c:_)(_:P a b c)
inductive Q4{A' B' C' D':Type}(P:A'->B'->C'->D'->Prop):Prop
 |mk(a b c d:_)(_:P a b c d)
inductive Ea5{A' B' C' D' E':Type}(P:A'->B'->C'->D'->E'->Prop):Prop
 |mk(a b c d e:_)(_:P a b c d e)
inductive Ea6{A' B' C' D' E' F':Type}(P:A'->B'->C'->D'->E'->F'->Prop):Prop
 |mk(a b c d e f:_)(_:P a b c d e f)
abbrev Key:=Sum Int Str
def yt:Key->B->Bool
 |.inl k,v=>B.isInt k v
 |.inr x,v=>B.isStrOf x v
def X7(w:Da):Key->Int
 |.inl k=>hashInt k
 |.inr x=>hashStr w x
theorem c6:∀{k:Key}{v:B},yt k v=O->(∃i t,k=Sum.inl i/\v=B.int i t)\/(∃x t,k=Sum.inr x/\v=B.str x t)
 |.inl i,v,h=>by
  let(t,e):=B.isInt_shape h;exact .inl (i,t,U,e)
 |.inr x,v,h=>by
  let(t,e):=B.isStrOf_shape h;exact .inr (x,t,U,e)
def Io(i:Int)(t:Tok):yt (.inl i) (.int i t)=true:=by simp[yt,B.isInt]
def Im(x:Str)(t:Tok):yt (.inr x) (.str x t)=true:=by simp[yt,B.isStrOf]
def TK(a b:Int):decide ((Sum.inl a:Key)=Sum.inl b)=(a==b):=by
 by_cases e:a=b
 ·subst e;simp
 ·have h:¬(Sum.inl a:Key)=Sum.inl b:=λq=>e (Sum.inl.inj q)
  rw[decide_eq_false h];exact(beq_eq_false_iff_ne.mpr e).symm
def TB(a b:Str):decide ((Sum.inr a:Key)=Sum.inr b)=decide (a=b):=by
 by_cases e:a=b
 ·simp
 ·have h:¬(Sum.inr a:Key)=Sum.inr b:=λq=>e (Sum.inr.inj q)
  rw[decide_eq_false h,decide_eq_false e]
def TJ(a:Int)(b:Str):decide ((Sum.inl a:Key)=Sum.inr b)=false:=decide_eq_false (λq=>nomatch q)
def TC(a:Str)(b:Int):decide ((Sum.inr a:Key)=Sum.inl b)=false:=decide_eq_false (λq=>nomatch q)
def dZ(prog:Db)(w:Da):PySem.KeyKind prog w Key where
 is:=yt
 hash:=X7 w
 inj:=λv a b ha q=>by
  obtain⟨i,t,rfl,rfl⟩|⟨x,t,rfl,rfl⟩:=c6 ha
  ·obtain⟨j,u,rfl,e⟩|⟨y,u,rfl,e⟩:=c6 q
   ·injection e with g _;rw[g]
   ·exact nomatch e
  ·obtain⟨j,u,rfl,e⟩|⟨y,u,rfl,e⟩:=c6 q
   ·exact nomatch e
   ·injection e with g _;rw[g]
 byValue:=λk v h=>by
  obtain⟨i,t,rfl,rfl⟩|⟨x,t,rfl,rfl⟩:=c6 h <;> rfl
 pyHash:=λhv h=>by
  obtain⟨i,t,rfl,rfl⟩|⟨x,t,rfl,rfl⟩:=c6 hv
  ·exact wpAny_pyHash_int h
  ·exact wpAny_pyHash_str h
 eqBool:=λz hv h=>by
  obtain⟨i,t,rfl,rfl⟩|⟨x,t,rfl,rfl⟩:=c6 z
  ·obtain⟨j,u,rfl,rfl⟩|⟨y,u,rfl,rfl⟩:=c6 hv
   ·rw[TK]at h;exact wpAny_eqBool_int h
   ·rw[TJ]at h;exact SeqAt.EqAt.int_str i t y u _ _ _ _ h
  ·obtain⟨j,u,rfl,rfl⟩|⟨y,u,rfl,rfl⟩:=c6 hv
   ·rw[TC]at h;exact SeqAt.EqAt.str_int x t j u _ _ _ _ h
   ·rw[TB]at h;exact wpAny_eqBool_str h
 «strs»:=λk x t v h=>by
  obtain⟨i,u,rfl,e⟩|⟨y,u,rfl,e⟩:=c6 h
  ·exact nomatch e
  ·injection e with g _
   subst g;cases v <;> rfl
def BV(prog:Db)(w:Da)(i:Int)(t:Tok):(dZ prog w).is (.inl i) (.int i t)=true:=Io i t
def BU(prog:Db)(w:Da)(x:Str)(t:Tok):(dZ prog w).is (.inr x) (.str x t)=true:=Im x t
set_option genInjectivity true in
inductive V where
 |non|bl (b:Bool)|int (i:Int)|str (x:Str)|byt (b:Array UInt8)|flt (b:UInt64)|ref (a:J)|ty (n:String)
 deriving DecidableEq
def RelV:V->B->Prop
 |.non,u=>u=B.none
 |.bl b,u=>u=B.bool b
 |.int i,u=>∃t,u=B.int i t
 |.str x,u=>∃t,u=B.str x t
 |.byt b,u=>∃t,u=B.bytes b t
 |.flt b,u=>∃t,u=B.float b t
 |.ref a,u=>u=B.ref a
 |.ty n,u=>u=B.type n
abbrev Vals:List V->List B->Prop:=Paired RelV
theorem Vals.length{xs:List V}{us:List B}(r:Vals xs us):xs.length=us.length:=Paired.length r
theorem Vals.get:∀{xs:List V}{us:List B}{i:Nat}{x:V},Vals xs us->xs[i]?=Z x->∃u,us[i]?=Z u/\RelV x u
 |_,_,_,_,.nil,e=>by simp at e
 |_,_,0,_,.cons r _,e=>by simp at e;subst e;exact(_,U,r)
 |_,_,i+1,x,.cons _ t,e=>by
  let(u,h1,h2):=Vals.get t (by simpa using e)
  exact(u,by simpa using h1,h2)
theorem Vals.set{x:V}{u:B}(r:RelV x u):∀{xs:List V}{us:List B}(i:Nat),Vals xs us->Vals (xs.set i x) (us.set i u)
 |_,_,_,.nil=>.nil
 |_,_,0,.cons _ t=>.cons r t
 |_,_,i+1,.cons q t=>.cons q (Vals.set r i t)
variable{xs:List V}{ys:List V}{us:List B}
def Vals.append{ws:List B}(h:Vals xs us)(s:Vals ys ws):Vals (xs++ys) (us++ws):=by
 induction h with
 |nil=>exact s
 |cons r _ g=>exact .cons r g
theorem Vals.take:∀{xs:List V}{us:List B}(n:Nat),Vals xs us->Vals (xs.take n) (us.take n)
 |_,_,0,_=>.nil
 |_,_,_+1,.nil=>.nil
 |_,_,n+1,.cons r t=>.cons r (Vals.take n t)
theorem Vals.drop:∀{xs:List V}{us:List B}(n:Nat),Vals xs us->Vals (xs.drop n) (us.drop n)
 |_,_,0,r=>r
 |_,_,_+1,.nil=>.nil
 |_,_,n+1,.cons _ t=>Vals.drop n t
def lR:Option V->Option B->Prop
 |some v,Z u=>RelV v u
 |none,Y=>True
 |_,_=>False
def KV{κ:Type}:List (κ×V)->List (κ×B)->Prop:=Paired λ(p:κ×V)(q:κ×B)=>p.1=q.1/\RelV p.2 q.2
def kV:Key->V
 |.inl i=>.int i
 |.inr x=>.str x
inductive HO where
 |lst(xs:List V)
 |tup(xs:List V)
 |dK(kvs:List (Key×V))|dT (kvs:List (List Key×V))
 |set(S:Int->Bool)(n:Nat)
 |ins(C dx:J)(fs:List (Str×V))
 |own(x:J)
 |xd(fs:List (Str×V))
 |room(x:Int)
 |met(f x:J)
 |rng(lo hi:Int)
 |frz(o:Obj)(u:HO)
 |tbl(ps:Array B)
 |ext(φ:Ev->Prop)
abbrev Hp:=J->Option HO
def upd(H:Hp)(a:J)(o:HO):Hp:=λb=>if b=a then Z o else H b
variable{H:Hp}{a:J}
def aC{o:HO}:upd H a o a=Z o:=by unfold upd;rw[if_pos rfl]
def aw{b:J}{o:HO}(h:b≠a):upd H a o b=H b:=by unfold upd;rw[if_neg h]
def en{b:J}{o u:HO}(h:H a=Z o)(h':H b=Z u)(d:o≠u):a≠b:=by
 intro e;subst e;rw[h]at h';exact d (Option.some.inj h')
def aX{b:J}{o:HO}(h:H a=Z o)(h':H b=Y):a≠b:=by
 intro e;subst e;rw[h]at h';cases h'
def tW(h:Ev)(a:J)(items:Array B):Prop:=IsTup h a items/\∃o,h.get? a=Z o/\o.dict=Y
theorem tW.new(h:Ev)(items:Array B):tW (h.push {cls:=.type "tuple",data:=.seq items}) h.objs.size items:=(IsTup.new _ _,_,u0 _ U,U)
section
variable(P:Db)(w:Da)
def dm(H:Hp)(h:Ev)(a:J):HO->Prop
 |.lst xs=>xs.length<=px/\∃(its:List B)(n:Nat),Vals xs its/\h.get? a=Z {cls:=.type "list",data:=.seq its.toArray n}
 |.tup xs=>xs.length<=px/\∃its:List B,Vals xs its/\tW h a its.toArray
 |.dK kvs=>kvs.length<=px/\(a==sysModules)=ϊ/\∃vs,KV kvs vs/\h.DictOf (dZ P w) a vs
 |.dT kvs=>kvs.length<=px/\(a==sysModules)=ϊ/\∃xs:List (List Key×J×B),
   Paired (λ(p:List Key×V)(q:List Key×J×B)=>p.1=q.1/\H q.2.1=Z (.tup (p.1.map kV))/\RelV p.2 q.2.2) kvs xs /\
   ∃o es g,h.get? a=Z o/\o.ExactDict/\o.data=.dict es g/\es.toList=xs.map (entryOfKey (tupleKind (dZ P w)))/\(xs.map (·.1)).Nodup
 |.set S n=>h.SetOf (intKind P w) a S n
 |.ins C dx fs=>H dx=Z (.own a)/\fs.length<=1000/\dx≠a/\h.get? a=Z (W.instObj C dx) /\
   ∃mA,h.Ns1 dx mA/\(∀f,lR (fs.lookup f) (mA f))/\PySem.Within mA (fs.map (·.1))
 |.own _=>∃o,h.get? a=Z o
 |.xd fs=>∃mA,h.Ns1 a mA/\∀f,lR (fs.lookup f) (mA f)
 |.room x=>∃(its:List B)(n:Nat),Vals [.int x] its/\h.get? a=Z {cls:=.type "list",data:=.seq its.toArray n}
 |.rng lo hi=>∃t u v,h.get? a=Z {cls:=.type "range",data:=.fields #[.int lo t,.int hi u,.int 1 v]}
 |.frz o u=>h.get? a=Z o/\dm H h a u
 |.tbl ps=>h.get? a=Z {cls:=.none,data:=.fields ps}
 |.met f x=>h.get? a=Z (W.methodObj (.ref f) (.ref x))
 |.ext φ=>φ h/\(∃o,h.get? a=Z o)/\∀h1 h2:Ev,φ h1->(∀o,h1.get? a=Z o->h2.get? a=Z o)->φ h2
def HOk(H:Hp)(h:Ev):Prop:=∀a o,H a=Z o->dm P w H h a o
end
section
variable{P:Db}{w:Da}{H':Hp}{h h':Ev}{o:HO}
theorem dm.lt(x:dm P w H h a o):a<h.objs.size:=by
 cases o with
 |lst xs=>let(_,_,_,_,e):=x;exact uj e
 |tup xs=>let(_,_,_,p):=x;exact p.1.lt
 |dK kvs=>let(_,_,_,_,o,_,_,e,_):=x;exact uj e
 |dT kvs=>let(_,_,_,_,o,_,_,e,_):=x;exact uj e
 |set S n=>let(o,_,_,_,e,_):=x;exact uj e
 |ins C dx fs=>let(_,_,_,e,_):=x;exact uj e
 |own y=>let(_,e):=x;exact uj e
 |xd fs=>let(_,(_,_,_,e,_),_):=x;exact uj e
 |room g=>let(_,_,_,e):=x;exact uj e
 |rng lo hi=>let(_,_,_,e):=x;exact uj e
 |frz ob u=>let(e,_):=x;exact uj e
 |tbl ps=>exact uj (x)
 |met f y=>exact uj (x)
 |ext φ=>let(_,(_,e),_):=x;exact uj e
def Paired.Wj{α β:Type}{F G:α->β->Prop}{l₁:List α}{g:List β}(r:Paired F l₁ g)(f:∀a b,F a b->G a b):Paired G l₁ g:=by
 induction r with
 |nil=>exact .nil
 |cons r _ q=>exact .cons (f _ _ r) q
def dm.d9(x:dm P w H h a o)(k:∀b u,(b=a\/H b=Z (.own a))->h.get? b=Z u->h'.get? b=Z u)
  (ho:∀b,H b=Z (.own a)->H' b=Z (.own a)) (V:∀b xs,H b=Z (.tup xs)->H' b=Z (.tup xs)):dm P w H' h' a o:=by
 induction o with
 |lst xs=>let(z,its,n,r,e):=x;exact(z,its,n,r,k _ _ (.inl U) e)
 |tup xs=>let(z,its,r,(ob,e,c),o2,K,d2):=x;exact(z,its,r,(ob,k _ _ (.inl U) e,c),o2,k _ _ (.inl U) K,d2)
 |dK kvs=>let(z,y,vs,r,ob,es,g,e,c):=x;exact(z,y,vs,r,ob,es,g,k _ _ (.inl U) e,c)
 |dT kvs =>
  let(z,y,xs,r,ob,es,g,e,c):=x;exact(z,y,xs,Paired.Wj r λp q z=>(z.1,V _ _ z.2.1,z.2.2),ob,es,g,k _ _ (.inl U) e,c)
 |set S n=>let(ob,es,g,t,e,c):=x;exact(ob,es,g,t,k _ _ (.inl U) e,c)
 |ins C dx fs =>
  let(d,z,ne,e,mA,(od,es,g,K,c),r):=x;exact(ho _ d,z,ne,k _ _ (.inl U) e,mA,(od,es,g,k _ _ (.inr d) K,c),r)
 |own y=>let(ob,e):=x;exact(ob,k _ _ (.inl U) e)
 |xd fs=>let(mA,(od,es,g,e,c),r):=x;exact(mA,(od,es,g,k _ _ (.inl U) e,c),r)
 |room x'=>let(t,u,v,e):=x;exact(t,u,v,k _ _ (.inl U) e)
 |rng lo hi=>let(t,u,v,e):=x;exact(t,u,v,k _ _ (.inl U) e)
 |frz ob u Q=>let(e,q):=x;exact(k _ _ (.inl U) e,Q q)
 |tbl ps =>
  have e:=x;exact k a _ (.inl U) e
 |met f y =>
  have e:=x;exact k a _ (.inl U) e
 |ext φ=>let(p,(o,e),st):=x;exact(st _ _ p λo q=>k _ _ (.inl U) q,(o,k _ _ (.inl U) e),st)
theorem HOk.lt(x:HOk P w H h)(e:H a=Z o):a<h.objs.size:=(x a o e).lt
def HOk.fresh(x:HOk P w H h)(e:h.objs.size<=a):H a=none:=by
 cases q:H a with
 |none=>rfl
 |some u=>exact absurd (wh (x.lt q) e) (UP _)
def HOk.kept(x:HOk P w H h)(k:∀b u,h.get? b=Z u->h'.get? b=Z u):HOk P w H h':=λa o e =>
 (x a o e).d9 (λb u _ q=>k b u q) (λ_ q=>q) λ_ _ q=>q
def HOk.laid(x:HOk P w H h)(k:∀b u,h.get? b=Z u->h'.get? b=Z u)(hp:h.objs.size<=a)(new:dm P w (upd H a o) h' a o):HOk P w (upd H a o) h':=λb u e=>by
 have hn:=x.fresh hp;by_cases g:b=a
 ·subst g;rw[aC]at e;cases e;exact new
 ·rw[aw g]at e;exact(x b u e).d9 (λc v _ q=>k c v q) (λc q=>by rw[aw (aX q hn)];exact q) λc xs q=>by rw[aw (aX q hn)];exact q
end
def Rd(H:Hp)(a:J)(u:HO):Prop:=H a=Z u\/∃o,H a=Z (.frz o u)
def Rd.ok{P:Db}{w:Da}{H:Hp}{h:Ev}{a:J}{u:HO}(r:Rd H a u)(x:HOk P w H h):dm P w H h a u:=by
 obtain r |⟨o,r⟩:=r
 ·exact x a u r
 ·let(_,q):=x a _ r;exact q
def Mut:Option HO->Prop
 |some (.lst _)=>True
 |some (.dK _)=>True
 |some (.dT _)=>True
 |some (.set _ _)=>True
 |some (.ins _ _ _)=>True
 |some (.ext _)=>True
 |some (.room _)=>True
 |_=>False
section
variable{P:Db}{w:Da}{h h':Ev}{x e:J}{o':HO}
def HOk.write(ok:HOk P w H h)(K:Mut (H x))(he:e=x\/H e=Z (.own x))(k:∀b u,b≠e->h.get? b=Z u->h'.get? b=Z u)(ah:∃u,h'.get? e=Z u)
  (new:dm P w (upd H x o') h' x o'):HOk P w (upd H x o') h':=λb u q=>by
 have V7:∀c y,H c=Z (.own y)->c≠x:=λc y r z=>by subst z;rw[r]at K;exact K
 have XX:∀c xs,H c=Z (.tup xs)->c≠x:=λc xs r z=>by subst z;rw[r]at K;exact K
 by_cases V:b=x
 ·subst V;rw[aC]at q;cases q;exact new
 ·rw[aw V]at q;by_cases g:b=e
  ·have q':H b=Z (.own x):=by
    obtain z|z:=he
    ·exact absurd (g.trans z) V
    ·rw[g];exact z
   rw[q]at q';cases q';let(v,hv):=ah;exact(v,by rw[g];exact hv)
  ·refine(ok b u q).d9 (λc v Q r=>k c v ?_ r) (λc r=>by rw[aw (V7 c b r)];exact r) λc xs r=>by rw[aw (XX c xs r)];exact r
   obtain rfl|Q:=Q
   ·exact g
   ·rintro rfl
    obtain z|z:=he
    ·exact V7 c b Q z
    ·rw[Q]at z;cases z;exact V U
end
structure Un(fs ex:List J)(H H':Hp)(h h':Ev):Prop where
 keep:∀b o,h.get? b=Z o->H b=Y->b ∉ fs->b ∉ ex->h'.get? b=Z o
 slot:∀b o,h.get? b=Z o->H b=Y->b∈fs->b ∉ ex->∃sl,h'.get? b=Z {o with slots:=sl}
 free:∀b o,h.get? b=Z o->H b=Y->b ∉ ex->H' b=Y
 there:∀b o,h.get? b=Z o->b ∉ ex->∃o',h'.get? b=Z o'
 su:∀b xs,H b=Z (.tup xs)->H' b=Z (.tup xs)
 pO:∀b o u,H b=Z (.frz o u)->H' b=Z (.frz o u)
 sx:∀b ps,H b=Z (.tbl ps)->∃more,H' b=Z (.tbl (ps++more))
section
variable{fs ex:List J}{H1:Hp}{h h1 h':Ev}{x e:J}{o:HO}
def Un.any(u:Un fs ex H H1 h h1){b:J}{ob:Obj}(q:h.get? b=Z ob)(n:H b=Y)(hx:b ∉ ex):∃sl,h1.get? b=Z {ob with slots:=sl}:=by
 by_cases g:b∈fs
 ·exact u.slot b ob q n g hx
 ·exact(ob.slots,u.keep b ob q n g hx)
def Un.kept(k:∀b u,h.get? b=Z u->h'.get? b=Z u):Un fs ex H H h h' :=
 (λb ob q _ _ _=>k b ob q,λb ob q _ _ _=>(ob.slots,k b ob q),λ_ _ _ n _=>n,λb ob q _=>(ob,k b ob q),λ_ _ q=>q,λ_ _ _ q=>q,λ_ ps q=>(#[],by rw[q];simp))
def Un.refl:Un fs ex H H h h:=Un.kept λ_ _ q=>q
def Un.laid(k:∀b u,h.get? b=Z u->h'.get? b=Z u)(hp:h.objs.size<=a)(hn:H a=Y):Un fs ex H (upd H a o) h h' where
 keep:=λb u q _ _ _=>k b u q
 slot:=λb u q _ _ _=>(u.slots,k b u q)
 free:=λb u q n _=>by rw[aw (AG (wh (uj q) hp))];exact n
 there:=λb u q _=>(u,k b u q)
 su:=λb xs q=>by rw[aw (aX q hn)];exact q
 pO:=λb u xs q=>by rw[aw (aX q hn)];exact q
 sx:=λb ps q=>(#[],by rw[aw (aX q hn),q];simp)
def Un.write(K:Mut (H x))(he:e=x\/H e=Z (.own x))(k:∀b u,b≠e->h.get? b=Z u->h'.get? b=Z u)(P:∃u,h'.get? e=Z u):Un fs ex H (upd H x o) h h':=by
 have hx:∀b,H b=Y->b≠x:=λb n z=>by subst z;rw[n]at K;exact K
 have Q:∀b,H b=Y->b≠e:=λb n z=>by
  subst z;obtain r|r:=he
  ·exact hx b n r
  ·rw[n]at r;cases r
 have hm:∀b u,H b=Z u->¬ Mut (Z u)->b≠x:=λb u q nm z=>by subst z;rw[q]at K;exact nm K
 refine(λb u q n _ _=>k b u (Q b n) q,λb u q n _ _=>(u.slots,k b u (Q b n) q),λb u q n _=>by rw[aw (hx b n)];exact n,λb u q _=>?_,
  λb xs q=>by rw[aw (hm b _ q λz=>z)];exact q,λb u xs q=>by rw[aw (hm b _ q λz=>z)];exact q,λb ps q=>(#[],by rw[aw (hm b _ q λz=>z),q];simp))
 by_cases g:b=e
 ·subst g;exact P
 ·exact(u,k b u g q)
end
def trk(h:Ev)(H:Hp):List Addr:=(UR h.objs.size).filter λa=>(H a).isSome
def Ce(h:Ev)(H:Hp):Ev:=W.hideAll h (trk h H)
theorem IA(h:Ev)(H:Hp):(Ce h H).objs.size=h.objs.size:=W.hideAll_size _ _
theorem LO{h:Ev}{b:J}{o:Obj}(e:h.get? b=Z o)(n:H b=Y):(Ce h H).get? b=Z o :=
 W.hideAll_get _ e λhm=>by
  have q:=(List.mem_filter.mp hm).2;rw[n]at q;simp at q
theorem OQ{h:Ev}{b:J}{o:Obj}(e:(Ce h H).get? b=Z o):h.get? b=Z o/\H b=none:=by
 have g:=W.of_hideAll (trk h H) e;refine(g,?_);cases q:H b with
 |none=>rfl
 |some x =>
  have hm:b∈trk h H:=List.mem_filter.mpr (ZE.mpr (uj g),by simp[q])
  have z:(Ce h H).get? b=none:=W.hideAll_none (trk h H) hm;rw[z]at e;cases e
structure Mod(K:BT)(mg:Str->Option B)(base:Ev):Prop where
 kin:K.In base
 glob:base.Ns mainGlobals mg
 blt:∃mb,base.Ns builtinsNs mb/\∀x:Str,x ≠ "__name__"->mb x=bootBuiltins x
 nolimit:base.NoLimit
structure Cx where
 prog:Db
 w:Da
 K:BT
 mg:Str->Option B
 base:Ev
 A:Do
 N:List Str
 s₀:ϋ
 H₀:Hp
 env:Env
 outer:List Env
 stack:List Env
 ex:List J
 fn:Str->Bool
 calm:Bool
 pn:List (J×Obj)
 xe:B->ϋ->Prop
abbrev XV(X:Cx){α:Type}:=@wpAny α (model X.prog X.w) X.A
def frs(l:List Env):List Addr:=l.filterMap (·.frame)
abbrev Cx.fs(X:Cx):List Addr:=frs X.outer
def Vis(sc:Scope)(x:Str):Prop:=sc.names.lookup x=Z .local\/sc.names.lookup x=Z .cell\/sc.names.lookup x=Z .free
def Loc(sc:Scope)(x:Str):Prop:=sc.names.lookup x=Z .local\/sc.names.lookup x=Z .cell
def Look(env:Env)(h:Ev)(m:Str->Option B)(x:Str)(u:B):Prop :=
 (env.kindOf x=Z .local/\m x=Z u)\/((env.kindOf x=Z .cell\/env.kindOf x=Z .free)/\∃c,env.cells.lookup x=Z c/\h.IsCell c (Z u))
structure Cx.Ok(X:Cx):Prop where
 mod:Mod X.K X.mg X.base
 kind:X.env.scope.kind=.function
 glob:X.env.globals=mainGlobals
 blt:X.env.builtins=builtinsNs
 above:X.s₀.heap.objs.size<=X.env.locals
 inj:∀x y c,X.env.cells.lookup x=Z c->X.env.cells.lookup y=Z c->x=y
 has:∀x,(X.env.kindOf x=Z .cell\/X.env.kindOf x=Z .free)->∃c,X.env.cells.lookup x=Z c
 cab:∀x c,X.fn x=O->X.env.cells.lookup x=Z c->X.s₀.heap.objs.size<=c
 hd:X.calm=O->X.A.handled=Y
 frames:X.A.frames=Z X.stack
 stk:X.stack=X.outer\/(X.stack=X.env::X.outer/\X.env.frame=Z X.env.locals)
 exf:∀b∈X.ex,b≠X.env.locals/\∀x c,X.env.cells.lookup x=Z c->c≠b
 bs:∀b o,X.base.get? b=Z o->X.s₀.heap.get? b=Z o/\X.H₀ b=Y
 bsz:X.base.objs.size<=X.s₀.heap.objs.size
 Ee:∀b o,X.base.get? b=Z o->b ∉ X.ex
 IF:∀b∈X.ex,b ∉ X.fs
 oo:X.s₀.heap.FunFrames X.base X.outer
 frf:∀b∈X.fs,X.H₀ b=Y
structure Inv(X:Cx)(gd:List (J×Obj))(σ:List (Option V))(H:Hp)(s:ϋ):Prop where
 ok:X.Ok
 os:s.os=X.s₀.os
 bare:AllBare s.gens
 base:Un X.fs X.ex X.H₀ H X.s₀.heap s.heap
 loc:∃m,s.heap.Ns X.env.locals m/\∀(i:Nat)(x:Str)(v:V),X.N[i]?=Z x->σ[i]?=Z (Z v)->Vis X.env.scope x->∃u,RelV v u/\Look X.env s.heap m x u
 cell:∀x c,X.env.cells.lookup x=Z c->∃v,s.heap.IsCell c v
 free:H X.env.locals=Y
 iL:∀x c,X.env.cells.lookup x=Z c->H c=Y
 pin:∀p∈X.pn++gd,s.heap.get? p.1=Z p.2/\H p.1=Y/\p.1≠X.env.locals/\p.1 ∉ X.fs/\∀v,p.2.data ≠ .cell v
 hok:HOk X.prog X.w H s.heap
 len:σ.length=X.N.length
variable{ch:List J}{t':Nat}{it:J}{N:List Str}{i:Nat}{j:Nat}{x:Str}{u:B}{s':ϋ}
section
variable{X:Cx}{gd:List (J×Obj)}{σ:List (Option V)}{H':Hp}{s:ϋ}{h':Ev}
def Cx.Ok.XZ(ok:X.Ok){b:J}{o:Obj}(e:X.base.get? b=Z o):b ∉ X.fs:=λg=>by
 have:=(ok.oo.mem g).1
 rw[e]at this;cases this
theorem Inv.bs(I:Inv X gd σ H s):∀b o,X.base.get? b=Z o->s.heap.get? b=Z o/\H b=none:=λb o e =>
 (I.base.keep b o (I.ok.bs b o e).1 (I.ok.bs b o e).2 (I.ok.XZ e) (I.ok.Ee b o e),I.base.free b o (I.ok.bs b o e).1 (I.ok.bs b o e).2 (I.ok.Ee b o e))
def Inv.bk(I:Inv X gd σ H s):∀b o,X.base.get? b=Z o->s.heap.get? b=Z o:=λb o e=>(I.bs b o e).1
theorem Inv.mod(I:Inv X gd σ H s):Mod X.K X.mg X.base:=I.ok.mod
def Inv.kIn(I:Inv X gd σ H s):X.K.In s.heap:=I.ok.mod.kin.keeps I.bk
theorem Inv.lt(I:Inv X gd σ H s):X.env.locals<s.heap.objs.size:=let(_,hn,_):=I.loc;hn.lt
def Inv.sz(I:Inv X gd σ H s):X.s₀.heap.objs.size<=s.heap.objs.size:=u6 I.ok.above (xj I.lt)
def Inv.Wd(I:Inv X gd σ H s)(h:s.heap.objs.size<=a):a ∉ X.fs:=λg=>by
 let(_,o,ho,_):=I.ok.oo.mem g;exact absurd (wh (uj ho) (u6 I.sz h)) (UP _)
def Inv.cne(I:Inv X gd σ H s):∀x c,X.env.cells.lookup x=Z c->c≠X.env.locals:=λx c e z=>by
 let(v,o,ho,hd):=I.cell x c e;let(m,(o',es,K,g,q,_),_):=I.loc;rw[z,g]at ho;cases ho;rw[q]at hd;cases hd
theorem Inv.oo(I:Inv X gd σ H s):s.heap.FunFrames X.base X.outer:=by
 have all:∀l,(∀b∈frs l,b∈X.fs)->X.s₀.heap.FunFrames X.base l->s.heap.FunFrames X.base l:=by
  intro l
  induction l with
  |nil=>intro _ _;trivial
  |cons env r K =>
   intro hs hl;let(P,(L,o,hf,hn,ho,hd),hr):=hl;have q:=hs L (by unfold frs;rw[Zx,hf];exact di)
   let(sl,e):=I.base.slot L o ho (I.ok.frf L q) q λz=>I.ok.IF L z q
   exact(P,(L,_,hf,hn,e,hd),K (λb g=>hs b (by unfold frs;rw[Zx,hf];exact aJ _ g)) hr)
 exact all X.outer (λ_ g=>g) I.ok.oo
theorem Inv.stack(I:Inv X gd σ H s):s.heap.FunFrames X.base X.stack:=by
 obtain e |⟨e,hf⟩:=I.ok.stk
 ·rw[e];exact I.oo
 ·rw[e];let(m,hn,_):=I.loc;exact .cons (by rw[I.ok.kind];decide) hf hn (Fq (u6 I.ok.bsz I.ok.above)) I.oo
def Inv.sD(I:Inv X gd σ H s):∀b∈frs X.stack,b∈X.env.locals::X.fs:=λb g=>by
 obtain e |⟨e,hf⟩:=I.ok.stk
 ·rw[e]at g;exact aJ _ g
 ·rw[e]at g;unfold frs at g;rw[Zx,hf]at g;exact g
def Inv.nK(I:Inv X gd σ H s):∀b∈frs X.stack,H b=none:=λb g=>by
 obtain e|g:=fH.mp (I.sD b g)
 ·rw[e];exact I.free
 ·let(_,o,ho,_):=I.ok.oo.mem g;exact I.base.free b o ho (I.ok.frf b g) λz=>I.ok.IF b z g
def Inv.step{g':Array aa0}{t':Nat}{d':Drawn}(I:Inv X gd σ H s)
  (K:∀b∈ch,(b∈X.ex\/X.s₀.heap.objs.size<=b)/\b≠X.env.locals/\(∀x c,X.env.cells.lookup x=Z c->c≠b)/\∀p∈X.pn++gd,p.1≠b)
  (keep:∀b o,b≠X.env.locals->b ∉ X.fs->b ∉ ch->s.heap.get? b=Z o->H b=Y->h'.get? b=Z o)
  (slot:∀b o,b≠X.env.locals->b∈X.fs->b ∉ ch->s.heap.get? b=Z o->H b=Y->∃sl,h'.get? b=Z {o with slots:=sl}) (free:∀b o,b ∉ ch->s.heap.get? b=Z o->H b=Y->H' b=Y)
  (there:∀b o,b ∉ ch->s.heap.get? b=Z o->∃o',h'.get? b=Z o')
  (su:∀b xs,H b=Z (.tup xs)->H' b=Z (.tup xs)) (pO:∀b o u,H b=Z (.frz o u)->H' b=Z (.frz o u)) (sx:∀b ps,H b=Z (.tbl ps)->∃more,H' b=Z (.tbl (ps++more)))
  (ns:∀m,s.heap.Ns X.env.locals m->h'.Ns X.env.locals m) (hok:HOk X.prog X.w H' h') (hg:AllBare g'):
  Inv X gd σ H' {s with heap:=h',gens:=g',drawn:=d',toks:=t'}:=by
 have ah:∀b o,X.s₀.heap.get? b=Z o->b≠X.env.locals:=λb o e=>AG (wh (uj e) I.ok.above)
 have P:∀b o,X.s₀.heap.get? b=Z o->b ∉ X.ex->b ∉ ch:=λb o e hx V=>by
  obtain z|z:=(K b V).1
  ·exact hx z
  ·exact absurd (wh (uj e) z) (UP _)
 have cellK:∀x c,X.env.cells.lookup x=Z c->∀v,s.heap.IsCell c v->h'.IsCell c v:=λx c e v (o,ho,hd)=>by
  have g:=λz=>(K c z).2.2.1 x c e U
  by_cases hc:c∈X.fs
  ·let(sl,q):=slot c o (I.cne x c e) hc g ho (I.iL x c e);exact(_,q,hd)
  ·exact(o,keep c o (I.cne x c e) hc g ho (I.iL x c e),hd)
 refine(I.ok,I.os,hg,(λb o e n V hx=>?_,λb o e n V hx=>?_,λb o e n hx=>?_,λb o e hx=>?_,λb xs e=>su b xs (I.base.su b xs e),λb o xs e=>pO b o xs (I.base.pO b o xs e),λb ps e=>?_),?_,λx c e=>?_,?_,λx c e=>?_,λp hp=>?_,hok,I.len)
 ·exact keep b o (ah b o e) V (P b o e hx) (I.base.keep b o e n V hx) (I.base.free b o e n hx)
 ·let(sl,Q):=I.base.slot b o e n V hx;let(ak,e2):=slot b _ (ah b o e) V (P b o e hx) Q (I.base.free b o e n hx);exact(ak,e2)
 ·let(o',Q):=I.base.there b o e hx;exact free b o' (P b o e hx) Q (I.base.free b o e n hx)
 ·let(o',Q):=I.base.there b o e hx;exact there b o' (P b o e hx) Q
 ·let(m1,Q):=I.base.sx b ps e;let(m2,e2):=sx b _ Q;exact(m1++m2,by rw[e2,Array.append_assoc])
 ·let(m,hn,hl):=I.loc;refine(m,ns m hn,λi x v Q e2 e3=>?_)
  let(u,r,l):=hl i x v Q e2 e3;refine(u,r,?_);obtain l |⟨k,c,e,z⟩:=l
  ·exact .inl l
  ·exact .inr (k,c,e,cellK x c e _ z)
 ·let(v,z):=I.cell x c e;exact(v,cellK x c e v z)
 ·let(m,(o,_,_,ho,_),_):=I.loc;exact free _ o (λz=>(K _ z).2.1 U) ho I.free
 ·let(v,o,ho,hd):=I.cell x c e;exact free c o (λz=>(K c z).2.2.1 x c e U) ho (I.iL x c e)
 ·let(e,n,ne,nf,d):=I.pin p hp;have g:=λz=>(K p.1 z).2.2.2 p hp U
  exact(keep p.1 p.2 ne nf g e n,free p.1 p.2 g e n,ne,nf,d)
def Inv.un(I:Inv X gd σ H s)(u:Un X.fs [] H H' s.heap h')(hok:HOk X.prog X.w H' h'):Inv X gd σ H' {s with heap:=h',toks:=t'}:=by
 let(m,(o,es,V,ho,r),_):=id I.loc;let(sl,Q):=u.any ho I.free (by simp)
 exact I.step (ch:=[]) (λ_ z=>nomatch z) (λb o _ q _ e n=>u.keep b o e n q (by simp)) (λb o _ q _ e n=>u.slot b o e n q (by simp)) (λb o _ e n=>u.free b o e n (by simp)) (λb o _ e=>u.there b o e (by simp)) u.su u.pO u.sx (λm' hm=>by
  let(o',K,P,g,r'):=hm;rw[ho]at g;cases g;exact(_,K,P,Q,r')) hok I.bare
def Inv.call{g':Array aa0}{d':Drawn}(I:Inv X gd σ H s)(u:Un (frs X.stack) ch H H' s.heap h')(hok:HOk X.prog X.w H' h')(hg:AllBare g')
  (K:∀b∈ch,(b∈X.ex\/X.s₀.heap.objs.size<=b)/\b≠X.env.locals/\(∀x c,X.env.cells.lookup x=Z c->c≠b)/\∀p∈X.pn++gd,p.1≠b):
  Inv X gd σ H' {s with heap:=h',gens:=g',drawn:=d',toks:=t'}:=by
 let(m,(o,es,ep,ho,r),_):=id I.loc;let(sl,P):=u.any ho I.free λz=>(K _ z).2.1 U
 exact I.step K (λb o P hb g e n=>u.keep b o e n (λz=>(fH.mp (I.sD b z)).elim P hb) g) (λb o _ _ g e n=>u.any e n g) (λb o g e n=>u.free b o e n g) (λb o g e=>u.there b o e g) u.su u.pO u.sx (λm' hm=>by
  let(o',Q,V,q,r'):=hm;rw[ho]at q;cases q;exact(_,Q,V,P,r')) hok hg
def Inv.turned(I:Inv X gd σ H s)(k:∀b o,b≠it->s.heap.get? b=Z o->h'.get? b=Z o)(hn:H it=Y)(P:it≠X.env.locals)
  (h1:it∈X.ex\/X.s₀.heap.objs.size<=it) (h2:∀x c,X.env.cells.lookup x=Z c->c≠it) (h3:∀p∈X.pn++gd,p.1≠it):Inv X gd σ H {s with heap:=h',toks:=t'}:=by
 have K:∀b u,H b=Z u->b≠it:=λb u e z=>by rw[z,hn]at e;cases e
 refine I.step (ch:=[it]) (λb Q=>?_) (λb o _ _ g e _=>k b o (λz=>g (by simp[z])) e) (λb o _ _ g e _=>(o.slots,k b o (λz=>g (by simp[z])) e)) (λ_ _ _ _ n=>n)
  (λb o g e=>(o,k b o (λz=>g (by simp[z])) e)) (λ_ _ e=>e) (λ_ _ _ e=>e) (λb ps e=>(#[],by rw[e];simp)) (λm hm=>?_) (λb u e=>?_) I.bare
 ·have e:=by simpa using Q
  subst e;exact(h1,P,h2,h3)
 ·let(o,es,V,ho,r):=hm;exact(o,es,V,k _ o (Ne.symm P) ho,r)
 ·refine(I.hok b u e).d9 (λc v g q=>k c v ?_ q) (λ_ q=>q) λ_ _ q=>q
  obtain z|z:=g
  ·rw[z];exact K b u e
  ·exact K c _ z
def Inv.tok(I:Inv X gd σ H s)(t:Nat):Inv X gd σ H {s with toks:=t}:=I.un Un.refl I.hok
theorem Inv.kept{t':Nat}(I:Inv X gd σ H s)(k:∀b u,s.heap.get? b=Z u->h'.get? b=Z u):Inv X gd σ H {s with heap:=h',toks:=t'}:=I.un (Un.kept k) (I.hok.kept k)
theorem Inv.laid{a:J}{o:HO}{t':Nat}(I:Inv X gd σ H s)(k:∀b u,s.heap.get? b=Z u->h'.get? b=Z u)(hp:s.heap.objs.size<=a)(new:dm X.prog X.w (upd H a o) h' a o):
  Inv X gd σ (upd H a o) {s with heap:=h',toks:=t'}:=I.un (Un.laid k hp (I.hok.fresh hp)) (I.hok.laid k hp new)
theorem Inv.write{x e:J}{o:HO}{t':Nat}(I:Inv X gd σ H s)(q:Mut (H x))(he:e=x\/H e=Z (.own x))(k:∀b u,b≠e->s.heap.get? b=Z u->h'.get? b=Z u)(g:∃u,h'.get? e=Z u)
  (new:dm X.prog X.w (upd H x o) h' x o):Inv X gd σ (upd H x o) {s with heap:=h',toks:=t'}:=I.un (Un.write q he k g) (I.hok.write q he k g new)
def Inv.qL{pins':List (J×Obj)}(I:Inv X gd σ H s)(h:∀p∈pins',s.heap.get? p.1=Z p.2/\H p.1=Y/\p.1≠X.env.locals/\p.1 ∉ X.fs/\∀v,p.2.data ≠ .cell v):Inv X pins' σ H s :=
 (I.ok,I.os,I.bare,I.base,I.loc,I.cell,I.free,I.iL,λp hp=>(lS.mp hp).elim (λz=>I.pin p (ot _ z)) (h p),I.hok,I.len)
def v8(g:N.Nodup)(a:N[i]?=Z x)(b:N[j]?=Z x):i=j:=by
 let(h1,z):=iZ.mp a;let(h2,q):=iZ.mp b;exact(List.getElem_inj g).mp (z.trans q.symm)
abbrev AT(X:Cx)(x:Str):Prop:=X.fn x=true\/X.env.scope.names.lookup x=some .local
def Ho{M:Model}{A:Do}{E:B->ϋ->Prop}{v:V}{Q:Unit->ϋ->Prop}(I:Inv X gd σ H s)(hN:X.N.Nodup)(hi:X.N[i]?=Z x)(hx:Loc X.env.scope x)(r:RelV v u)
  (h:∀s',Inv X gd (σ.set i (Z v)) H s'->(∃a,Zk a s.heap s'.heap/\(a=X.env.locals\/X.env.cells.lookup x=Z a))->Q () s') (hf:AT X x:=by first|exact .inl rfl|exact .inr rfl|assumption):wpAny M A (storeName X.env x u) Q E s:=by
 let(m,hn,hl):=id I.loc;have Cg:(X.env.scope.kind == .class ||(X.env.scope.kind == .module&&X.env.locals != X.env.globals))=false:=by rw[I.ok.kind];rfl
 have ah:i < σ.length:=by rw[I.len];exact(iZ.mp hi).1
 have cne:=I.cne;have tracked:∀{a:J}{h':Ev},(∃o,s.heap.get? a=Z o/\H a=Y)->Zk a s.heap h'->HOk X.prog X.w H h':=λ{a h'} ha hs b ob e=>by
  let(_,_,lX):=ha;refine(I.hok b ob e).d9 (λc w' K q=>(hs.2 c ?_).trans q) (λ_ q=>q) λ_ _ q=>q
  rintro rfl
  obtain rfl|K:=K
  ·rw[lX]at e;cases e
  ·rw[lX]at K;cases K
 obtain hk|hk:=hx
 ·refine wpAny_storeName_local hk hn (λh' aL hs=>?_) Cg
  let(oL,_,_,aG,_):=id hn;refine h _ (I.ok,I.os,I.bare,(λb o e n hb hx=>?_,λb o e n hb hx=>?_,I.base.free,λb o e hx=>?_,I.base.su,I.base.pO,I.base.sx),(_,aL,λj y v' g P e3=>?_),λy c e=>?_,I.free,I.iL,λp hp=>?_,tracked (oL,aG,I.free) hs,by simpa using I.len) (_,hs,.inl U)
  ·exact(hs.2 b (AG (wh (uj e) I.ok.above))).trans (I.base.keep b o e n hb hx)
  ·let(sl,g):=I.base.slot b o e n hb hx;exact(sl,(hs.2 b (AG (wh (uj e) I.ok.above))).trans g)
  ·let(o',g):=I.base.there b o e hx;exact(o',(hs.2 b (AG (wh (uj e) I.ok.above))).trans g)
  ·by_cases hj:j=i
   ·subst hj;rw[hi]at g;cases g;rw[u4 ah]at P;cases P;exact(u,r,.inl (hk,by simp))
   ·rw[ui (Ne.symm hj)]at P;let(u',r',q):=hl j y v' g P e3;refine(u',r',?_);obtain⟨k,e⟩|⟨k,c,e,z⟩:=q
    ·refine .inl (k,?_)
     have:y≠x:=λe=>hj (v8 hN g (e▸hi))
     simp[this,e]
    ·exact .inr (k,c,e,z.sameBut hs (cne y c e))
  ·let(w',z):=I.cell y c e;exact(w',z.sameBut hs (cne y c e))
  ·let(e,n,ne,nf,d):=I.pin p hp;exact((hs.2 p.1 ne).trans e,n,ne,nf,d)
 ·have ak:X.fn x=true:=by
   obtain z|z:=hf
   ·exact z
   ·rw[z]at hk;cases hk
  let(c,K):=I.ok.has x (.inl hk);let(w',z):=I.cell x c K;refine wpAny_storeName_cell I.ok.kind hk K z (λh' aD hs=>?_)
  let(oc,aq,Ye):=id z;refine h {s with heap:=h'} (I.ok,I.os,I.bare,(λb o e n hb hx=>?_,λb o e n hb hx=>?_,I.base.free,λb o e hx=>?_,I.base.su,I.base.pO,I.base.sx),(m,hn.sameBut hs (Ne.symm (cne x c K)),λj y v' g P e3=>?_),λy c' e=>?_,I.free,I.iL,λp hp=>?_,tracked (oc,aq,I.iL x c K) hs,by simpa using I.len) (c,hs,.inr K)
  ·exact(hs.2 b (AG (wh (uj e) (I.ok.cab x c ak K)))).trans (I.base.keep b o e n hb hx)
  ·let(sl,g):=I.base.slot b o e n hb hx;exact(sl,(hs.2 b (AG (wh (uj e) (I.ok.cab x c ak K)))).trans g)
  ·let(o',g):=I.base.there b o e hx;exact(o',(hs.2 b (AG (wh (uj e) (I.ok.cab x c ak K)))).trans g)
  ·by_cases hj:j=i
   ·subst hj;rw[hi]at g;cases g;rw[u4 ah]at P;cases P;exact(u,r,.inr (.inl hk,c,K,aD))
   ·rw[ui (Ne.symm hj)]at P;let(u',r',q):=hl j y v' g P e3;refine(u',r',?_);obtain q |⟨k,c',e,z'⟩:=q
    ·exact .inl q
    ·refine .inr (k,c',e,z'.sameBut hs ?_)
     rintro rfl
     exact hj (v8 hN g (I.ok.inj _ _ _ e K▸hi))
  ·by_cases av:c'=c
   ·subst av;exact(_,aD)
   ·let(w2,z2):=I.cell y c' e;exact(w2,z2.sameBut hs av)
  ·let(e,n,ne,nf,d):=I.pin p hp;refine((hs.2 p.1 ?_).trans e,n,ne,nf,d);intro q;rw[q,aq]at e;have q':=Option.some.inj e;exact d w' (by rw[<- q'];exact Ye)
def km{M:Model}{A:Do}{E:B->ϋ->Prop}{v:V}{Q:Unit->ϋ->Prop}(I:Inv X gd σ H s)(g:X.N.Nodup)(hi:X.N[i]?=Z x)(hx:Loc X.env.scope x)(r:RelV v u)
  (h:∀s',Inv X gd (σ.set i (Z v)) H s'->Q () s') (hf:AT X x:=by first|exact .inl rfl|exact .inr rfl|assumption):wpAny M A (storeName X.env x u) Q E s :=
 Ho I g hi hx r (λs' q _=>h s' q) hf
def Inv.CA(I:Inv X gd σ H s)(ho:s'.os=s.os)(u:Un (frs X.stack) ch H H' s.heap s'.heap)(hok:HOk X.prog X.w H' s'.heap)(hg:AllBare s'.gens)
  (g:∀b∈ch,(b∈X.ex\/X.s₀.heap.objs.size<=b)/\b≠X.env.locals/\(∀x c,X.env.cells.lookup x=Z c->c≠b)/\∀p∈X.pn++gd,p.1≠b):Inv X gd σ H' s':=by
 let(h',g',q,t',o'):=s';have e:=ho;subst e;exact I.call u hok hg g
end
abbrev XK:=B->Option J->Hp->Prop
abbrev St:=List (Option V)
abbrev VK:=V->Hp->Prop
abbrev TE:=St->Hp->VK->Prop
abbrev TT:=St->Hp->(Bool->Hp->Prop)->Prop
abbrev TA:=St->Hp->(List V->Hp->Prop)->Prop
structure Ends where
 nx:St->Hp->Prop
 rt:VK
 bk:St->Hp->Prop:=λ_ _=>False
 ct:St->Hp->Prop:=λ_ _=>False
abbrev TS:=Ends->St->Hp->Prop
inductive EP(X:Cx)(gd:List (J×Obj))(σ:St)(Q:VK)(u:B)(s':ϋ):Prop
 |mk(v H':_)(h1:Inv X gd σ H' s')(h2:RelV v u)(h3:Q v H')
inductive TP(X:Cx)(gd:List (J×Obj))(σ:St)(Q:Bool->Hp->Prop)(b:Bool)(s':ϋ):Prop
 |mk(H':_)(h1:Inv X gd σ H' s')(h2:Q b H')
inductive AP(X:Cx)(gd:List (J×Obj))(σ:St)(Q:List V->Hp->Prop)(us:List B)(s':ϋ):Prop
 |mk(vs H':_)(h1:Inv X gd σ H' s')(h2:Vals vs us)(h3:Q vs H')
def SP(X:Cx)(gd:List (J×Obj))(D:Ends)(f:Flow)(s':ϋ):Prop :=
 match f with
 |.next=>∃g H',Inv X gd g H' s'/\D.nx g H'
 |.brk=>∃g H',Inv X gd g H' s'/\D.bk g H'
 |.cont=>∃g H',Inv X gd g H' s'/\D.ct g H'
 |.ret u=>∃v g H',Inv X gd g H' s'/\RelV v u/\D.rt v H'
def PE(X:Cx)(e:EQ)(t:TE):Prop :=
 ∀(gd:List (J×Obj))(s:ϋ)(σ:St)(H:Hp)(Q:VK),Inv X gd σ H s->t σ H Q->XV X (eval e X.env) (EP X gd σ Q) X.xe s
def PT(X:Cx)(e:EQ)(t:TT):Prop :=
 ∀(gd:List (J×Obj))(s:ϋ)(σ:St)(H:Hp)(Q:Bool->Hp->Prop),Inv X gd σ H s->t σ H Q->XV X (isTrue e X.env (eval e X.env)) (TP X gd σ Q) X.xe s
def PW(X:Cx)(e:EQ)(t:TT):Prop :=
 ∀(whole:Sem B)(gd:List (J×Obj))(s:ϋ)(σ:St)(H:Hp)(Q:Bool->Hp->Prop),Inv X gd σ H s->t σ H Q->XV X (isTrue e X.env whole) (TP X gd σ Q) X.xe s
variable{X:Cx}{e:EQ}
def PW.pt{t:TT}(h:PW X e t):PT X e t:=h _
def PA(X:Cx)(es:List EQ)(t:TA):Prop :=
 ∀(pos:Pos)(gd:List (J×Obj))(s:ϋ)(σ:St)(H:Hp)(Q:List V->Hp->Prop),Inv X gd σ H s->t σ H Q->XV X (spliced (backTo pos (fx es X.env))) (AP X gd σ Q) X.xe s
def PS(X:Cx)(st:Fk)(t:TS):Prop :=
 ∀(gd:List (J×Obj))(s:ϋ)(σ:St)(H:Hp)(D:Ends),Inv X gd σ H s->t D σ H->XV X (exec st X.env) (SP X gd D) X.xe s
def PSs(X:Cx)(st:List Fk)(t:TS):Prop :=
 ∀(gd:List (J×Obj))(s:ϋ)(σ:St)(H:Hp)(D:Ends),Inv X gd σ H s->t D σ H->XV X (execs st X.env) (SP X gd D) X.xe s
variable{M:Model}{A:Do}{E:B->ϋ->Prop}{s:ϋ}
def thn{α:Type}{t:Sem α}{Q g:α->ϋ->Prop}(h:wpAny M A t Q E s)(q:∀a s,Q a s->g a s):wpAny M A t g E s:=E5 h q λ_ _ x=>x
variable{gd:List (J×Obj)}{Q:B->ϋ->Prop}{op:CmpOp}
section
inductive bX(i:Nat)(σ:St)(H:Hp)(Q:VK):Prop
 |mk(v:_)(h1:σ[i]?=Z (Z v))(h2:Q v H)
def tC(v:V):TE:=λ_ H Q=>Q v H
abbrev AS(x:Str):Prop:=(x ==("__debug__":Str))=false
def zD(P:X.N[i]?=Z x)(hv:Vis X.env.scope x)(hd:AS x:=by decide)(q:(x ==("__classdict__":Str))=false:=by decide):PE X (.Name x pos) (bX i):=by
 intro gd s σ H Q I h;let(v,e,h):=h;let(m,hn,hl):=I.loc;let(u,r,l):=hl i x v P e hv;have fin:EP X gd σ Q u s:=(v,H,I,r,h);obtain⟨g,hm⟩|⟨g,c,K,z⟩:=l
 ·exact wpAny_Name (wpAny_loadName_local I.ok.kind g hn hm fin) hd
 ·obtain g|g:=g
  ·exact wpAny_Name (wpAny_loadName_cell I.ok.kind g K z fin) hd
  ·exact wpAny_Name (wpAny_loadName_free I.ok.kind g K z fin q) hd
def b8{i j pos}:PE X (.Constant (.int i) j pos) (tC (.int i)):=λ_ _ _ H _ I h=>wpAny_Constant_int (.int i,H,I.tok _,(_,U),h)
def V2{b j pos}:PE X (.Constant (.bool b) j pos) (tC (.bl b)):=λ_ _ _ H _ I h=>Constant_bool (.bl b,H,I,U,h)
def SV{j pos}:PE X (.Constant .none j pos) (tC .non):=λ_ _ _ H _ I h=>Constant_none (.non,H,I,U,h)
def gF{x j pos}:PE X (.Constant (.str x) j pos) (tC (.str x)):=λ_ _ _ H _ I h=>Calls.Constant_str (.str x,H,I.tok _,(_,U),h)
def Gl(X:Cx)(x:Str):Prop:=X.env.kindOf x=Z .globalImplicit
def nV{E:B->ϋ->Prop}{σ:St}{pos:Pos}(I:Inv X gd σ H s)(hg:Gl X x)(hm:X.mg x=Z u)(h:Q u s)
  (hd:AS x:=by decide):XV X (eval (.Name x pos) X.env) Q E s :=
 Calls.Name_function_global I.ok.kind hg (Calls.loadGlobal_global (by rw[I.ok.glob];exact I.mod.glob.keeps I.bk) hm h) hd
def nc{E:B->ϋ->Prop}{σ:St}{pos:Pos}(I:Inv X gd σ H s)(hg:Gl X x)(hm:X.mg x=Y)(hv:bootBuiltins x=Z u)(h:Q u s)
  (hn:x ≠ "__name__":=by decide) (hd:AS x:=by decide):XV X (eval (.Name x pos) X.env) Q E s:=by
 let(mb,h1,h2):=I.mod.blt;exact Calls.Name_function_global I.ok.kind hg (Calls.loadGlobal_builtin (by rw[I.ok.glob];exact I.mod.glob.keeps I.bk) hm (by rw[I.ok.blt];exact h1.keeps I.bk) ((h2 x hn).trans hv) h) hd
def zE{v:V}(hg:Gl X x)(hm:X.mg x=Z u)(r:RelV v u)(hd:AS x:=by decide):PE X (.Name x pos) (tC v) :=
 λ_ _ _ H _ I h=>nV I hg hm (v,H,I,r,h) hd
def F8{v:V}(hg:Gl X x)(hm:X.mg x=Y)(hv:bootBuiltins x=Z u)(r:RelV v u)(hn:x ≠ "__name__":=by decide)(hd:AS x:=by decide):PE X (.Name x pos) (tC v) :=
 λ_ _ _ H _ I h=>nc I hg hm hv (v,H,I,r,h) hn hd
variable{a b:EQ}{ta tb:TE}{pos:Pos}
def Lj(b:EQ)(h:op ≠ .In)(h2:op ≠ .NotIn):behindInMarks op b=false:=by
 have q:(op==CmpOp.In)=false:=by cases op <;> first|rfl|exact absurd U h
 have g:(op==CmpOp.NotIn)=false:=by cases op <;> first|rfl|exact absurd U h2
 cases b with
 |Set elts k pos =>
  show(k==0&&(op==CmpOp.In||op==CmpOp.NotIn)&&_)=ϊ
  rw[q,g]
  cases(k==0) <;> rfl
 |_=>rfl
variable{tA tB':TT}{rest:List EQ}
def Rx(t u:TT):TT:=λσ H Q=>t σ H λc H1=>if c=O then u σ H1 Q else Q ϊ H1
def tOr(t u:TT):TT:=λσ H Q=>t σ H λc H1=>if c=O then Q O H1 else u σ H1 Q
def Rq(t:TT):TT:=λσ H Q=>t σ H λc H1=>Q (!c) H1
def FR(ha:PT X a tA):PW X (.BoolOp .And [a] pos) tA:=by
 intro g gd s σ H Q I h;refine isTrue_and (thn (ha gd s σ H Q I h) λc s1 e=>?_)
 cases c with
 |true=>exact isTrue_and_nil e
 |false=>exact e
def Sf(ha:PT X a tA):PW X (.BoolOp .Or [a] pos) tA:=by
 intro g gd s σ H Q I h;refine isTrue_or (thn (ha gd s σ H Q I h) λc s1 e=>?_)
 cases c with
 |false=>exact isTrue_or_nil e
 |true=>exact e
def KH(ha:PT X a tA)(P:PW X (.BoolOp .And (b::rest) pos) tB'):PW X (.BoolOp .And (a::b::rest) pos) (Rx tA tB'):=by
 intro K gd s σ H Q I h;refine isTrue_and (thn (ha gd s σ H _ I h) λc s1 g=>?_)
 let(H1,z,q):=g;cases c with
 |true=>exact P K gd s1 σ H1 Q z q
 |false=>exact(H1,z,q)
def VT(ha:PT X a tA)(P:PW X (.BoolOp .Or (b::rest) pos) tB'):PW X (.BoolOp .Or (a::b::rest) pos) (tOr tA tB'):=by
 intro K gd s σ H Q I h;refine isTrue_or (thn (ha gd s σ H _ I h) λc s1 g=>?_)
 let(H1,z,q):=g;cases c with
 |true=>exact(H1,z,q)
 |false=>exact P K gd s1 σ H1 Q z q
def Sj(ha:PT X a tA):PT X (.UnaryOp .Not a pos) (Rq tA):=by
 intro gd s σ H Q I h;refine isTrue_not (thn (ha gd s σ H (λc H1=>Q (!c) H1) I h) λc s' z=>?_)
 let(H',g,q):=z;exact(H',g,q)
def JA(ta tb:TE):TE:=λσ H Q=>ta σ H λx H1=>∃c,x=.bl c/\if c=O then tb σ H1 Q else Q (.bl ϊ) H1
def Ro(ta tb:TE):TE:=λσ H Q=>ta σ H λx H1=>∃c,x=.bl c/\if c=O then Q (.bl O) H1 else tb σ H1 Q
def SU{op}{t:TE}(h:PE X a t):PE X (.BoolOp op [a] pos) t:=λgd s σ H Q I hw=>BoolOp_one (h gd s σ H Q I hw)
def SW(ha:PE X a ta)(P:PE X (.BoolOp .And (b::rest) pos) tb):PE X (.BoolOp .And (a::b::rest) pos) (JA ta tb):=by
 intro gd s σ H Q I h;refine BoolOp_and (thn (ha gd s σ H _ I h) λv s1 q=>?_)
 let(x,H1,z,K,g):=q;let(c,U,g):=g;cases K;refine wpAny_truthy_bool ?_;cases c with
 |true=>exact P gd s1 σ H1 Q z g
 |false=>exact(.bl ϊ,H1,z,U,g)
def V1(ha:PE X a ta)(P:PE X (.BoolOp .Or (b::rest) pos) tb):PE X (.BoolOp .Or (a::b::rest) pos) (Ro ta tb):=by
 intro gd s σ H Q I h;refine BoolOp_or (thn (ha gd s σ H _ I h) λv s1 q=>?_)
 let(x,H1,z,K,g):=q;let(c,U,g):=g;cases K;refine wpAny_truthy_bool ?_;cases c with
 |false=>exact P gd s1 σ H1 Q z g
 |true=>exact(.bl O,H1,z,U,g)
def tIf(t:TT)(ta tb:TE):TE:=λσ H Q=>t σ H λc H1=>if c=O then ta σ H1 Q else tb σ H1 Q
def K8{c:EQ}(K:PT X c tA)(ha:PE X a ta)(P:PE X b tb):PE X (.IfExp c a b pos) (tIf tA ta tb):=by
 intro gd s σ H Q I h;refine wpAny_IfExp (thn (K gd s σ H _ I h) λd s1 g=>?_)
 let(H1,z,q):=g;cases d with
 |true=>exact ha gd s1 σ H1 Q z q
 |false=>exact P gd s1 σ H1 Q z q
end
def SqL(K:BT)(H:Hp)(a:J)(xs:List V):Prop :=
 Rd H a (.lst xs) \/
  ∃(o:Obj)(its:Array B)(n:Nat),K.lookup a=Z o/\o.cls=.type "list" /\ o.dict=Y/\o.data=.seq its n/\its.size<=px/\Vals xs its.toList
def SqT(K:BT)(H:Hp)(a:J)(xs:List V):Prop :=
 Rd H a (.tup xs) \/
  ∃(o:Obj)(its:Array B)(n:Nat),K.lookup a=Z o/\o.cls=.type "tuple" /\ o.data=.seq its n/\its.size<=px/\Vals xs its.toList
def Ys:B->Option V
 |.none=>Z .non
 |.bool b=>Z (.bl b)
 |.int i _=>Z (.int i)
 |.str x _=>Z (.str x)
 |.bytes b _=>Z (.byt b)
 |.float b _=>Z (.flt b)
 |.ref a=>Z (.ref a)
 |.type n=>Z (.ty n)
 |_=>Y
def RelV.abs{x:V}(r:RelV x u):Ys u=Z x:=by
 cases x with
 |non=>cases r;rfl
 |bl _=>cases r;rfl
 |int _=>let(t,U):=r;rfl
 |str _=>let(t,U):=r;rfl
 |byt _=>let(t,U):=r;rfl
 |flt _=>let(t,U):=r;rfl
 |ref _=>cases r;rfl
 |ty _=>cases r;rfl
theorem RelV.inj{x y:V}{u:B}(r:RelV x u)(q:RelV y u):x=y:=Option.some.inj (r.abs.symm.trans q.abs)
theorem Vals.inj:∀{xs ys:List V}{us:List B},Vals xs us->Vals ys us->xs=ys:=by
 intro xs ys us h
 induction h generalizing ys with
 |nil=>intro h';cases h';rfl
 |cons r t g=>intro h';cases h' with|cons r' t'=>rw[r.inj r',g t']
section
variable{σ:St}
theorem SqL.of{K:BT}(h:H a=Z (.lst xs)):SqL K H a xs:=.inl (.inl h)
theorem SqT.of{K:BT}(h:H a=Z (.tup xs)):SqT K H a xs:=.inl (.inl h)
def Inv.list(I:Inv X gd σ H s)(h:SqL X.K H a xs):∃its:List B,Vals xs its/\PlainL s.heap a its.toArray/\xs.length<=px:=by
 obtain h |⟨o,its,n,g,q,hd,hs,P,r⟩:=h
 ·let(z,its,n,r,e):=h.ok I.hok;exact(its,r,(_,n,e,U,U,U),z)
 ·refine(its.toList,r,(o,n,I.kIn a o g,q,hd,by simpa using hs),?_)
  have e:=r.length;simp only[YU]at e
  lia
def Inv.tuple(I:Inv X gd σ H s)(h:SqT X.K H a xs):∃its:List B,Vals xs its/\IsTup s.heap a its.toArray/\xs.length<=px:=by
 obtain h |⟨o,its,n,g,q,hs,P,r⟩:=h
 ·let(z,its,r,p):=h.ok I.hok;exact(its,r,p.1,z)
 ·refine(its.toList,r,(o,I.kIn a o g,q,n,by simpa using hs),?_)
  have e:=r.length;simp only[YU]at e;omega
def Inv.wj(I:Inv X gd σ H s)(h:SqL X.K H a xs)(h':SqL X.K H a ys):xs=ys:=by
 let(its,r,(o,n,e,_,_,d),_):=I.list h;let(P,r',(o',Q,g,_,_,q),_):=I.list h';rw[e]at g;cases g;rw[d]at q;injection q with z _
 have:=by simpa using congrArg Zz z
 subst this;exact r.inj r'
def Inv.yf(I:Inv X gd σ H s)(h:SqT X.K H a xs)(h':SqT X.K H a ys):xs=ys:=by
 let(its,r,(o,e,_,n,d),_):=I.tuple h;let(P,r',(o',g,_,Q,q),_):=I.tuple h';rw[e]at g;cases g;rw[d]at q;injection q with z _
 have:=by simpa using congrArg Zz z
 subst this;exact r.inj r'
end
abbrev Cx.xv(X:Cx)(E:B->ϋ->Prop):Cx:={X with xe:=E}
abbrev Cx.nox(X:Cx):Cx:=X.xv λ_ _=>False
theorem Cx.Ok.xv{X:Cx}(ok:X.Ok)(E:B->ϋ->Prop):(X.xv E).Ok :=
 (ok.mod,ok.kind,ok.glob,ok.blt,ok.above,ok.inj,ok.has,ok.cab,ok.hd,ok.frames,ok.stk,ok.exf,ok.bs,ok.bsz,ok.Ee,ok.IF,ok.oo,ok.frf)
def Cx.Ok.mF(ok:(X.xv E).Ok):X.Ok :=
 (ok.mod,ok.kind,ok.glob,ok.blt,ok.above,ok.inj,ok.has,ok.cab,ok.hd,ok.frames,ok.stk,ok.exf,ok.bs,ok.bsz,ok.Ee,ok.IF,ok.oo,ok.frf)
section
variable{σ:St}
theorem Inv.xv(I:Inv X gd σ H s)(E:B->ϋ->Prop):Inv (X.xv E) gd σ H s:=(I.ok.xv E,I.os,I.bare,I.base,I.loc,I.cell,I.free,I.iL,I.pin,I.hok,I.len)
theorem Inv.mF(I:Inv (X.xv E) gd σ H s):Inv X gd σ H s:=(I.ok.mF,I.os,I.bare,I.base,I.loc,I.cell,I.free,I.iL,I.pin,I.hok,I.len)
theorem SP.mF{D:Ends}{f:Flow}{s':ϋ}(h:SP (X.xv E) gd D f s'):SP X gd D f s':=by
 cases f with
 |next=>let(g,H',I,q):=h;exact(g,H',I.mF,q)
 |brk=>let(g,H',I,q):=h;exact(g,H',I.mF,q)
 |cont=>let(g,H',I,q):=h;exact(g,H',I.mF,q)
 |ret u=>let(v,g,H',I,r,q):=h;exact(v,g,H',I.mF,r,q)
theorem PSs.nox{st:List Fk}{t:TS}(h:PSs X.nox st t):PSs X st t:=λgd s σ H D I hw =>
 E5 (h gd s σ H D (I.xv _) hw) (λ_ _ q=>q.mF) λ_ _ z=>False.elim z
end
section
variable{st:Fk}{rest:List Fk}{t u:TS}{te:TE}{pos:Pos}
def PQ:TS:=λD σ H=>D.nx σ H
def Rm(t u:TS):TS:=λD σ H=>t {D with nx:=u D} σ H
def FU:PSs X [] PQ:=λ_ _ σ H _ I h=>wpAny_execs_nil (σ,H,I,h)
def dC(h1:PS X st t)(h2:PSs X rest u):PSs X (st::rest) (Rm t u):=by
 intro gd s σ H D I h;refine wpAny_execs_cons (thn (h1 gd s σ H {D with nx:=u D} I h) λf s1 q=>?_)
 cases f with
 |next =>
  let(g,H',z,q):=q;exact h2 gd s1 g H' D z q
 |ret v=>exact q
 |brk=>exact q
 |cont=>exact q
def jF(h1:PS X st t):PSs X [st] t:=by
 intro gd s σ H D I h;refine wpAny_execs_cons (thn (h1 gd s σ H D I h) λf s1 q=>?_)
 cases f with
 |next=>exact wpAny_execs_nil q
 |ret v=>exact q
 |brk=>exact q
 |cont=>exact q
def PU:TS:=λD σ H=>D.ct σ H
def Bp:PS X (.Continue pos) PU:=λ_ _ σ H _ I h=>wpAny_Continue (σ,H,I,h)
def Inv.quiet{σ:St}(I:Inv X gd σ H s):interactive X.env=false:=by simp[interactive,I.ok.kind]
def mG(te:TE):TS:=λD σ H=>te σ H λ_ H1=>D.nx σ H1
def jG(he:PE X e te)(hs:‹swapsWith e Y pos.line X.env=pure false›):PS X (.Expr e pos) (mG te):=by
 intro gd s σ H D I h;exact wpAny_Expr_any (thn (he gd s σ H _ I h) λv s1 (x,H1,q,z,g)=>(σ,H1,q,g)) I.quiet hs
def Jw(te:TE):TS:=λD σ H=>te σ H D.rt
def pw(he:PE X e te):PS X (.Return (Z e) pos) (Jw te):=by
 intro gd s σ H D I h;exact wpAny_Return_some (thn (he gd s σ H _ I h) λv s1 (x,H1,z,g,q)=>(x,σ,H1,z,g,q))
def Nj(c:TT)(t u:TS):TS:=λD σ H=>c σ H λb H1=>if b=O then t D σ H1 else u D σ H1
def FV{c:EQ}{a b:List Fk}{tc:TT}(K:PT X c tc)(ha:PSs X a t)(P:PSs X b u):PS X (.If c a b pos) (Nj tc t u):=by
 intro gd s σ H D I h;refine wpAny_If (thn (K gd s σ H _ I h) λd s1 g=>?_)
 let(H1,z,q):=g;cases d with
 |true=>exact ha gd s1 σ H1 D z q
 |false=>exact P gd s1 σ H1 D z q
end
abbrev TG:=V->St->Hp->(St->Hp->Prop)->Prop
abbrev TGs:=List V->St->Hp->(St->Hp->Prop)->Prop
def PG(X:Cx)(target:EQ)(t:TG):Prop :=
 ∀(gd:List (J×Obj))(s:ϋ)(σ:St)(H:Hp)(v:V)(u:B)(Q:St->Hp->Prop),Inv X gd σ H s->RelV v u->t v σ H Q ->
  XV X (assign target X.env u) (λ_ s'=>∃g H',Inv X gd g H' s'/\Q g H') X.xe s
def PGs(X:Cx)(ts:List EQ)(t:TGs):Prop :=
 ∀(gd:List (J×Obj))(s:ϋ)(σ:St)(H:Hp)(vs:List V)(us:List B)(Q:St->Hp->Prop),Inv X gd σ H s->Vals vs us->t vs σ H Q ->
  XV X (assignInOrder ((assignEach ts X.env).map (·.2)) us) (λ_ s'=>∃g H',Inv X gd g H' s'/\Q g H') X.xe s
abbrev UI:=V->V->V->Hp->(Hp->Prop)->Prop
def Xn(X:Cx)(t:UI):Prop :=
 ∀(gd:List (J×Obj))(s:ϋ)(σ:St)(H:Hp)(o i v:V)(g iv u:B)(Q:Hp->Prop),Inv X gd σ H s->RelV o g->RelV i iv->RelV v u->t o i v H Q ->
  XV X (setItem g iv u) (λ_ s'=>∃H',Inv X gd σ H' s'/\Q H') X.xe s
variable{es:List EQ}{n:Nat}{o:EQ}{to:TE}{tg:EQ}{te:TE}{b:EQ}
section
variable{pos:Pos}
def jJ(i:Nat):TG:=λv σ H Q=>Q (σ.set i (Z v)) H
def qM(g:X.N.Nodup)(hi:X.N[i]?=Z x)(hx:Loc X.env.scope x)(hf:AT X x:=by first|exact .inl rfl|exact .inr rfl|assumption):PG X (.Name x pos) (jJ i):=by
 intro gd s σ H v u Q I r h;exact wpAny_assign_Name (km I g hi hx r (λs' q=>(_,H,q,h)) hf)
def Pd:TGs:=λvs σ H Q=>vs=[]/\Q σ H
def yz(t:TG)(u:TGs):TGs:=λvs σ H Q=>∃v r,vs=v::r/\t v σ H λg H'=>u r g H' Q
def vh:PGs X [] Pd:=by
 intro gd s σ H vs us Q I r h;let(e,h):=h;subst e;exact assignInOrder_nil (σ,H,I,h)
def fB{t:TG}{u:TGs}(h1:PG X e t)(h2:PGs X es u)
  (hs:‹(assignEach (e::es) X.env).map (·.2)=assign e X.env ::(assignEach es X.env).map (·.2)›):PGs X (e::es) (yz t u):=by
 intro gd s σ H vs us Q I r h;let(v,V,K,h):=h;subst K;cases r with
 |cons r q =>
  rw[hs];exact assignInOrder_cons (thn (h1 gd s σ H _ _ _ I r h) λ_ s1 (g,H1,P,z)=>(h2 gd s1 g H1 _ _ Q P q z))
inductive LV(K:BT)(n:Nat)(t:TGs)(v:V)(σ:St)(H:Hp)(Q:(St->Hp->Prop)):Prop
 |mk(a xs:_)(h1:v=.ref a)(h2:SqT K H a xs)(h3:xs.length=n)(h4:t xs σ H Q)
def K4{k:Nat}{t:TGs}(V:X.calm=O)(h:PGs X es t)
  (hn:‹(assignEach es X.env).length=n›) (g:‹(assignEach es X.env).findIdx? (·.1)=none›):PG X (.Tuple es k pos) (LV X.K n t):=by
 intro gd s σ H v u Q I r hw;let(a,xs,e1,P,hl,hw):=hw;subst e1;cases r;let(its,q,z,hz):=I.tuple P;refine assign_Tuple_tuple (I.ok.hd V) z (by simp[hn,<- hl,q.length]) g λh' hx=>?_
 have I1:=I.kept (t':=s.toks) λb o e=>hx b o (AG (uj e)) e
 exact h gd _ σ H xs _ Q I1 (by simpa using q) hw
def Ck(to g:TE)(t:UI):TG:=λv σ H Q=>to σ H λo H1=>g σ H1 λi z=>t o i v z λq=>Q σ q
def zC{i:EQ}{q:TE}{t:UI}(ho:PE X o to)(hi:PE X i q)(hs:Xn X t)
  (ha:∀v,assign (.Subscript o i pos) X.env v=(do
   let g <- holding [v] (eval o X.env)
   let iv <- holding [v,g] (eval i X.env)
   standAt pos
   holding [v,g,iv] (setItem g iv v)
   release [v,g,iv] []):=by intro _;rfl):PG X (.Subscript o i pos) (Ck to q t):=by
 intro gd s σ H v u Q I r h;exact dO (Y6 (thn (ho gd s σ H _ I h) λg s1 (x,H1,I1,K,q1)=>(dO (Y6 (thn (hi gd s1 σ H1 _ I1 q1) λiv s2 (y,H2,I2,z,V)=>(dO (wpAny_standAt (dO (Y6 (thn (hs gd s2 σ H2 x y v g iv u _ I2 K z r V) λ_ s3 (H3,I3,P)=>(wpAny_release (σ,H3,I3,P))))))))))))
def p7(te:TE)(g:TG):TS:=λD σ H=>te σ H λx H1=>g x σ H1 D.nx
def DZ{g:TG}(he:PE X e te)(hg:PG X tg g)(hs:‹swapsWithSole [tg] e pos.line X.env=pure false›)(hw:‹swappedStores [tg] e X.env=pure none›)
  (h1:‹(assignEach [tg] X.env).map (·.2)=[assign tg X.env]›):PS X (.Assign [tg] e pos) (p7 te g):=by
 intro gd s σ H D I h;refine wpAny_Assign_stores (thn (he gd s σ H _ I h) λv s1 z=>?_) hs hw
 let(x,H1,Q,K,P):=z;rw[h1];exact thn (hg gd s1 σ H1 x v _ Q K P) λ_ s2 q=>q
def lj(z:X.N.Nodup)(hi:X.N[i]?=Z x)(hx:Loc X.env.scope x)(he:PE X e te)(hs:‹swapsWith e (Z (.Name x pos')) pos.line X.env=pure false›)(hf:AT X x:=by first|exact .inl rfl|exact .inr rfl|assumption):
  PS X (.Assign [.Name x pos'] e pos) (p7 te (jJ i)):=by
 intro gd s σ H D I h;exact wpAny_Assign_Name (thn (he gd s σ H _ I h) λv s1 (y,H1,P,g,q)=>(km P z hi hx g (λs2 K=>(_,H1,K,q)) hf)) hs
def Rn(i j:Nat)(ta:TA):TS:=λD σ H=>ta σ H λvs H1=>∃v w,vs=[v,w]/\D.nx ((σ.set i (Z v)).set j (Z w)) H1
abbrev BC(X:Cx)(x:Str):Prop:=X.env.scope.names.lookup x=some .local
def Sm{y:Str}{a:EQ}{ta:TA}{V pt:Pos}{kt k2 g}(hc:X.calm=O)(hN:X.N.Nodup)(hi:X.N[i]?=Z x)(hj:X.N[j]?=Z y)(ak:i≠j)
  (hx:BC X x) (hy:BC X y) (ha:PA X [a,b] ta)
  (hw:swappedStores [.Tuple [.Name x V,.Name y py] kt pt] (.Tuple [a,b] k2 g) X.env=pure (Z [x,y]))
  (hs:‹swapsWithSole [.Tuple [.Name x V,.Name y py] kt pt] (.Tuple [a,b] k2 g) pos.line X.env=pure false›):
  PS X (.Assign [.Tuple [.Name x V,.Name y py] kt pt] (.Tuple [a,b] k2 g) pos) (Rn i j ta):=by
 intro gd s σ H D I h;refine dO (wpAny_standAt ?_);refine dO (u7 ?_);refine dO (Tuple_ (thn (ha _ gd s σ H _ I h) λus s1 aq=>?_))
 let(vs,H1,I1,r1,Q):=aq;let(v,w,e1,Q):=Q;subst e1;obtain⟨K,z,rfl,rv,P⟩:∃K z,us=[K,z]/\RelV v K/\RelV w z:=by
  cases r1 with
  |cons p q =>
   cases q with
   |cons p' q' =>
    cases q';exact(_,_,U,p,p')
 refine Y9 ?_ (by show 2<=px;decide)
 have I2:Inv X gd σ H1 {s1 with heap:=s1.heap.push {cls:=.type "tuple",data:=.seq [K,z].toArray}}:=I1.kept λb o e=>hL _ e
 rw[hw];refine dO (u7 ?_);refine dO (ZY (dO (unpackItems_tuple (items:=#[K,z]) (I.ok.hd hc) (IsTup.new s1.heap _) λh' ah=>?_)))
 have I3:=I2.kept (t':=s1.toks) λb o e=>ah b o (AG (uj e)) e
 refine dO (assignInOrder_cons (wpAny_bindName (km I3 hN hj (.inl hy) P (λs2 I4=>(assignInOrder_cons (wpAny_bindName (km I4 hN hi (.inl hx) rv (λs3 I5=>assignInOrder_nil (u7 ?_)) (.inr hx))))) (.inr hy))))
 rw[List.set_comm _ _ (Ne.symm ak)]at I5;exact(_,H1,I5,Q)
end
variable{body:List Fk}
section
variable{pos:Pos}
def zg(c:TT)(tb:TS):TS:=λD σ H=>∃W:Nat->St->Hp->Prop,(∃m,W m σ H)/\∀m σ H,W m σ H ->
 c σ H λb H1=>if b=O then ∃N:St->Hp->Prop,(∀g H',N g H'->∃m',m'<m/\W m' g H')/\tb {D with nx:=N,ct:=N,bk:=D.nx} σ H1 else D.nx σ H1
def vO{c:EQ}{tc:TT}{tb:TS}(hp:ZR (model X.prog X.w) X.A X.env X.xe)(hc:PT X c tc)(hb:PSs X body tb):PS X (.While c body [] pos) (zg tc tb):=by
 intro gd s σ H D I h;let(W,(m0,w0),turn):=h;refine wpAny_While (codeAny_whileLoop (λn s'=>∃z H',Inv X gd z H' s'/\W n z H') ?_ m0 (σ,H,I,w0))
 rintro n s1 ⟨q,H1,I1,w1⟩
 refine wpAny_passesOwn hp (thn (hc gd s1 q H1 _ I1 (turn n q H1 w1)) λb s2 ah=>?_)
 let(H2,I2,Q):=ah;cases b with
 |true =>
  let(N,hN,Q):=Q;refine wpAny_passesOwn hp (thn (hb gd s2 q H2 _ I2 Q) λf s3 P=>?_)
  cases f with
  |next =>
   let(g,K,I3,V):=P;let(m',hm,w3):=hN g K V;exact(m',hm,g,K,I3,w3)
  |cont =>
   let(g,K,I3,V):=P;let(m',hm,w3):=hN g K V;exact(m',hm,g,K,I3,w3)
  |brk=>exact P
  |ret v=>exact P
 |false =>
  exact wpAny_execs_nil (q,H2,I2,Q)
end
structure It where
 go:Nat->Hp->Prop
 yld:Nat->Hp->V->Hp->Prop
 stop:Nat->Hp->Prop
def yc(X:Cx)(gd:List (J×Obj))(H:Hp)(b:J):Prop :=
 H b=Y/\b≠X.env.locals/\b ∉ X.fs/\(b∈X.ex\/X.s₀.heap.objs.size<=b)/\(∀x c,X.env.cells.lookup x=Z c->c≠b)/\∀p∈X.pn++gd,p.1≠b
variable{H':Hp}
def Inv.ID{σ:St}{b:J}(I:Inv X gd σ H s)(g:s.heap.objs.size<=b)(hn:H' b=Y):yc X gd H' b:=by
 refine(hn,ZA (wh I.lt g),I.Wd g,.inr (u6 I.sz g),λx c e z=>?_,λp hp z=>?_)
 ·let(v,q):=I.cell x c e;exact absurd (wh q.lt (by rw[z];exact g)) (UP _)
 ·exact absurd (wh (uj (I.pin p hp).1) (by rw[z];exact g)) (UP _)
structure Turn(P:Db)(w:Da)(K:BT)(tg:EQ)(ύ:It)(fp:List J)(it:J)(tn:Nat->Ev->Prop):Prop where
 mem:it∈fp
 obj:∀i h,tn i h->∀b∈fp,∃o,h.get? b=Z o/\∀v,o.data ≠ .cell v
 keep:∀i h h',tn i h->(∀b∈fp,∀o,h.get? b=Z o->h'.get? b=Z o)->tn i h'
 item:∀(X:Cx),X.prog=P->X.w=w->X.K=K->X.calm=O->∀(i:Nat)(gd:List (J×Obj))(s:ϋ)(σ:St)(H:Hp)(E:B->ϋ->Prop),Inv X gd σ H s->(∀b∈fp,yc X gd H b)->tn i s.heap->ύ.go i H ->
  wpAny (model P w) X.A (pyNext (.ref it)) (λr s1=>∃u,r=Z u /\
   wpAny (model P w) X.A (letOwnedTupleGo tg (.ref it) u) (λ_ s2=>∃x H',Inv X gd σ H' s2/\RelV x u/\ύ.yld i H x H'/\tn (i+1) s2.heap/\∀b∈fp,H' b=Y) E s1) E s
 done:∀(X:Cx),X.prog=P->X.w=w->X.K=K->X.calm=O->∀(i:Nat)(gd:List (J×Obj))(s:ϋ)(σ:St)(H:Hp)(E:B->ϋ->Prop),Inv X gd σ H s->(∀b∈fp,yc X gd H b)->tn i s.heap->ύ.stop i H ->
  wpAny (model P w) X.A (pyNext (.ref it)) (λr s1=>r=Y/\Inv X gd σ H s1) E s
 self:∀(A:Do)(i:Nat)(s:ϋ)(Q:B->ϋ->Prop)(E:B->ϋ->Prop),tn i s.heap->Q (.ref it) s->wpAny (model P w) A (pyIter (.ref it)) Q E s
abbrev TI:=St->Hp->(It->Hp->Prop)->Prop
def PIE(X:Cx)(gd:List (J×Obj))(σ:St)(tg:EQ)(R:It->Hp->Prop)(g:B)(s2:ϋ):Prop :=
 ∃(it:J)(fp:List J)(tn:Nat->Ev->Prop)(ύ:It)(H':Hp),g=.ref it/\Inv X gd σ H' s2/\Turn X.prog X.w X.K tg ύ fp it tn/\tn 0 s2.heap/\(∀b∈fp,yc X gd H' b)/\R ύ H'
def PI(X:Cx)(tg iter:EQ)(wi:TI):Prop :=
 ∀(gd:List (J×Obj))(s:ϋ)(σ:St)(H:Hp)(R:It->Hp->Prop),Inv X gd σ H s->wi σ H R ->
  XV X (eval iter X.env) (λv s1=>XV X (pyIter v) (PIE X gd σ tg R) X.xe s1) X.xe s
def Cj{o:Obj}{n:String}{vs:Array B}{Q:Unit->ϋ->Prop}(ho:s.heap.get? it=Z o)(q:o.cls=.type n)(hd:o.data=.fields vs)
  (hn:["enumerate","zip","dict_itemiterator","dict_reverseitemiterator","odict_iterator","itertools.zip_longest","itertools.pairwise"].contains n=ϊ) (g:Q () s):wpAny M A (letOwnedTupleGo tg (.ref it) u) Q E s:=by
 cases tg <;> first
  |exact u7 g
  | (cases u <;> first
    |exact u7 g
    | (refine dO (wpAny_load ho ?_)
       rw[q,hd];show wpAny M A (if(["enumerate","zip","dict_itemiterator","dict_reverseitemiterator","odict_iterator","itertools.zip_longest","itertools.pairwise"].contains n&&vs[0]? == Z (rawInt _))=O then _ else _) Q E s
       rw[if_neg (by intro h;rw[hn]at h;cases h)]
       exact u7 g))
def Itl(K:BT)(a:J):It :=
 (λi H=>∃xs x,SqL K H a xs/\xs[i]?=Z x,λi H x H'=>H'=H/\∀xs,SqL K H a xs->xs[i]?=Z x,λi H=>∃xs,SqL K H a xs/\xs.length<=i)
def Itt(K:BT)(a:J):It :=
 (λi H=>∃xs x,SqT K H a xs/\xs[i]?=Z x,λi H x H'=>H'=H/\∀xs,SqT K H a xs->xs[i]?=Z x,λi H=>∃xs,SqT K H a xs/\xs.length<=i)
def Itr(lo:Int)(n:Nat):It:=(λi _=>i<n,λi H x H'=>H'=H/\x=.int (lo+i),λi _=>n<=i)
variable{P:Db}
theorem Hi{w:Da}{K:BT}(a it:J):Turn P w K tg (Itl K a) [it] it (λi h=>h.IsListIter it a i) where
 mem:=by simp
 obj:=λi h st b g=>by
  have e:=by simpa using g
  subst e;let(o,e,c,d):=st;exact(o,e,λv z=>by rw[d]at z;cases z)
 keep:=λi h h' st k=>st.at λo e=>k it (by simp) o e
 item:=by
  intro X hP hw hK hc i gd s σ H E I hf st hg;subst hP hw hK;let(xs,x,Q,hx):=hg;let(its,V,p,hz):=I.list Q;let(u,hu,ru):=V.get hx;let(f0,f1,f2,f3,f4,f5):=hf it (by simp)
  refine wpAny_pyNext_list_item st p.isList (by simpa using hu) λh' q sb=>?_
  have I1:=I.turned (t':=s.toks) (λb o g e=>(sb.2 b g).trans e) f0 f1 f3 f4 f5
  let(o,e,c,d):=id q;exact(u,U,Cj e c d (by decide) (x,H,I1,ru,(U,λys hy=>by rw[I.wj hy Q];exact hx),q,λb g=>(hf b g).1))
 done:=by
  intro X hP hw hK hc i gd s σ H E I hf st hg;subst hP hw hK;let(xs,Q,hx):=hg;let(its,V,p,hz):=I.list Q;let(f0,f1,f2,f3,f4,f5):=hf it (by simp)
  have hl:=V.length;exact wpAny_pyNext_list_end (I.ok.hd hc) st p.isList (by simp;lia) λh' eb=>(U,I.turned (λb o g e=>eb b o g e) f0 f1 f3 f4 f5)
 self:=λ_ _ _ _ _ st h=>wpAny_pyIter_listiter st h
theorem Dr{w:Da}{K:BT}(a it:J):Turn P w K tg (Itt K a) [it] it (λi h=>h.IsTupleIter it a i) where
 mem:=by simp
 obj:=λi h st b g=>by
  have e:=by simpa using g
  subst e;let(o,e,c,d):=st;exact(o,e,λv z=>by rw[d]at z;cases z)
 keep:=λi h h' st k=>st.at λo e=>k it (by simp) o e
 item:=by
  intro X hP hw hK hc i gd s σ H E I hf st hg;subst hP hw hK;let(xs,x,Q,hx):=hg;let(its,V,p,hz):=I.tuple Q;let(u,hu,ru):=V.get hx;let(f0,f1,f2,f3,f4,f5):=hf it (by simp)
  refine wpAny_pyNext_tuple_item st (p) (by simpa using hu) λh' q sb=>?_
  have I1:=I.turned (t':=s.toks) (λb o g e=>(sb.2 b g).trans e) f0 f1 f3 f4 f5
  let(o,e,c,d):=id q;exact(u,U,Cj e c d (by decide) (x,H,I1,ru,(U,λys hy=>by rw[I.yf hy Q];exact hx),q,λb g=>(hf b g).1))
 done:=by
  intro X hP hw hK hc i gd s σ H E I hf st hg;subst hP hw hK;let(xs,Q,hx):=hg;let(its,V,p,hz):=I.tuple Q;let(f0,f1,f2,f3,f4,f5):=hf it (by simp)
  have hl:=V.length;exact wpAny_pyNext_tuple_end (I.ok.hd hc) st (p) (by simp;omega) λh' eb=>(U,I.turned (λb o g e=>eb b o g e) f0 f1 f3 f4 f5)
 self:=λ_ _ _ _ _ st h=>wpAny_pyIter_tupleiter st h
theorem Ds{w:Da}{K:BT}(it:J)(lo:Int)(n:Nat):Turn P w K tg (Itr lo n) [it] it (λi h=>IsRangeIter h it (lo+(i:Nat)*1) ((n:Int) - (i:Nat)) 1) where
 mem:=by simp
 obj:=λi h st b g=>by
  have e:=by simpa using g
  subst e;exact(_,st,λv z=>by
   have z':=z;cases z')
 keep:=λi h h' st k=>k it (by simp) _ st
 item:=by
  intro X hP hw hK Q i gd s σ H E I hf st hg;subst hP hw hK;let(f0,f1,f2,f3,f4,V):=hf it (by simp)
  have W:=Walks.range (prog:=X.prog) (w:=X.w) (I.ok.hd Q) it lo 1 n;refine W.item i s _ _ hg st λv h' tk hv q kk=>?_
  let(t,U):=hv;have I1:Inv X gd σ H {s with heap:=h',toks:=tk}:=I.turned (λb o g e=>kk b o (by simpa using g) e) f0 f1 f3 f4 V
  refine(_,U,Cj q U U (by decide) (.int (lo+i),H,I1,(t,?_),(U,U),q,λb g=>(hf b g).1))
  rw[Int.mul_one]
 done:=by
  intro X hP hw hK Q i gd s σ H E I hf st hg;let(f0,f1,f2,f3,f4,V):=hf it (by simp)
  exact wpAny_pyNext_range_end (I.ok.hd Q) st (by have:n<=i:=hg;lia) λh' eb=>(U,I.turned (λb o g e=>eb b o g e) f0 f1 f3 f4 V)
 self:=λ_ _ _ _ _ st h=>wpAny_pyIter_rangeiter st h
variable{lo:Int}{fp:List J}{iter:EQ}{wi:TI}
section
def LJ(K:BT)(tl:TE):TI:=λσ H R=>tl σ H λx H1=>∃a,x=.ref a/\(∃xs,SqL K H1 a xs)/\R (Itl K a) H1
def O6(K:BT)(tl:TE):TI:=λσ H R=>tl σ H λx H1=>∃a,x=.ref a/\(∃xs,SqT K H1 a xs)/\R (Itt K a) H1
def vg{l:EQ}{tl:TE}(hl:PE X l tl):PI X tg l (LJ X.K tl):=by
 intro gd s σ H R I h;refine thn (hl gd s σ H _ I h) λv s1 z=>?_
 let(x,H1,g,P,Q):=z;let(a,e,(xs,V),q):=Q;subst e;cases P;let(its,rv,p,hz):=g.list V;refine wpAny_pyIter_list p.isList ?_;refine(s1.heap.objs.size,[s1.heap.objs.size],_,_,H1,U,g.kept λb o e=>hL _ e,Hi a _,(_,u0 _ U,U,U),λb hb=>?_,q)
 have e:=by simpa using hb
 subst e;exact g.ID (qd _) (g.hok.fresh (qd _))
def SO{l:EQ}{tl:TE}(hl:PE X l tl):PI X tg l (O6 X.K tl):=by
 intro gd s σ H R I h;refine thn (hl gd s σ H _ I h) λv s1 z=>?_
 let(x,H1,g,P,Q):=z;let(a,e,(xs,V),q):=Q;subst e;cases P;let(its,rv,p,hz):=g.tuple V;refine wpAny_pyIter_tuple (p) ?_;refine(s1.heap.objs.size,[s1.heap.objs.size],_,_,H1,U,g.kept λb o e=>hL _ e,Dr a _,(_,u0 _ U,U,U),λb hb=>?_,q)
 have e:=by simpa using hb
 subst e;exact g.ID (qd _) (g.hok.fresh (qd _))
def J6{σ:St}{R:It->Hp->Prop}{hi:Int}{t u v:Tok}{tk:Nat}(I:Inv X gd σ H s)(h1:-(2 ^ 62)<=lo)(h2:lo<2 ^ 62)(h3:-(2 ^ 62)<=hi)(h4:hi<2 ^ 62)
  (q:R (Itr lo (hi - lo).toNat) H):XV X (pyIter (.ref s.heap.objs.size)) (PIE X gd σ tg R) E {s with heap:=s.heap.push {cls:=.type "range",data:=.fields #[.int lo t,.int hi u,.int 1 v]},toks:=tk}:=by
 refine wpAny_pyIter_range (IsRange.new ..) (small_one h1 h2 h3 h4) ?_;have g:Inv X gd σ H {s with heap:=s.heap.push {cls:=.type "range",data:=.fields #[.int lo t,.int hi u,.int 1 v]},toks:=tk}:=I.kept λb o e=>hL _ e
 refine((s.heap.push {cls:=.type "range",data:=.fields #[.int lo t,.int hi u,.int 1 v]}).objs.size,[(s.heap.push {cls:=.type "range",data:=.fields #[.int lo t,.int hi u,.int 1 v]}).objs.size],_,_,H,U,
  g.kept λb o e=>hL _ e,Ds _ lo (hi - lo).toNat,?_,λb z=>?_,q)
 ·have P:lo+((0:Nat))*1=lo:=by simp
  have K:(((hi - lo).toNat)) - ((0:Nat))=Builtin.Range.rangeSize lo hi 1:=by rw[rangeSize_one];split <;> lia
  rw[P,K];exact u0 _ U
 ·have e:b=(s.heap.push {cls:=.type "range",data:=.fields #[.int lo t,.int hi u,.int 1 v]}).objs.size:=by simpa using z
  subst e;exact g.ID (qd _) (g.hok.fresh (qd _))
def LI(ta:TA):TI:=λσ H R=>ta σ H λvs H1=>∃j:Int,vs=[.int j] /\ -(2 ^ 62)<=j/\j<2 ^ 62/\R (Itr 0 j.toNat) H1
abbrev AD(X:Cx)(e:EQ):Prop:=fx [e] X.env=[(false,eval e X.env)]
def yp{a:EQ}{ta:TA}(hg:Gl X "range")(hm:X.mg "range"=Y)(ha:PA X [a] ta)(hs:‹AD X a›):PI X tg (.Call (.Name "range" p) [a] [] pos) (LI ta):=by
 intro gd s σ H R I h;refine Call_ (nc I hg hm boot_range (PyProof.Rows.callWith_type1 (thn (ha pos gd s σ H _ I h) λus s1 (vs,H1,Q,K,g)=>?_) hs U))
 let(j,e,g,P,q):=g;subst e;cases K with
 |cons r z =>
  cases z;let(t,U):=r;exact call_range_1 (J6 Q (by lia) (by lia) g P (by simpa using q))
def Rt(wi:TI)(g:TG)(tb:TS):TS:=λD σ H=>wi σ H λύ H1=>∃W:Nat->Nat->St->Hp->Prop,(∃m,W 0 m σ H1)/\∀i m σ H,W i m σ H ->
 (ύ.stop i H/\D.nx σ H)\/(ύ.go i H/\∃N:St->Hp->Prop,(∀q H',N q H'->∃m',m'<m/\W (i+1) m' q H')/\∀x H',ύ.yld i H x H'->g x σ H' λz K=>tb {D with nx:=N,ct:=N,bk:=D.nx} z K)
def vR(fp:List J)(h:Ev):List (J×Obj):=fp.filterMap λb=>(h.get? b).map λo=>(b,o)
def ju{h:Ev}{b:J}{o:Obj}(g:b∈fp)(e:h.get? b=Z o):(b,o)∈vR fp h:=Zh.mpr (b,g,by rw[e];rfl)
def HU{h:Ev}{p:J×Obj}(hp:p∈vR fp h):p.1∈fp/\h.get? p.1=Z p.2:=by
 let(b,g,e):=Zh.mp hp;cases q:h.get? b with
 |none=>rw[q]at e;cases e
 |some o =>
  rw[q]at e;have z:=Option.some.inj e;subst z;exact(g,q)
def Inv.pinned{σ:St}(I:Inv X gd σ H s)(hf:∀b∈fp,yc X gd H b)(ho:∀b∈fp,∃o,s.heap.get? b=Z o/\∀v,o.data ≠ .cell v):Inv X (gd++vR fp s.heap) σ H s :=
 I.qL λp hp=>(lS.mp hp).elim (λz=>I.pin p (mu _ z)) λz=>by
  let(g,e):=HU z;let(f0,f1,f2,_):=hf p.1 g;let(o,q,d):=ho p.1 g;rw[e]at q;cases q;exact(e,f0,f1,f2,d)
def Inv.p6{pl:List (J×Obj)}{σ:St}(I:Inv X (gd++pl) σ H s):Inv X gd σ H s:=I.qL λp hp=>I.pin p (mu _ (ot _ hp))
def DW{g:TG}{tb:TS}{pos:Pos}(hp:ZR (model X.prog X.w) X.A X.env X.xe)(hc:X.calm=O)(hi:PI X tg iter wi)(hg:PG X tg g)(P:PSs X body tb)
  (hs:∀x,foldedSetIterable iter X.env x=pure x:=by intro _;rfl):PS X (.For tg iter body [] pos) (Rt wi g tb):=by
 intro gd s σ H D I h;refine wpAny_For (thn (hi gd s σ H _ I h) λv s1 h1=>thn h1 λaV s2 h2=>?_) hs
 let(it,fp,tn,ύ,H2,e,I2,T,aD,f2,W,(m0,w0),turn):=h2;subst e;have RA:∀{H':Hp},(∀b∈fp,H' b=Y)->∀b∈fp,yc X gd H' b:=λhn b P=>(hn b P,(f2 b P).2)
 refine codeAny_forLoop_any (λn s'=>∃i K H',Inv X gd K H' s'/\tn i s'.heap/\(∀b∈fp,H' b=Y)/\W i n K H') ?_ m0 (0,σ,H2,I2,aD,λb P=>(f2 b P).1,w0)
 rintro n s3 ⟨i,z,H3,I3,ak,aq,w3⟩
 obtain⟨stop,qn⟩|⟨go,N,hN,step⟩:=turn i n z H3 w3
 ·refine wpAny_passesOwn hp (thn (T.done X U U U hc i gd s3 z H3 X.xe I3 (RA aq) ak stop) λr s4 Q=>?_)
  let(hr,I4):=Q;subst hr;exact wpAny_execs_nil (z,H3,I4,qn)
 ·refine wpAny_passesOwn hp (thn (T.item X U U U hc i gd s3 z H3 X.xe I3 (RA aq) ak go) λr s4 Q=>?_)
  let(u,hr,h4):=Q;subst hr;refine wpAny_passesOwn hp (thn h4 λ_ s5 Q=>?_)
  let(x,H5,I5,r5,y5,ah,aG):=Q;have aL:=I5.pinned (RA aG) (T.obj _ _ ah);refine wpAny_passesOwn hp (thn (hg _ s5 z H5 x u _ aL r5 (step x H5 y5)) λ_ s6 (av,H6,I6,q6)=>(wpAny_passesOwn hp (thn (P _ s6 av H6 _ I6 q6) λf s7 q7=>?_)))
  have again:∀{q:St}{H7:Hp},Inv X (gd++vR fp s5.heap) q H7 s7->N q H7->∃m,m<n/\∃i K H',Inv X gd K H' s7/\tn i s7.heap/\(∀b∈fp,H' b=Y)/\W i m K H':=λ{q H7} V n7=>by
   let(m',hm,w7):=hN q H7 n7;refine(m',hm,i+1,q,H7,V.p6,T.keep _ _ _ ah λb P o e=>(V.pin (b,o) (mu _ (mu _ (ju P e)))).1,λb P=>?_,w7)
   let(o,e,d):=T.obj _ _ ah b P;exact(V.pin (b,o) (mu _ (mu _ (ju P e)))).2.1
  cases f with
  |next=>let(q,H7,V,n7):=q7;exact again V n7
  |cont=>let(q,H7,V,n7):=q7;exact again V n7
  |brk=>let(q,H7,V,q7):=q7;exact(q,H7,V.p6,q7)
  |ret v=>let(x7,q,H7,V,r7,q7):=q7;exact(x7,q,H7,V.p6,r7,q7)
end
variable{D:Ends}
theorem LY{K:BT}{g:TG}{tb:TS}{σ:St}(Pv:Nat->St->Hp->Prop)(h0:Pv 0 σ H)(hl:∀i σ H,i<=xs.length->Pv i σ H->SqL K H a xs)
  (hs:∀i x σ H,xs[i]?=Z x->Pv i σ H->g x σ H λz V=>tb {D with nx:=Pv (i+1),ct:=Pv (i+1),bk:=D.nx} z V) (hd:∀σ H,Pv xs.length σ H->D.nx σ H):
  ∃W:Nat->Nat->St->Hp->Prop,(∃m,W 0 m σ H)/\∀i m σ H,W i m σ H ->
   ((Itl K a).stop i H/\D.nx σ H)\/((Itl K a).go i H/\∃N:St->Hp->Prop,(∀P H',N P H'->∃m',m'<m/\W (i+1) m' P H')/\∀x H',(Itl K a).yld i H x H'->g x σ H' λz V=>tb {D with nx:=N,ct:=N,bk:=D.nx} z V):=by
 refine(λi m σ H=>m=xs.length - i/\i<=xs.length/\Pv i σ H,(xs.length,by simp,Fs _,h0),?_)
 rintro i m σ H ⟨rfl,hi,p⟩
 have q:=hl i σ H hi p;by_cases Q:i<xs.length
 ·refine .inr ((xs,xs[i],q,by simp[Q]),Pv (i+1),λP H' p'=>(xs.length - (i+1),by omega,U,Q,p'),λx H' y=>?_)
  let(e,y):=y;subst e;exact hs i x σ _ (y xs q) p
 ·have e:i=xs.length:=by lia
  subst e;exact .inl ((xs,q,qd _),hd σ H p)
abbrev R2:=V->V->Hp->VK->Prop
def OpR(X:Cx)(f:B->B->Sem B)(r:R2):Prop :=
 ∀(gd:List (J×Obj))(s:ϋ)(σ:St)(H:Hp)(x y:V)(v u:B)(Q:VK),Inv X gd σ H s->RelV x v->RelV y u->r x y H Q ->
  XV X (f v u) (EP X gd σ Q) X.xe s
def UnR(X:Cx)(f:B->Sem B)(r:V->Hp->VK->Prop):Prop :=
 ∀(gd:List (J×Obj))(s:ϋ)(σ:St)(H:Hp)(x:V)(v:B)(Q:VK),Inv X gd σ H s->RelV x v->r x H Q ->
  XV X (f v) (EP X gd σ Q) X.xe s
def df(X:Cx)(f:B)(r:List V->Hp->VK->Prop):Prop :=
 ∀(gd:List (J×Obj))(s:ϋ)(σ:St)(H:Hp)(xs:List V)(us:List B)(Q:VK),Inv X gd σ H s->Vals xs us->r xs H Q ->
  XV X (call f us) (EP X gd σ Q) X.xe s
def Yt(X:Cx)(r:V->Hp->(Bool->Hp->Prop)->Prop):Prop :=
 ∀(gd:List (J×Obj))(s:ϋ)(σ:St)(H:Hp)(x:V)(v:B)(Q:Bool->Hp->Prop),Inv X gd σ H s->RelV x v->r x H Q ->
  XV X (truthy v) (TP X gd σ Q) X.xe s
def tOp(r:R2)(ta tb:TE):TE:=λσ H Q=>ta σ H λx H1=>tb σ H1 λy g=>r x y g Q
def tUn(r:V->Hp->VK->Prop)(ta:TE):TE:=λσ H Q=>ta σ H λx H1=>r x H1 Q
inductive rI(C:Int->Int->Prop)(g:Int->Int->V)(x:V)(y:V)(H:Hp)(Q:VK):Prop
 |mk(i j:_)(h1:x=.int i)(h2:y=.int j)(h3:C i j)(h4:Q (g i j) H)
inductive rI0(g:Int->Int->V)(x:V)(y:V)(H:Hp)(Q:VK):Prop
 |mk(i j:_)(h1:x=.int i)(h2:y=.int j)(h3:Q (g i j) H)
inductive rU(g:Int->V)(x:V)(H:Hp)(Q:VK):Prop
 |mk(i:_)(h1:x=.int i)(h2:Q (g i) H)
variable{g:Int->Int->Int}
section
variable{a:EQ}{ta tb:TE}{pos:Pos}
def Up(ha:PE X a ta)(hb:PE X b tb){σ:St}{R:V->V->Hp->Prop}(I:Inv X gd σ H s)
  (h:ta σ H λx H1=>tb σ H1 λy g=>R x y g) {Q:B->ϋ->Prop} {f:B->B->Sem B}
  (hf:∀v u s2 x y g,Inv X gd σ g s2->RelV x v->RelV y u->R x y g->XV X (f v u) Q X.xe s2):
  XV X (eval a X.env) (λv q=>XV X (eval b X.env) (λu s₂=>XV X (f v u) Q X.xe s₂) X.xe q) X.xe s:=by
 exact thn (ha gd s σ H _ I h) λv s1 (x,H1,I1,K,q1)=>(thn (hb gd s1 σ H1 _ I1 q1) λu s2 (y,g,I2,z,P)=>(hf v u s2 x y g I2 K z P))
def fC{op:Operator}{r:R2}(ho:OpR X (binaryOp op) r)(ha:PE X a ta)(K:PE X b tb):PE X (.BinOp a op b pos) (tOp r ta tb):=by
 intro gd s σ H Q I h;exact wpAny_BinOp (Up ha K I h λv u s2 x y V P z g q=>ho gd s2 σ V x y v u Q P z g q)
def FZ{op:UnaryOp}{r:V->Hp->VK->Prop}(ho:UnR X (unaryOp op) r)(ha:PE X a ta):PE X (.UnaryOp op a pos) (tUn r ta):=by
 intro gd s σ H Q I h;exact UnaryOp_ (thn (ha gd s σ H _ I h) λv s1 (x,H1,z,g,q)=>ho gd s1 σ H1 x v Q z g q)
def opI{f:B->B->Sem B}{C:Int->Int->Prop}
  (rule:∀(i j:Int)(t u:Tok)(s:ϋ)(Q:B->ϋ->Prop)(E:B->ϋ->Prop),C i j->Q (.int (g i j) s.toks) {s with toks:=s.toks+1}->XV X (f (.int i t) (.int j u)) Q E s):
  OpR X f (rI C λi j=>.int (g i j)):=by
 intro gd s σ H x y v u Q I K z h;let(i,j,U,U,P,q):=h;let(t,U):=K;let(t',U):=z;exact rule i j t t' s _ _ P (.int (g i j),H,I.tok _,(_,U),q)
def V5{f:B->B->Sem B}
  (rule:∀(i j:Int)(t u:Tok)(s:ϋ)(Q:B->ϋ->Prop)(E:B->ϋ->Prop),Q (.int (g i j) s.toks) {s with toks:=s.toks+1}->XV X (f (.int i t) (.int j u)) Q E s):
  OpR X f (rI0 λi j=>.int (g i j)):=by
 intro gd s σ H x y v u Q I K z h;let(i,j,U,U,q):=h;let(t,U):=K;let(t',U):=z;exact rule i j t t' s _ _ (.int (g i j),H,I.tok _,(_,U),q)
def OJ{f:B->B->Sem B}{g:Int->Int->Bool}
  (rule:∀(i j:Int)(t u:Tok)(s:ϋ)(Q:B->ϋ->Prop)(E:B->ϋ->Prop),Q (.bool (g i j)) s->XV X (f (.int i t) (.int j u)) Q E s):
  OpR X f (rI0 λi j=>.bl (g i j)):=by
 intro gd s σ H x y v u Q I K z h;let(i,j,U,U,q):=h;let(t,U):=K;let(t',U):=z;exact rule i j t t' s _ _ (.bl (g i j),H,I,U,q)
def YC(i j:Int):Prop:=0<=j/\j<=1000000/\i.natAbs<2 ^ 64
def MZ(i j:Int):Prop:=(-(2 ^ 64)<i/\i<2 ^ 64)\/(-(2 ^ 64)<j/\j<2 ^ 64)
def MZ.ok{i j:Int}(h:MZ i j):IntMulOk i j:=by
 obtain⟨h1,h2⟩|⟨h1,h2⟩:=h
 ·exact .of_left (intBits_le_64 h1 h2)
 ·exact .of_right (intBits_le_64 h1 h2)
def sU:OpR X (binaryOp .Add) (rI0 λi j=>.int (i+j)):=V5 λ_ _ _ _ _ _ _ q=>add_int q
def Ld:OpR X (binaryOp .Sub) (rI0 λi j=>.int (i - j)):=V5 λ_ _ _ _ _ _ _ q=>sub_int q
def pE:OpR X (binaryOp .Mult) (rI MZ λi j=>.int (i*j)):=opI λ_ _ _ _ _ _ _ g q=>mul_int q g.ok
def lz:OpR X (binaryOp .Mod) (rI (λ_ j=>0<j) λi j=>.int (i % j)):=opI λi j _ _ _ _ _ g q=>by
 exact mod_int' (by lia) (by rw[Int.fmod_eq_emod_of_nonneg i (by lia)];exact q)
def SX:OpR X (binaryOp .Pow) (rI YC λi j=>.int (i ^ j.toNat)):=opI λ_ _ _ _ _ _ _ g q=>pow_int_small g.1 g.2.1 g.2.2 q
def unI{f:B->Sem B}{g:Int->Int}
  (rule:∀(i:Int)(t:Tok)(s:ϋ)(Q:B->ϋ->Prop)(E:B->ϋ->Prop),Q (.int (g i) s.toks) {s with toks:=s.toks+1}->XV X (f (.int i t)) Q E s):
  UnR X f (rU λi=>.int (g i)):=by
 intro gd s σ H x v Q I z h;let(i,U,q):=h;let(t,U):=z;exact rule i t s _ _ (.int (g i),H,I.tok _,(_,U),q)
def zf:UnR X (unaryOp .USub) (rU λi=>.int (-i)):=unI λ_ _ _ _ _ q=>neg_int q
end
def Nz:V->V->Bool
 |.non,.non=>O|.non,.int _=>O|.int _,.non=>O|.non,.bl _=>O|.bl _,.non=>O|.non,.str _=>O|.str _,.non=>O
 |.int _,.int _=>O|.bl _,.bl _=>O|.str _,.str _=>O|.byt _,.byt _=>O
 |.int _,.str _=>O|.str _,.int _=>O|.bl _,.str _=>O|.str _,.bl _=>O
 |_,_=>ϊ
def rEq:R2:=λx y H Q=>Nz x y=O/\Q (.bl (decide (x=y))) H
def rNe:R2:=λx y H Q=>Nz x y=O/\Q (.bl (!decide (x=y))) H
def GC{i j:Int}:decide (V.int i=V.int j)=(i==j):=by
 rw[Zu];simp
def Mh{i j:Bool}:decide (V.bl i=V.bl j)=(i==j):=by
 rw[Zu];simp
def GB{i j:Str}:decide (V.str i=V.str j)=(i==j):=by
 rw[Zu];simp
def GD{i j:Array UInt8}:decide (V.byt i=V.byt j)=(i.toList==j.toList):=by
 rw[Zu];cases i;cases j;simp
variable{r':R2}{its:List B}{y:V}
section
variable{a c:EQ}{ta tb tc:TE}{pos:Pos}
def bC{σ:St}{Q:VK}{k k':Bool}(I:Inv X gd σ H s)(q:Q (.bl k) H)(e:k=k'):EP X gd σ Q (.bool k') s:=by
 subst e;exact(.bl k,H,I,U,q)
theorem Qe:OpR X (compareOp .Eq) rEq:=by
 intro gd s σ H x y v u Q I z g h;let(hs,q):=h;cases x with
 |non =>
  cases z;cases y with
  |non=>cases g;exact PySem.EqNone.eq_none_none (bC I q (by simp))
  |bl j=>cases g;exact PySem.EqNone.eq_none_bool (bC I q (by simp))
  |int j=>let(t',U):=g;exact PySem.EqNone.eq_none_int (bC I q (by simp))
  |str j=>let(t',U):=g;exact PySem.EqNone.eq_none_str (bC I q (by simp))
  |_=>exact absurd (show ϊ=O from hs) r8
 |bl i =>
  cases z;cases y with
  |non=>cases g;exact PySem.EqNone.eq_bool_none (bC I q (by simp))
  |bl j=>cases g;exact eq_bool (bC I q Mh)
  |str j=>let(t',U):=g;exact PySem.EqMixed.eq_bool_str (bC I q (by simp))
  |_=>exact absurd (show ϊ=O from hs) r8
 |int i =>
  let(t,U):=z;cases y with
  |non=>cases g;exact PySem.EqNone.eq_int_none (bC I q (by simp))
  |int j=>let(t',U):=g;exact eq_int (bC I q GC)
  |str j=>let(t',U):=g;exact PySem.EqMixed.eq_int_str (bC I q (by simp))
  |_=>exact absurd (show ϊ=O from hs) r8
 |str i =>
  let(t,U):=z;cases y with
  |non=>cases g;exact PySem.EqNone.eq_str_none (bC I q (by simp))
  |bl j=>cases g;exact PySem.EqMixed.eq_str_bool (bC I q (by simp))
  |int j=>let(t',U):=g;exact PySem.EqMixed.eq_str_int (bC I q (by simp))
  |str j=>let(t',U):=g;exact eq_str (bC I q GB)
  |_=>exact absurd (show ϊ=O from hs) r8
 |byt i =>
  let(t,U):=z;cases y with
  |byt j=>let(t',U):=g;exact W.eq_bytes (bC I q GD)
  |_=>exact absurd (show ϊ=O from hs) r8
 |_=>cases y <;> exact absurd (show ϊ=O from hs) r8
theorem hV:OpR X (compareOp .NotEq) rNe:=by
 intro gd s σ H x y v u Q I z g h;let(hs,q):=h;cases x with
 |non =>
  cases z;cases y with
  |non=>cases g;exact PySem.EqNone.ne_none_none (bC I q (by simp))
  |bl j=>cases g;exact PySem.EqNone.ne_none_bool (bC I q (by simp))
  |int j=>let(t',U):=g;exact PySem.EqNone.ne_none_int (bC I q (by simp))
  |str j=>let(t',U):=g;exact PySem.EqNone.ne_none_str (bC I q (by simp))
  |_=>exact absurd (show ϊ=O from hs) r8
 |bl i =>
  cases z;cases y with
  |non=>cases g;exact PySem.EqNone.ne_bool_none (bC I q (by simp))
  |bl j=>cases g;exact ne_bool (bC I q (congrArg not Mh))
  |str j=>let(t',U):=g;exact PySem.EqMixed.ne_bool_str (bC I q (by simp))
  |_=>exact absurd (show ϊ=O from hs) r8
 |int i =>
  let(t,U):=z;cases y with
  |non=>cases g;exact PySem.EqNone.ne_int_none (bC I q (by simp))
  |int j=>let(t',U):=g;exact ne_int (bC I q (congrArg not GC))
  |str j=>let(t',U):=g;exact PySem.EqMixed.ne_int_str (bC I q (by simp))
  |_=>exact absurd (show ϊ=O from hs) r8
 |str i =>
  let(t,U):=z;cases y with
  |non=>cases g;exact PySem.EqNone.ne_str_none (bC I q (by simp))
  |bl j=>cases g;exact PySem.EqMixed.ne_str_bool (bC I q (by simp))
  |int j=>let(t',U):=g;exact PySem.EqMixed.ne_str_int (bC I q (by simp))
  |str j=>let(t',U):=g;exact ne_str (bC I q (congrArg not GB))
  |_=>exact absurd (show ϊ=O from hs) r8
 |byt i =>
  let(t,U):=z;cases y with
  |byt j=>let(t',U):=g;exact W.ne_bytes (bC I q (congrArg not GD))
  |_=>exact absurd (show ϊ=O from hs) r8
 |_=>cases y <;> exact absurd (show ϊ=O from hs) r8
def Qa:OpR X (compareOp .Lt) (rI0 λi j=>.bl (decide (i<j))):=OJ λ_ _ _ _ _ _ _ q=>lt_int q
def Qc:OpR X (compareOp .LtE) (rI0 λi j=>.bl (decide (i<=j))):=OJ λ_ _ _ _ _ _ _ q=>le_int q
def Ga:OpR X (compareOp .Gt) (rI0 λi j=>.bl (decide (j<i))):=OJ λ_ _ _ _ _ _ _ q=>gt_int q
def Qd:OpR X (compareOp .GtE) (rI0 λi j=>.bl (decide (j<=i))):=OJ λ_ _ _ _ _ _ _ q=>ge_int q
def HN:OpR X (compareOp .In) (λx y H Q=>∃i j,x=.str i/\y=.str j/\Q (.bl (!(Builtin.Str.occurrences j i 0 j.length 1).isEmpty)) H):=by
 intro gd s σ H x y v u Q I z g h;let(i,j,U,U,q):=h;let(t,U):=z;let(t',U):=g;exact in_str (bC I q U)
def F9:OpR X (compareOp .IsNot) (λx y H Q=>y=.non/\Q (.bl (!decide (x=.non))) H):=by
 intro gd s σ H x y v u Q I z g h;let(U,q):=h;cases g;refine isnot_none_gen (bC I q ?_);cases x <;>(let(t,U):=z;rfl)
def zG:OpR X (compareOp .NotIn) (λx y H Q=>∃i j,x=.str i/\y=.str j/\Q (.bl (!(!(Builtin.Str.occurrences j i 0 j.length 1).isEmpty))) H):=by
 intro gd s σ H x y v u Q I z g h;let(i,j,U,U,q):=h;let(t,U):=z;let(t',U):=g;exact notIn_str (bC I q U)
def OpR.or{f:B->B->Sem B}{r:R2}(h:OpR X f r)(h':OpR X f r'):OpR X f (λx y H Q=>r x y H Q\/r' x y H Q):=by
 intro gd s σ H x y v u Q I z g q;obtain q|q:=q
 ·exact h gd s σ H x y v u Q I z g q
 ·exact h' gd s σ H x y v u Q I z g q
def a8(b:EQ)(h:op ≠ .In:=by decide)(h2:op ≠ .NotIn:=by decide):behindInMarks op b=false:=Lj b h h2
def OB{r:R2}(ho:OpR X (compareOp op) r)(ha:PE X a ta)(K:PE X b tb)(hm:behindInMarks op b=ϊ):PE X (.Compare a [op] [b] pos) (tOp r ta tb):=by
 intro gd s σ H Q I h;exact wpAny_Compare1 (Up ha K I h λv u s2 x y V P z g q=>ho gd s2 σ V x y v u Q P z g q) hm
def A0(t:TE):TT:=λσ H Q=>t σ H λx H'=>∃k,x=.bl k/\Q k H'
def nQ{r:R2}(ho:OpR X (compareOp op) r)(ha:PE X a ta)(hb:PE X b tb)(hm:behindInMarks op b=ϊ):PT X (.Compare a [op] [b] pos) (A0 (tOp r ta tb)):=by
 intro gd s σ H Q I h;refine wpAny_isTrue_Compare1 (thn (ha gd s σ H _ I h) λv s1 (x,H1,I1,K,q1)=>thn (hb gd s1 σ H1 _ I1 q1) λu s2 (y,H2,I2,q,V) =>
  thn (ho gd s2 σ H2 x y v u _ I2 K q V) λc s3 (z,H3,I3,g,k,e,P)=>?_) hm
 subst e;cases g;exact wpAny_truthy_bool (H3,I3,P)
def Jz(r r':R2)(ta tb tc:TE):TE:=λσ H Q=>ta σ H λx H1=>tb σ H1 λy P=>r x y P λz g=>∃k,z=.bl k /\
 (if k=O then tc σ g λq K=>r' y q K Q else Q (.bl ϊ) g)
def Lc{g:CmpOp}{r:R2}(ho:OpR X (compareOp op) r)(q:OpR X (compareOp g) r')(ha:PE X a ta)(hb:PE X b tb)(hc:PE X c tc)
  (hm:lastMarks [op,g] [b,c]=false:=by with_unfolding_all rfl):PE X (.Compare a [op,g] [b,c] pos) (Jz r r' ta tb tc):=by
 intro gd s σ H Q I h;refine Compare_chain (thn (ha gd s σ H _ I h) λv s1 (x,H1,I1,r1,q1)=>chain_link (thn (hb gd s1 σ H1 _ I1 q1) λu s2 (y,H2,I2,K,q2) =>
  thn (ho gd s2 σ H2 x y v u _ I2 r1 K q2) λd s3 (z,H3,V,r3,k,e,P)=>?_)) hm
 subst e;cases r3;refine wpAny_truthy_bool ?_;cases k with
 |false=>exact ite_ff (.bl ϊ,H3,V,U,P)
 |true=>exact ite_tt (chain_last (thn (hc gd s3 σ H3 _ V P) λw' s4 (z',H4,I4,r4,q4)=>q gd s4 σ H4 y z' u w' Q I4 K r4 q4))
def PD(K:BT)(x:V)(H:Hp)(k:Bool):Prop :=
 match x with
 |.non=>k=ϊ
 |.bl b=>k=b
 |.int i=>k=(i != 0)
 |.str y=>y.length<=px/\k=((y.length:Int) != 0)
 |.byt y=>y.size<=px/\k=((y.size:Int) != 0)
 |.ref p=>(∃xs,SqL K H p xs/\k = !xs.isEmpty)\/(∃xs,SqT K H p xs/\k = !xs.isEmpty)\/∃kvs,H p=Z (.dK kvs)/\k = !kvs.isEmpty
 |_=>False
def EA{κ:Type}{kvs:List (κ×V)}{vs:List (κ×B)}(r:KV kvs vs):(!vs.isEmpty) = !kvs.isEmpty:=by
 cases r <;> rfl
def wu(r:Vals xs its):(!its.toArray.isEmpty) = !xs.isEmpty:=by
 cases r <;> simp
def pL:(px:Nat)<2 ^ 63:=by decide
theorem Rl:Yt X (λx H Q=>∃k,PD X.K x H k/\Q k H):=by
 intro gd s σ H x v Q I z h;let(k,e,q):=h;have hl:=pL;have hs:px=16777216:=Y0;cases x with
 |non =>
  cases z;have g:k=false:=e;subst g;exact truthy_none (H,I,q)
 |bl b =>
  cases z;have g:k=b:=e;subst g;exact wpAny_truthy_bool (H,I,q)
 |int i =>
  let(t,U):=z;have g:k=(i != 0):=e;subst g;exact PySem.P.truthy_int (H,I,q)
 |str y =>
  let(t,U):=z;let(hy,g):=e;subst g;exact PySem.P.truthy_str (by omega) (H,I.tok _,q)
 |byt y =>
  let(t,U):=z;let(hy,g):=e;subst g;exact W.truthy_bytes (by omega) (H,I.tok _,q)
 |ref p =>
  cases z;have g:=e;obtain⟨xs,hx,g⟩|⟨xs,hx,g⟩|⟨kvs,hx,g⟩:=g
  ·subst g;let(its,r,pl,V):=I.list hx;have hlen:=r.length;exact wpAny_truthy_list pl.isList (by simp only[u3];omega) (H,I.tok _,by rw[wu r];exact q)
  ·subst g;let(its,r,pl,V):=I.tuple hx;have hlen:=r.length;exact truthy_tuple pl (by simp only[u3];omega) (H,I.tok _,by rw[wu r];exact q)
  ·subst g;let(V,hS,vs,r,m):=I.hok p _ hx;have hlen:kvs.length=vs.length:=Paired.length r;exact wpAny_truthy_dict hS m (by omega) (H,I.tok _,by rw[EA r];exact q)
 |_=>exact(show False from e).elim
def KN(ha:PE X a ta)(he:∀whole,isTrue a X.env whole=(do let v <- whole;standAt a.pos;holding [v] (truthy v))):
  PT X a (λσ H Q=>ta σ H λx H'=>∃k,PD X.K x H' k/\Q k H'):=by
 intro gd s σ H Q I h;exact isTrue_plain (thn (ha gd s σ H _ I h) λv s1 (x,H1,z,g,q)=>Rl gd s1 σ H1 x v Q z g q) (he _)
def Ea:OpR X (binaryOp .Add) (λx y H Q=>∃i j,x=.str i/\y=.str j/\i.length+j.length<=px/\Q (.str (i++j)) H):=by
 intro gd s σ H x y v u Q I z g h;let(i,j,U,U,K,q):=h;let(t,U):=z;let(t',U):=g;exact add_str (λt' tk=>(.str (i++j),H,I.tok _,(_,U),q)) K
def vals1{x:V}(r:Vals [x] us):∃u,us=[u]/\RelV x u:=by
 cases r with
 |cons q g=>cases g;exact(_,U,q)
def vals2{x:V}(r:Vals [x,y] us):∃u g,us=[u,g]/\RelV x u/\RelV y g:=by
 cases r with
 |cons P K =>
  cases K with
  |cons z q=>cases q;exact(_,_,U,P,z)
def yK(z:X.calm=O):df X (.builtin "max") (λxs H Q=>∃i j,xs=[.int i,.int j]/\Q (.int (if j > i then j else i)) H):=by
 intro gd s σ H xs us Q I r h;let(i,j,U,q):=h;let(u,K,U,(t,U),(t',U)):=vals2 r;refine max_two_ints (I.ok.hd z) λh' tk k=>(_,H,I.kept k,?_,q)
 by_cases g:j > i
 ·rw[if_pos g,if_pos g];exact(_,U)
 ·rw[if_neg g,if_neg g];exact(_,U)
def IT(z:X.calm=O):df X (.builtin "min") (λxs H Q=>∃i j,xs=[.int i,.int j]/\Q (.int (if j<i then j else i)) H):=by
 intro gd s σ H xs us Q I r h;let(i,j,U,q):=h;let(u,K,U,(t,U),(t',U)):=vals2 r;refine min_two_ints (I.ok.hd z) λh' tk k=>(_,H,I.kept k,?_,q)
 by_cases g:j<i
 ·rw[if_pos g,if_pos g];exact(_,U)
 ·rw[if_neg g,if_neg g];exact(_,U)
def dI:df X (.type "int") (λxs H Q=>(∃i,xs=[.int i]/\Q (.int i) H)\/∃k,xs=[.bl k]/\Q (.int (if k then 1 else 0)) H):=by
 intro gd s σ H xs us Q I r h;obtain⟨i,rfl,q⟩|⟨k,rfl,q⟩:=h
 ·let(u,U,t,U):=vals1 r;exact call_int_int (.int i,H,I,(_,U),q)
 ·let(u,U,g):=vals1 r;cases g;exact call_int_bool (.int (if k then 1 else 0),H,I.tok _,(_,U),q)
end
structure E4(h:Ev)(x dx C:J)(mA:Str->Option B):Prop where
 obj:h.get? x=Z (W.instObj C dx)
 ns:h.Ns1 dx mA
 ne:dx≠x
variable{mA:Str->Option B}
theorem Ig{h:Ev}{dx:J}(n:h.Ns1 dx mA):∃od,h.get? dx=Z od/\∀name,W.lookIn name od=Z (mA name):=by
 let(o,es,V,ho,hd,K,_,hm):=n;refine(o,ho,λname=>?_)
 have e:=hm name;unfold nsFind findBy at e;rw[<- aa3]at e;unfold W.lookIn;rw[hd];dsimp only
 split
 ·rename_i y q;rw[q]at e;exact congrArg Z e
 ·rename_i q;rw[q]at e;have a:es.toList.any (·.refKey)=false:=by
   rw[List.any_eq_false];intro y g;let(z,t,Q):=K y (Array.mem_toList_iff.mp g);simp[DictEntry.refKey,Q]
  have P:¬ es.toList.any (·.refKey)=true:=by rw[a];exact r8
  rw[if_neg P];exact congrArg Z e
variable{C:J}
theorem E4.look{h:Ev}{x dx:J}(I:E4 h x dx C mA):∃od,W.InstAt h x (W.instObj C dx) C (Z od)/\∀name,W.lookIn name od=Z (mA name) :=
 let(od,ho,hl):=Ig I.ns
 (od,(I.obj,U,U,ho),hl)
variable{pl:Sem Bool}{ns:List Str}{R:Result->ϋ->Prop}{kw:List (Str×B)}
section
variable{prog:Db}{w:Da}{K:BT}{x dx f:J}{name:Str}{v:B}
theorem get_map{expr:Bool}(X:K.In s.heap)(I:E4 s.heap x dx C mA)(hg:W.plainGet K C name=O)(q:W.hasDictIn K C=O)
  (ha:W.findIn K (.ref C) name=Z Y) (hv:mA name=Z v) (g:W.handedIn v=O) (h:Q v {s with toks:=s.toks+1}):
  wpAny (model prog w) A (getAttr (.ref x) name expr) Q E s:=by
 let(od,ύ,hl):=I.look;exact W.get_value X ύ (W.plainGet_of hg).1 (W.findObj_own q ha U (by rw[hl,hv])) g h
theorem LU{Q:B×List B->ϋ->Prop}(X:K.In s.heap)(I:E4 s.heap x dx C mA)(hg:W.plainGet K C name=O)
  (hf:W.findIn K (.ref C) name=Z (Z (.ref f))) (g:W.isFn K (.ref f)=O) (hv:mA name=Y) (h:Q (.ref f,[.ref x]) s):
  wpAny (model prog w) A (getMethod (.ref x) name pl) Q E s:=by
 let(od,ύ,hl):=I.look;exact W.method_fn X ύ (W.plainGet_of hg).1 (W.plainGet_of hg).2 hf (beq_iff_eq.mp g) (by show(W.lookIn name od).map (·.isSome)=Z ϊ;rw[hl,hv];rfl) h
theorem Ny{Q:Unit->ϋ->Prop}(X:K.In s.heap)(I:E4 s.heap x dx C mA)
  (hs:W.findIn K (.ref C) "__setattr__"=Z (Z (.builtin "object.__setattr__"))) (hp:W.plainOver K C=O) (ht:W.takerIn K C name=Z Y) (hh:W.hasDictIn K C=O)
  (hw:PySem.Within mA ns) (hsz:ns.length<=px)
  (h:∀h',E4 h' x dx C (λy=>if y=name then Z v else mA y)->Zk dx s.heap h'->Q () {s with heap:=h',toks:=s.toks+2}):
  wpAny (model prog w) A (setAttr (.ref x) name v) Q E s:=by
 let(od,ύ,hl):=I.look;refine W.set_plain X ύ hs (W.osa_open X ύ hp ht λb=>?_)
 let(cd,hc,V):=W.any_some hh;have hx:=I.obj;refine dO (u7 (dO (dO (wpAny_loadPart hx (dO (W.Looks.here (W.looks_clsIn X hc) ?_))))));rw[V];refine u7 (dO (u7 (dO ?_)));refine wpAny_nsSet1 I.ns λh' q g=>?_
 let(oD,ak,aq,z,P,ah):=q.count (PySem.Within.cons name v hw);exact dO (wpAny_lookBehind z (by rw[P];exact pastItsLine_dict (u6 ah (by rw[mD];omega))) (u7 (h _ ((g.2 _ (Ne.symm I.ne)).trans I.obj,q,I.ne) g)))
theorem Lo{vs:List B}(X:K.In s.heap)(hm:W.makesIn K C=O)
  (hi:W.findIn K (.ref C) "__init__"=Z (Z (.ref f))) (hf:W.typeIn K (.ref f)=Z (.type "function"))
  (h:codeAny (model prog w) (A.under (.builtin "type.__call__" (.ref C::vs,kw))) (.call (.ref f) (.ref (s.heap.objs.size+1)::vs,kw)) (W.InitBack (s.heap.objs.size+1) R)
   {s with heap:=(s.heap.push W.emptyDict).push (W.instObj C s.heap.objs.size)}):
  codeAny (model prog w) A (.call (.ref C) (vs,kw)) R s:=by
 exact W.make_core (W.makes_of X hm) (W.looks_findIn X hi) (λself=>W.bind_fn X self hf) (.inl U) h
end
def fA(f:Str)(v:V):List (Str×V)->List (Str×V)
 |[]=>[(f,v)]
 | (g,x)::r=>if g=f then(g,v)::r else(g,x)::fA f v r
theorem m7(f g:Str)(v:V):∀fs:List (Str×V),(fA f v fs).lookup g=if g=f then Z v else fs.lookup g
 |[]=>by
  show YQ g [(f,v)]=_;by_cases h:g=f
  ·have q:=beq_iff_eq.mpr h;simp only[YQ,q,if_pos h]
  ·have q:=beq_eq_false_iff_ne.mpr h;simp only[YQ,q,if_neg h]
 | (k,x)::r=>by
  have K:=m7 f g v r;rw[show fA f v ((k,x)::r)=(if k=f then(k,v)::r else(k,x)::fA f v r)from rfl]
  by_cases z:k=f
  ·rw[if_pos z];by_cases h:g=k
   ·have q:=beq_iff_eq.mpr h;simp only[YQ,q,if_pos (h.trans z)]
   ·have q:=beq_eq_false_iff_ne.mpr h;simp only[YQ,q,if_neg (λe:g=f=>h (e.trans z.symm))]
  ·rw[if_neg z];by_cases h:g=k
   ·have q:=beq_iff_eq.mpr h;simp only[YQ,q,if_neg (λe=>z (h.symm.trans e))]
   ·have q:=beq_eq_false_iff_ne.mpr h;simp only[YQ,q];exact K
theorem kH(f:Str)(v:V):∀fs:List (Str×V),f∈(fA f v fs).map (·.1)/\∀g,g∈fs.map (·.1)->g∈(fA f v fs).map (·.1)
 |[]=>(by simp[fA],λg h=>by simp at h)
 | (k,x)::r=>by
  let(K,z):=kH f v r;rw[show fA f v ((k,x)::r)=(if k=f then(k,v)::r else(k,x)::fA f v r)from rfl]
  by_cases q:k=f
  ·rw[if_pos q];subst q;exact(by simp,λg h=>by simpa using h)
  ·rw[if_neg q];refine(?_,λg h=>?_)
   ·exact aJ _ K
   ·obtain e|e:=fH.mp h
    ·exact fH.mpr (.inl e)
    ·exact aJ _ (z g e)
theorem uk(f:Str)(v:V):∀fs:List (Str×V),(fA f v fs).length<=fs.length+1
 |[]=>by simp[fA]
 | (k,x)::r=>by
  have q:=uk f v r;rw[show fA f v ((k,x)::r)=(if k=f then(k,v)::r else(k,x)::fA f v r)from rfl]
  by_cases g:k=f
  ·rw[if_pos g,mD,mD];lia
  ·rw[if_neg g,mD,mD];lia
def lR.some_of{v:V}{o:Option B}(r:lR (Z v) o):∃u,o=Z u/\RelV v u:=by
 cases o with
 |none=>exact(r).elim
 |some u=>exact(u,U,r)
def lR.none_of{o:Option B}(r:lR Y o):o=none:=by
 cases o with
 |none=>rfl
 |some u=>exact(r).elim
theorem yy{v:V}(r:RelV v u):W.handedIn u=true:=by
 cases v with
 |non=>cases(r);rfl
 |bl b=>cases(r);rfl
 |int i=>let(t,e):=(r);cases e;rfl
 |str x=>let(t,e):=(r);cases e;rfl
 |byt b=>let(t,e):=(r);cases e;rfl
 |flt b=>let(t,e):=(r);cases e;rfl
 |ref a=>cases(r);rfl
 |ty n=>cases(r);rfl
section
variable{w:Da}{h:Ev}{dx:J}{fs:List (Str×V)}
def vk(hok:HOk P w H h)(e:H a=Z (.ins C dx fs)):∃mA,E4 h a dx C mA/\(∀f,lR (fs.lookup f) (mA f))/\PySem.Within mA (fs.map (·.1))/\fs.length<=1000/\H dx=Z (.own a):=by
 let(d,z,ne,ob,mA,n,r,q):=(hok a _ e);exact(mA,(ob,n,ne),r,q,z,d)
end
structure Cls(K:BT)(C:J):Prop where
 pg:W.plainGet K C Str.empty=O
 hd:W.hasDictIn K C=O
 po:W.plainOver K C=O
 sa:W.findIn K (.ref C) "__setattr__"=Z (Z (.builtin "object.__setattr__"))
theorem Cls.get{K:BT}(c:Cls K C)(f:Str):W.plainGet K C f=true:=c.pg
def bU(K:BT)(C:J)(f:Str):Prop:=W.findIn K (.ref C) f=Z Y
theorem bU.U4{K:BT}{f:Str}(n:bU K C f):W.takerIn K C f=Z none:=by
 unfold W.takerIn;rw[n];rfl
structure Meth(K:BT)(C:J)(m:Str)(f:J):Prop where
 at_:W.findIn K (.ref C) m=Z (Z (.ref f))
 fn:W.isFn K (.ref f)=O
 kp:W.keepIn K (.ref f)=O
variable{m:Str}{env:Env}
section
variable{σ:St}{dx:J}{fs:List (Str×V)}{f:Str}{v:V}
def wC{b:Bool}(I:Inv X gd σ H s)(e:H a=Z (.ins C dx fs))(c:Cls X.K C)(n:bU X.K C f)(l:fs.lookup f=Z v)
  (h:∀u s',Inv X gd σ H s'->RelV v u->Q u s'):wpAny (model X.prog X.w) A (getAttr (.ref a) f b) Q E s:=by
 let(mA,ϊ,r,_,_,_):=vk I.hok e;let(u,g,ru):=lR.some_of (by rw[<- l];exact r f)
 exact get_map I.kIn ϊ (c.get f) c.hd n g (yy ru) (h u _ (I.tok _) ru)
def lK{g:J}{Q:B×List B->ϋ->Prop}(I:Inv X gd σ H s)(e:H a=Z (.ins C dx fs))(c:Cls X.K C)(k:Meth X.K C m g)(l:fs.lookup m=Y)
  (h:Q (.ref g,[.ref a]) s):wpAny (model X.prog X.w) A (getMethod (.ref a) m pl) Q E s:=by
 let(mA,ϊ,r,_,_,_):=vk I.hok e;have hn:=lR.none_of (by rw[<- l];exact r m)
 exact LU I.kIn ϊ (c.get m) k.at_ k.fn hn h
def vG{Q:Unit->ϋ->Prop}(I:Inv X gd σ H s)(e:H a=Z (.ins C dx fs))(c:Cls X.K C)(n:bU X.K C f)(hl:fs.length<1000)(V:RelV y u)
  (h:∀s',Inv X gd σ (upd H a (.ins C dx (fA f y fs))) s'->Q () s'):wpAny (model X.prog X.w) A (setAttr (.ref a) f u) Q E s:=by
 let(mA,ϊ,r,wi,_,ho):=vk I.hok e;have hz:(fs.map (·.1)).length<=px:=by rw[gV,Y0];lia
 refine Ny I.kIn ϊ c.sa c.po n.U4 c.hd wi hz λh' P sb=>h _ ?_
 have hd:∃o,h'.get? dx=Z o:=let(o,_,_,e',_):=P.ns;(o,e')
 refine I.write (x:=a) (e:=dx) (by rw[e];exact True.intro) (.inr ho) (λb q hb z=>(sb.2 b hb).trans z) hd (by rw[aw ϊ.ne];exact ho,?_,ϊ.ne,P.obj,_,P.ns,λg=>?_,λg hg=>?_)
 ·have:=uk f y fs;lia
 ·rw[m7];by_cases q:g=f
  ·rw[if_pos q,if_pos q];exact V
  ·rw[if_neg q,if_neg q];exact r g
 ·by_cases q:g=f
  ·rw[q];exact(kH f y fs).1
  ·refine(kH f y fs).2 g (wi g λz=>hg ?_)
   show(if g=f then Z u else mA g)=Y
   rw[if_neg q];exact z
theorem Inv.made(I:Inv X gd σ H s):Inv X gd σ (upd (upd H s.heap.objs.size (.own (s.heap.objs.size+1))) (s.heap.objs.size+1) (.ins C s.heap.objs.size []))
  {s with heap:=(s.heap.push W.emptyDict).push (W.instObj C s.heap.objs.size)}:=by
 have g:(s.heap.push W.emptyDict).get? s.heap.objs.size=Z W.emptyDict:=u0 s.heap U;have P:=by
  have:=u0 (s.heap.push W.emptyDict) (o:=W.instObj C s.heap.objs.size) U
  rwa [WN]at this
 have K:(s.heap.push W.emptyDict).Ns s.heap.objs.size (λ_=>Y):=(W.emptyDict,#[],_,g,U,(λe he=>absurd he (by simp)),λ_=>rfl)
 have Q:=I.laid (o:=.own (s.heap.objs.size+1)) (t':=s.toks) (λb u q=>hL _ q) (qd _) (_,g)
 refine Q.laid (λb u q=>hL _ q) (ZS (WN _ _)) ?_
 have ne:s.heap.objs.size≠s.heap.objs.size+1:=AG (YV _);refine(by rw[aw ne,aC],Fs _,ne,P,λ_=>Y,(Heap.Ns1.of_empty K).at λo q=>hL _ q,λ_=>True.intro,λy z=>absurd U z)
def GL{prog:Db}{w:Da}{f:Str}(q:attributeBase e f env (eval e env)=eval e env)
  (h:wpAny (model prog w) A (eval e env) (λo g=>wpAny (model prog w) A (getAttr o f O) Q E g) E s):wpAny (model prog w) A (eval (.Attribute e f pos) env) Q E s :=
 Attribute_any_ h (by rw[arm_eval_Attribute,q])
end
def Ru(K:BT)(ta:TE)(f:Str):TE:=λσ H Q=>ta σ H λx H1=>∃a C dx fs v,x=.ref a/\H1 a=Z (.ins C dx fs)/\Cls K C/\bU K C f/\fs.lookup f=Z v/\Q v H1
def ND(K:BT)(ta tv:TE)(f:Str):TS:=λD σ H=>tv σ H λy H1=>ta σ H1 λx g=>∃a C dx fs,x=.ref a/\g a=Z (.ins C dx fs)/\Cls K C/\bU K C f/\fs.length<1000 /\
 D.nx σ (upd g a (.ins C dx (fA f y fs)))
def UN(X:Cx)(op:Operator)(rd:V->V->Hp->VK->Prop):Prop :=
 ∀(gd:List (J×Obj))(s:ϋ)(σ:St)(H:Hp)(x y:V)(u v:B)(Q:VK),Inv X gd σ H s->RelV x u->RelV y v->rd x y H Q->XV X (inplaceOp op u v) (EP X gd σ Q) X.xe s
def FK(K:BT)(ta tv:TE)(rd:V->V->Hp->VK->Prop)(f:Str):TS:=λD σ H=>ta σ H λx H1=>∃a C dx fs v,x=.ref a/\H1 a=Z (.ins C dx fs)/\Cls K C/\bU K C f/\fs.lookup f=Z v /\
 tv σ H1 λy Q=>rd v y Q λz P=>∃q g,P a=Z (.ins C q g)/\g.length<1000/\D.nx σ (upd P a (.ins C q (fA f z g)))
section
variable{value:EQ}{f:Str}{pos pos' Ju:Pos}{ta tv:TE}
def Lb(he:PE X e ta)(P:attributeBase e f X.env (eval e X.env)=eval e X.env):PE X (.Attribute e f pos) (Ru X.K ta f):=by
 intro gd s σ H Q I h;refine GL P (thn (he gd s σ H _ I h) λu s1 g=>?_)
 let(x,H1,I1,z,a,C,dx,fs,v,ex,V,c,n,l,q):=g;subst ex;obtain rfl:=z;exact wC I1 V c n l λu' s2 I2 ru=>(v,H1,I2,ru,q)
def DX(ha:PE X o ta)(hv:PE X value tv)(hs:swapsWith value (Z (.Attribute o f pos')) pos.line X.env=pure ϊ):PS X (.Assign [.Attribute o f pos'] value pos) (ND X.K ta tv f):=by
 intro gd s σ H D I h;refine plainObj_wpAny_Assign_Attribute (thn (hv gd s σ H _ I h) λu s1 (y,H1,I1,z,q)=>thn (ha gd s1 σ H1 _ I1 q) λov s2 g=>?_) hs
 let(x,H2,I2,P,a,C,dx,fs,ex,V,c,n,l,Q):=g;subst ex;obtain rfl:=P;exact vG I2 V c n l z λs3 I3=>(σ,_,I3,Q)
def HG{op:Operator}{rd:V->V->Hp->VK->Prop}(ha:PE X o ta)(hv:PE X value tv)(g:UN X op rd):PS X (.AugAssign (.Attribute o f Ju) op value pos) (FK X.K ta tv rd f):=by
 intro gd s σ H D I h;refine wpAny_AugAssign_AttributeAny (thn (ha gd s σ H _ I h) λov s1 P=>?_)
 let(x,H1,I1,rx,a,C,dx,fs,v,ex,ea,c,n,l,q):=P;subst ex;obtain rfl:=rx;exact wC I1 ea c n l λu s2 I2 ru=>thn (hv gd s2 σ H1 _ I2 q) λw3 s3 (y,H2,I3,ry,q3)=>thn (g gd s3 σ H2 v y u w3 _ I3 ru ry q3) λw4 s4 (z,H3,I4,rz,ak,ah,Q,l',q4)=>(vG I4 Q c n l' rz λs5 I5=>(σ,_,I5,q4))
inductive RO(x:V)(y:V)(H:Hp)(Q:VK):Prop
 |mk(i j:_)(h1:x=.int i)(h2:y=.int j)(h3:Q (.int (i+j)) H)
def T5:UN X .Add RO:=by
 rintro gd s σ H x y u v Q I z g ⟨i,j,rfl,rfl,q⟩
 let(t,U):=(z);let(t',U):=(g);exact PyProof.Rows.iadd_int (.int (i+j),H,I.tok _,(_,U),q)
end
section
variable{σ:St}{c:B}{b:Bool}
inductive ou(K:BT)(H:Hp):V->B->Prop where
 |non:ou K H .non (.type "NoneType")
 |bl(x:Bool):ou K H (.bl x) (.type "bool")
 |int(i:Int):ou K H (.int i) (.type "int")
 |str(x:Str):ou K H (.str x) (.type "str")
 |flt(x:UInt64):ou K H (.flt x) (.type "float")
 |lst{a:J}{xs:List V}(e:H a=Z (.lst xs)):ou K H (.ref a) (.type "list")
 |frz{a:J}{o:Obj}{xs:List V}(e:H a=Z (.frz o (.lst xs))):ou K H (.ref a) (.type "list")
 |tup{a:J}{xs:List V}(e:H a=Z (.tup xs)):ou K H (.ref a) (.type "tuple")
 |dK{a:J}{kvs:List (Key×V)}(e:H a=Z (.dK kvs)):ou K H (.ref a) (.type "dict")
 |dT{a:J}{kvs:List (List Key×V)}(e:H a=Z (.dT kvs)):ou K H (.ref a) (.type "dict")
 |ins{a C dx:J}{fs:List (Str×V)}(e:H a=Z (.ins C dx fs))(cl:Cls K C)(ha:W.findIn K (.ref C) "__class__"=Z (Z (.builtin "object.__class__")))
   (hn:W.specialIn K (.builtin "object.__class__") "__get__"=Z (Z (.builtin "getset_descriptor.__get__"))) (htk:W.takesIn K (.builtin "object.__class__")=Z O)
   (hm:W.mroIn K C (.type "object")=Z O):ou K H (.ref a) (.ref C)
theorem Ip{x:V}{t:B}(I:Inv X gd σ H s)(g:RelV x u)(ty:ou X.K H x t)(e:W.kitOne X.K t c=Z b)(h:∀tk,Q (.bool b) {s with toks:=tk}):
  wpAny (model X.prog X.w) A (call (.builtin "isinstance") [u,c]) Q E s:=by
 cases ty with
 |non=>cases(g);exact W.kia_one W.kitx_none I.kIn True.intro e (λz=>nomatch z) h
 |bl y=>cases(g);exact W.kia_one W.kitx_bool I.kIn True.intro e (λz=>nomatch z) h
 |int i=>let(t,q):=(g);cases q;exact W.kia_one W.kitx_int I.kIn True.intro e (λz=>nomatch z) h
 |str y=>let(t,q):=(g);cases q;exact W.kia_one W.kitx_str I.kIn True.intro e (λz=>nomatch z) h
 |flt y=>let(t,q):=(g);cases q;exact W.kia_one W.kitx_float I.kIn True.intro e (λz=>nomatch z) h
 |@lst a xs P =>
  cases(g)
  let(_,_,n,_,h1):=(I.hok a _ P);exact W.kia_one W.kitx_list I.kIn (_,h1,U) e (λz=>nomatch z) h
 |@frz a ob xs P =>
  cases(g)
  let(_,_,_,n,_,h1):=(I.hok a _ P);exact W.kia_one W.kitx_list I.kIn (_,h1,U) e (λz=>nomatch z) h
 |@tup a xs P =>
  cases(g)
  let(_,_,_,p):=(I.hok a _ P);let(o,h1,h2,_):=p.1;exact W.kia_one W.kitx_tuple I.kIn (o,h1,h2) e (λz=>nomatch z) h
 |@dK a kvs P =>
  cases(g)
  let(_,_,vs,_,p):=(I.hok a _ P);let(o,es,ep,h1,h2,_):=p;exact W.kia_one W.kitx_dict I.kIn (o,h1,h2.1) e (λz=>nomatch z) h
 |@dT a kvs P =>
  cases(g)
  let(_,_,xs,_,o,es,ep,h1,h2,_):=(I.hok a _ P);exact W.kia_one W.kitx_dict I.kIn (o,h1,h2.1) e (λz=>nomatch z) h
 |@ins a C dx fs P cl ha hn htk hm =>
  cases(g)
  let(mA,ϊ,_):=vk I.hok P;let(od,ύ,_):=ϊ.look;exact W.kia_one (W.kitx_own (cl.get _) cl.hd ha hn htk hm) I.kIn ύ e (λz=>nomatch z) h
end
structure bS(k:Nat)(A:Do):Prop where
 hd:A.handled=Y
 dp:A.depth+3*k+5<recursionLimit
 un:A.units+16*k+200<cLine
def bS.mono{k:Nat}(r:bS k A)(h:j<=k):bS j A:=(r.hd,by have:=r.dp;lia,by have:=r.un;lia)
def bS.aW{k:Nat}(r:bS k A)(h:j<=k:=by first|decide|lia):bS j A:=r.mono h
theorem bS.deeper{k:Nat}{A:Do}(r:bS (k+1) A)(env:Env):bS k (A.deeper env) :=
 (r.hd,by have:=r.dp;show A.depth+1+3*k+5<_;lia,by have:=r.un;show A.units+3+16*k+200<_;lia)
def El:(A.under (.builtin "type.__call__" (.ref C::us,kw))).depth=A.depth+1:=by
 rfl
def Ek:(A.under (.builtin "type.__call__" (.ref C::us,kw))).units=A.units+1:=by
 rfl
def bS.make{k:Nat}(r:bS (k+1) A)(C:J)(us:List B)(kw:List (Str×B)):bS k (A.under (.builtin "type.__call__" (.ref C::us,kw))) :=
 (r.hd,by have:=r.dp;rw[El];lia,by have:=r.un;rw[Ek];lia)
theorem bS.depth{k:Nat}{A:Do}(r:bS k A):A.depth<recursionLimit:=by have:=r.dp;lia
theorem bS.units{k:Nat}{A:Do}(r:bS k A):A.units+64<cLine:=by have:=r.un;lia
def f9:TA:=λ_ H Q=>Q [] H
def bP(ta:TE)(tr:TA):TA:=λσ H Q=>ta σ H λx H1=>tr σ H1 λxs g=>Q (x::xs) g
section
variable{t:TA}{pos:Pos}
def dW:PA X [] f9:=λ_ _ _ _ H Q I h=>Calls.spliced_nil ([],H,I,.nil,h)
abbrev AC(X:Cx)(e:EQ)(f:List EQ):Prop:=fx (e::f) X.env=(false,eval e X.env)::fx f X.env
def bh(ha:PE X e te)(hr:PA X es t)(hs:‹AC X e es›):PA X (e::es) (bP te t):=by
 intro pos gd s σ H Q I h;rw[hs];show wpAny _ _ (spliced ((ϊ,eval e X.env)::backTo pos (fx es X.env))) _ _ s;exact Calls.spliced_cons (thn (ha gd s σ H _ I h) λu s1 (x,H1,V,q,K)=>(thn (hr pos gd s1 σ H1 _ V K) λus s2 (xs,H2,P,g,z)=>(x::xs,H2,P,.cons q g,z)))
def Jv(t:TA):TE:=λσ H Q=>t σ H λxs H1=>xs.length<=px/\∀p,H1 p=Y->Q (.ref p) (upd H1 p (.tup xs))
def Rr(t:TA):TE:=λσ H Q=>t σ H λxs H1=>xs.length<=px/\∀p,H1 p=Y->Q (.ref p) (upd H1 p (.lst xs))
def D4{K}(h:PA X es t):PE X (.Tuple es K pos) (Jv t):=by
 intro gd s σ H Q I P;refine wpAny_Tuple_spliced (thn (h pos gd s σ H _ I P) λus s1 (xs,H1,g,r,z,q)=>(by rw[<- r.length];exact z,?_))
 have hf:=g.hok.fresh (qd _);refine(.ref s1.heap.objs.size,upd H1 s1.heap.objs.size (.tup xs),g.laid (λb u e=>hL _ e) (qd _) ?_,U,q _ hf)
 exact(z,us,r,((_,u0 _ U,U,_,U),_,u0 _ U,U))
def K7(h:PA X es t):PE X (.List es pos) (Rr t):=by
 intro gd s σ H Q I K;refine wpAny_List_spliced (thn (h pos gd s σ H _ I K) λus s1 (xs,H1,g,r,z,q)=>(by rw[<- r.length];exact z,?_))
 have hf:=g.hok.fresh (qd _);refine(.ref s1.heap.objs.size,upd H1 s1.heap.objs.size (.lst xs),g.laid (λb u e=>hL _ e) (qd _) ?_,U,q _ hf)
 exact(z,us,0,r,u0 _ U)
end
abbrev Sp:=List V->Hp->VK->XK->Prop
abbrev CXT:=List Env->Hp->ϋ->XK->B->ϋ->Prop
structure CW(P:Db)(w:Da)(K:BT)(mg:Str->Option B)(base:Ev)(A:Do)(outer:List Env)(s:ϋ)(H:Hp):Prop where
 frames:A.frames=Z outer
 mod:Mod K mg base
 bs:∀b o,base.get? b=Z o->s.heap.get? b=Z o/\H b=Y
 bsz:base.objs.size<=s.heap.objs.size
 oo:s.heap.FunFrames base outer
 frf:∀b∈frs outer,H b=Y
 hok:HOk P w H s.heap
 bare:AllBare s.gens
def CE(outer:List Env)(P:Db)(w:Da)(H:Hp)(s:ϋ)(Q:VK)(u:B)(s':ϋ):Prop :=
 ∃v H',s'.os=s.os/\AllBare s'.gens/\Un (frs outer) [] H H' s.heap s'.heap/\HOk P w H' s'.heap/\RelV v u/\Q v H'
def CR(CX:CXT)(outer:List Env)(P:Db)(w:Da)(H:Hp)(s:ϋ)(Q:VK)(E:XK)(r:Result)(s':ϋ):Prop :=
 match r with
 |.ok (.ret u)=>CE outer P w H s Q u s'
 |.ok _=>False
 |.error e=>CX outer H s E e s'
structure aS(P:Db)(w:Da)(K:BT)(mg:Str->Option B)(base:Ev)(CX:CXT)(k:Nat)(f:J)(fd:Ch)(ps:List Str)(sp:Sp):Prop where
 len:∀vs H Q E,sp vs H Q E->vs.length=ps.length
 run:∀(A:Do)(outer:List Env)(s:ϋ)(H:Hp)(args:Args)(us:List B)(vs:List V)(Q:VK)(E:XK),bS k A->CW P w K mg base A outer s H->BindsTo s fd args (ps.zip us)->Vals vs us->sp vs H Q E ->
  codeAny (model P w) A (.call (.ref f) args) (CR CX outer P w H s Q E) s
variable{mg:Str->Option B}{base:Ev}{CX:CXT}{fd:Ch}{ps:List Str}{sp:Sp}
theorem aS.imp{w:Da}{K:BT}{k:Nat}{f:J}{g:Sp}(F:aS P w K mg base CX k f fd ps sp)
  (h:∀vs H Q E,g vs H Q E->sp vs H Q E):aS P w K mg base CX k f fd ps g :=
 (λvs H Q E q=>F.len vs H Q E (h _ _ _ _ q),λA outer s H args us vs Q E hr he z hv hs=>F.run A outer s H args us vs Q E hr he z hv (h _ _ _ _ hs))
variable{outer:List Env}
theorem CW.make{w:Da}{K:BT}(e:CW P w K mg base A outer s H)(C:J)(us:List B)(kw:List (Str×B)):
  CW P w K mg base (A.under (.builtin "type.__call__" (.ref C::us,kw))) outer s H:=(by exact e.frames,e.mod,e.bs,e.bsz,e.oo,e.frf,e.hok,e.bare)
section
variable{σ:St}
def Inv.L9(I:Inv X gd σ H s):CW X.prog X.w X.K X.mg X.base X.A X.stack s H :=
 (I.ok.frames,I.ok.mod,I.bs,u6 I.ok.bsz I.sz,I.stack,I.nK,I.hok,I.bare)
def Inv.after{Q:VK}(I:Inv X gd σ H s)(h:CE X.stack X.prog X.w H s Q u s'):EP X gd σ Q u s':=by
 let(v,H',os,bare,un,hok,r,q):=h;let(P,g,d,t,K):=s';obtain rfl:=os;exact(v,H',I.call un hok bare (λb z=>absurd z (by simp)),r,q)
end
def A1(sp:Sp)(dvs:List V)(E:XK)(t:TA):TE:=λσ H Q=>t σ H λvs H1=>sp (vs++dvs) H1 Q E
def t8(C:J)(m:Str)(sp:Sp)(dvs:List V)(E:XK)(ta:TE)(t:TA):TE:=λσ H Q=>ta σ H λx H1=>∃a dx fs,x=.ref a/\H1 a=Z (.ins C dx fs)/\fs.lookup m=Y /\
 t σ H1 λvs g=>sp (x ::(vs++dvs)) g Q E
def Fl(C:J)(sp:Sp)(dvs:List V)(E:XK)(t:TA):TE:=λσ H Q=>t σ H λvs H1=>∀x dx,H1 x=Y->H1 dx=Y->dx≠x ->
 sp (.ref x ::(vs++dvs)) (upd (upd H1 dx (.own x)) x (.ins C dx [])) (λv g=>v=.non/\Q (.ref x) g) E
def Binds(K:BT)(fd:Ch)(ps:List Str)(ds:List B):Prop :=
 ∀(s:ϋ)(us:List B),K.In s.heap->(us++ds).length=ps.length->BindsTo s fd (us,[]) (ps.zip (us++ds))
theorem Binds.all{K:BT}(h:∀us:List B,us.length=ps.length->bindArgs fd (us,[])=pure (ps.zip us)):Binds K fd ps []:=λs us _ hl=>by
 rw[qp]at hl ⊢;exact .of_eq (h us hl)
def Passes(CX:CXT)(X:Cx)(E:XK):Prop:=∀(gd:List (J×Obj))(σ:St)(H:Hp)(s:ϋ)(e:B)(s':ϋ),Inv X gd σ H s->CX X.stack H s E e s'->X.xe e s'
section
variable{k:Nat}{f:J}{dvs:List V}{ds:List B}{E:XK}{p pos apos:Pos}{ta:TE}{t:TA}
theorem DO{σ:St}{Q:VK}{vs:List V}(F:aS X.prog X.w X.K X.mg X.base CX k f fd ps sp)(hr:bS k X.A)(z:Binds X.K fd ps ds)(hd:Vals dvs ds)(hx:Passes CX X E)
  (I:Inv X gd σ H s) (r:Vals vs us) (h:sp (vs++dvs) H Q E):XV X (call (.ref f) us) (EP X gd σ Q) X.xe s:=by
 have q:=r.append hd;have hl:(us++ds).length=ps.length:=by rw[<- q.length];exact F.len _ _ _ _ h
 refine wpAny_call (codeAny_mono (F.run X.A X.stack s H (us,[]) (us++ds) (vs++dvs) Q E hr I.L9 (z s us I.kIn hl) q h) λr s' g=>?_)
 cases r with
 |error e=>exact hx gd σ H s e s' I g
 |ok fl =>
  cases fl with
  |ret u=>exact I.after g
  |next=>exact False.elim g
  |brk=>exact False.elim g
  |cont=>exact False.elim g
abbrev AM(X:Cx)(p:Pos)(e:List EQ):Prop:=(backTo p (fx e X.env)).any (·.1)=false
theorem zF(F:aS X.prog X.w X.K X.mg X.base CX k f fd ps sp)(hr:bS k X.A)(hg:Gl X x)(hm:X.mg x=Z (.ref f))(V:W.keepIn X.K (.ref f)=O)(hb:Binds X.K fd ps ds)(hd:Vals dvs ds)(hx:Passes CX X E)
  (ha:PA X (e::es) t) (z:AS x:=by decide) (he:‹AC X e es›) (g:‹AM X pos es›):
  PE X (.Call (.Name x p) (e::es) [] pos) (A1 sp dvs E t):=by
 intro gd s σ H Q I h;exact Je (nV I hg hm (W.callWith_K (h₀:=X.base) I.ok.mod.kin V (thn (ha pos gd s σ H _ I h) λus s1 (vs,H1,P,r,q)=>(P.kIn,(DO F hr hb hd hx P r q))) he g) z)
theorem Ox{pl:Sem Bool}(he:PE X o ta)(c:Cls X.K C)(hm:Meth X.K C m f)(F:aS X.prog X.w X.K X.mg X.base CX k f fd ps sp)(hr:bS k X.A)(hb:Binds X.K fd ps ds)(hd:Vals dvs ds)(hx:Passes CX X E)(ha:PA X (e::es) t)
  (g:‹AC X e es›) (z:‹AM X pos es›)
  (ht:‹eval (.Call (.Attribute o m apos) (e::es) [] pos) X.env=(do
   let V <- eval o X.env
   standAt apos.atName
   let(f,first) <- holding [V] (getMethod V m pl)
   callWith pos f first (backTo pos (fx (e::es) X.env)) (backToKw pos (keywordEach [] X.env)))›):
  PE X (.Call (.Attribute o m apos) (e::es) [] pos) (t8 C m sp dvs E ta t):=by
 intro gd s σ H Q I h;refine W.methodCall_KW (thn (he gd s σ H _ I h) λu s1 P=>?_) ht
 let(x,H1,I1,rx,a,dx,fs,ex,ea,l,q):=P;subst ex;obtain rfl:=rx;refine lK I1 ea c hm l ?_;refine W.callWith_K I.ok.mod.kin hm.kp (thn (ha pos gd s1 σ H1 _ I1 q) λus s2 (vs,H2,I2,r,q2)=>(I2.kIn,?_)) g z
 exact DO (vs:=.ref a::vs) F hr hb hd hx I2 (.cons U r) q2
theorem vT(he:PE X o ta)(c:Cls X.K C)(hm:Meth X.K C m f)(F:aS X.prog X.w X.K X.mg X.base CX k f fd ps sp)(hr:bS k X.A)(hb:Binds X.K fd ps ds)(hd:Vals dvs ds)(hx:Passes CX X E)
  (ht:‹eval (.Call (.Attribute o m apos) [] [] pos) X.env=(do
   let P <- eval o X.env
   standAt apos.atName
   let(f,first) <- holding [P] (getMethod P m pl)
   callWith pos f first (backTo pos (fx [] X.env)) (backToKw pos (keywordEach [] X.env)))›):
  PE X (.Call (.Attribute o m apos) [] [] pos) (t8 C m sp dvs E ta f9):=by
 intro gd s σ H Q I h;refine W.methodCall_KW (thn (he gd s σ H _ I h) λu s1 g=>?_) ht
 let(x,H1,z,V,a,dx,fs,ex,ea,l,q):=g;subst ex;obtain rfl:=V;refine lK z ea c hm l ?_;exact W.callWith_K0 z.kIn hm.kp (DO (vs:=[.ref a]) F hr hb hd hx z (.cons U .nil) q)
structure Mk(K:BT)(C f:J):Prop where
 makes:W.makesIn K C=O
 init:W.findIn K (.ref C) "__init__"=Z (Z (.ref f))
 fn:W.isFn K (.ref f)=O
 kp:W.keepIn K (.ref C)=O
theorem JY{σ:St}{Q:VK}{vs:List V}(M:Mk X.K C f)(F:aS X.prog X.w X.K X.mg X.base CX k f fd ps sp)(hr:bS (k+1) X.A)(hb:Binds X.K fd ps ds)(hd:Vals dvs ds)
  (hx:Passes CX X E) (I:Inv X gd σ H s) (r:Vals vs us)
  (h:∀x dx,H x=Y->H dx=Y->dx≠x->sp (.ref x ::(vs++dvs)) (upd (upd H dx (.own x)) x (.ins C dx [])) (λv H2=>v=.non/\Q (.ref x) H2) E):
  XV X (call (.ref C) us) (EP X gd σ Q) X.xe s:=by
 have P:=h (s.heap.objs.size+1) s.heap.objs.size (I.hok.fresh (Nat.le_succ _)) (I.hok.fresh (qd _)) (AG (YV _));have q:=Inv.made (C:=C) I;have z:Vals (V.ref (s.heap.objs.size+1) ::(vs++dvs)) (B.ref (s.heap.objs.size+1) ::(us++ds)):=.cons U (r.append hd);have hl:=by
  have e:=z.length;rw[F.len _ _ _ _ P]at e;exact e.symm
 refine wpAny_call (Lo I.kIn M.makes M.init (beq_iff_eq.mp M.fn) (codeAny_mono (F.run _ X.stack _ _ (B.ref (s.heap.objs.size+1)::us,[]) (B.ref (s.heap.objs.size+1) ::(us++ds)) _ _ E (hr.make C us [])
  (q.L9.make C us []) (hb _ (B.ref (s.heap.objs.size+1)::us) q.kIn hl) z P) λr s' g=>?_))
 cases r with
 |error e=>exact hx gd σ _ _ e s' q g
 |ok fl =>
  cases fl with
  |ret u =>
   let(v,H',I3,rv,ev,q3):=q.after g;subst ev;exact(rv,(V.ref (s.heap.objs.size+1),H',I3,U,q3))
  |next=>exact False.elim g
  |brk=>exact False.elim g
  |cont=>exact False.elim g
theorem F5(M:Mk X.K C f)(F:aS X.prog X.w X.K X.mg X.base CX k f fd ps sp)(hr:bS (k+1) X.A)(hg:Gl X x)(hm:X.mg x=Z (.ref C))(V:Binds X.K fd ps ds)(hd:Vals dvs ds)(hx:Passes CX X E)
  (ha:PA X (e::es) t) (z:AS x:=by decide) (he:‹AC X e es›) (g:‹AM X pos es›):
  PE X (.Call (.Name x p) (e::es) [] pos) (Fl C sp dvs E t):=by
 intro gd s σ H Q I h;exact Je (nV I hg hm (W.callWith_K (h₀:=X.base) I.ok.mod.kin M.kp (thn (ha pos gd s σ H _ I h) λus s1 (vs,H1,P,r,q)=>(P.kIn,(JY M F hr V hd hx P r q))) he g) z)
end
structure aE(N P:List Str)(sc:Scope):Prop where
 kind:sc.kind=.function
 co:sc.isCoroutine=ϊ
 gen:sc.isGenerator=ϊ
 nd:N.Nodup
 pre:N.take P.length=P
 par:∀x∈P,sc.names.lookup x=Z .local\/sc.names.lookup x=Z .cell
 S3:∀y∈sc.names,y.2 ≠ .free
theorem yN{kindOf:Str->Option NameKind}{x:Str}:∀{binds:List (Str×B)}{m:Str->Option B},(∀v,(x,v) ∉ binds)->bindL kindOf binds m x=m x
 |[],_,_=>rfl
 | (n,v)::r,m,h=>by
  unfold bindL;rw[yN λw hw=>h w (aJ _ hw)]
  split
  ·have:x≠n:=by rintro rfl;exact h v di
   simp[this]
  ·rfl
theorem yP{kindOf:Str->Option NameKind}{x:Str}:∀{binds:List (Str×B)}{m:Str->Option B},(∀v,(x,v) ∉ binds)->bindC kindOf binds m x=m x
 |[],_,_=>rfl
 | (n,v)::r,m,h=>by
  unfold bindC;rw[yP λw hw=>h w (aJ _ hw)]
  split
  ·rfl
  ·have:x≠n:=by rintro rfl;exact h v di
   simp[this]
theorem yO{kindOf:Str->Option NameKind}{x:Str}{v:B}:∀{P:List Str}{vs:List B}{i:Nat}{m:Str->Option B},P.Nodup->P[i]?=Z x->vs[i]?=Z v->kindOf x=Z .local ->
  bindL kindOf (P.zip vs) m x=Z v
 |[],_,_,_,_,h,_,_=>by simp at h
 |_::_,[],_,_,_,_,h,_=>by simp at h
 |p::P,w::vs,0,m,nd,h1,h2,g=>by
  simp at h1 h2;subst h1;subst h2;show bindL kindOf ((p,w)::P.zip vs) m p=_;unfold bindL;rw[yN λv hv=>(xh.mp nd).1 (ZZ hv).1,if_pos g]
  simp
 |p::P,w::vs,i+1,m,nd,h1,h2,g=>by
  unfold bindL;exact yO (xh.mp nd).2 (by simpa using h1) (by simpa using h2) g
theorem yQ{kindOf:Str->Option NameKind}{x:Str}{v:B}:∀{P:List Str}{vs:List B}{i:Nat}{m:Str->Option B},P.Nodup->P[i]?=Z x->vs[i]?=Z v->kindOf x≠Z .local ->
  bindC kindOf (P.zip vs) m x=Z v
 |[],_,_,_,_,h,_,_=>by simp at h
 |_::_,[],_,_,_,_,h,_=>by simp at h
 |p::P,w::vs,0,m,nd,h1,h2,g=>by
  simp at h1 h2;subst h1;subst h2;show bindC kindOf ((p,w)::P.zip vs) m p=_;unfold bindC;rw[yP λv hv=>(xh.mp nd).1 (ZZ hv).1,if_neg g]
  simp
 |p::P,w::vs,i+1,m,nd,h1,h2,g=>by
  unfold bindC;exact yQ (xh.mp nd).2 (by simpa using h1) (by simpa using h2) g
def start(N:List Str)(vs:List V):St:=vs.map Z++xU (N.length - vs.length) Y
def pQ(CX:CXT)(P:Db)(w:Da)(K:BT)(mg:Str->Option B)(base:Ev)(N:List Str)(qual:Str)(scope:Scope)(f:J)(cd:B)(A:Do)(outer:List Env)(s:ϋ)(H:Hp)(E:XK):Cx where
 prog:=P
 w:=w
 K:=K
 mg:=mg
 base:=base
 A:=A.deeper (envOfC qual scope s.heap.objs.size f cd)
 N:=N
 s₀:=s
 H₀:=H
 env:=envOfC qual scope s.heap.objs.size f cd
 outer:=outer
 stack:=envOfC qual scope s.heap.objs.size f cd::outer
 ex:=[]
 calm:=O
 fn:=λ_=>O
 pn:=[]
 xe:=λe s'=>wpAny (model P w) (A.deeper (envOfC qual scope s.heap.objs.size f cd)) (leaving (envOfC qual scope s.heap.objs.size f cd) e) (λ_ g=>CX outer H s E e g) (λq g=>CX outer H s E q g) s'
variable{sc:Scope}
theorem Cy(h:sc.names.lookup x=Z .cell):∃c,(cellsFrom n sc.names []).lookup x=Z c:=by
 have q:=W.cellsFrom_some sc.names n [] (.inl h);exact Option.isSome_iff_exists.mp q
variable{qual:Str}{scope:Scope}
theorem Ir{w:Da}{K:BT}{f:J}{cd:B}{s1:ϋ}{E:XK}{vs:List V}
  (S:aE N ps scope) (hd:A.handled=Y) (g:CW P w K mg base A outer s H) (hl:vs.length=ps.length) (r:Vals vs us)
  (x:InCallC s s.heap.objs.size (bindL (envOfC qual scope s.heap.objs.size f cd).kindOf (ps.zip us) λ_=>Y) (cellsFrom (s.heap.objs.size+1) scope.names []) (bindC (envOfC qual scope s.heap.objs.size f cd).kindOf (ps.zip us) λ_=>Y) s1):
  Inv (pQ CX P w K mg base N qual scope f cd A outer s H E) [] (start N vs) H s1:=by
 have ak:ps.length<=N.length:=by have:=congrArg E7 S.pre;rw[x8]at this;lia
 let(h1,tk,U,hk):=x.done;have Q:∀b,b ∉ (pQ CX P w K mg base N qual scope f cd A outer s H E).ex:=λb z=>absurd (show b∈([])from z) (by simp)
 refine((g.mod,S.kind,U,U,qd _,λy z c h1 h2=>?_,λy hy=>?_,λy c _ h=>?_,λ_=>hd,Around.frames_deeper g.frames,.inr (U,U),λb z=>absurd z (Q b),g.bs,g.bsz,λb _ _=>Q b,λb z=>absurd z (Q b),g.oo,g.frf),
  rfl,g.bare,Un.kept hk,(_,x.toInCall.ns,λi y v h1 h2 h3=>?_),λy c h=>(_,x.cell y c h),g.hok.fresh (qd _),λy c h=>?_,λp hp=>absurd (show p∈([])from hp) (by simp),g.hok.kept hk,?_)
 ·exact name_of_addr x.apart (PySem.mem_of_lookup h1) (PySem.mem_of_lookup h2)
 ·obtain hy|hy:=hy
  ·exact Cy hy
  ·exact absurd U (S.S3 _ (PySem.mem_of_lookup hy))
 ·exact xj (x.above y c (PySem.mem_of_lookup h))
 ·have hi:i<vs.length:=by
   unfold start at h2;by_cases hi:i<vs.length
   ·exact hi
   ·rw[CP (by simpa using hi)]at h2
    rw[YW]at h2
    split at h2 <;> cases h2
  have ha:vs[i]?=Z v:=by
   unfold start at h2;rw[CS (by simpa using hi),ti]at h2
   cases e:vs[i]? with
   |none=>rw[e]at h2;cases h2
   |some a=>rw[e]at h2;cases h2;rfl
  let(u,hu,rv):=r.get ha;have hp:ps[i]?=Z y:=by
   rw[<- S.pre,List.getElem?_take_of_lt (by lia)];exact h1
  have ah:ps.Nodup:=by rw[<- S.pre];exact S.nd.sublist (List.take_sublist _ _)
  refine(u,rv,?_);obtain k|k:=S.par y (yb hp)
  ·exact .inl (k,yO ah hp hu k)
  ·let(c,e):=Cy k;refine .inr (.inl k,c,e,?_);have q:=x.cell y c e;rw[yQ ah hp hu (by show scope.names.lookup y≠_;rw[k];decide)]at q
   exact q
 ·exact g.hok.fresh (xj (x.above y c (PySem.mem_of_lookup h)))
 ·unfold start;show _=N.length;rw[oa,gV,List.length_replicate]
  lia
variable{name:Str}{pm:B}{ct:B}{oc:B}{an:Option J}{od:Option J}
theorem QM{w:Da}{K:BT}{k:Nat}{f:J}{params:Arguments}{dV kV doc cdv:B}
  {osl:Array (Option B)} {N ps:List Str} {sp:Sp} (lk:K.lookup f=Z (oc,od,.func (W.fnOf name qual params body scope dV kV doc pm an cdv ct),osl)) (ah:W.codeIn K cdv qual=O) (S:aE N ps scope)
  (len:∀vs H Q E,sp vs H Q E->vs.length=ps.length)
  (jw:∀(A:Do)(outer:List Env)(s:ϋ)(H:Hp)(vs:List V)(Q:VK)(E:XK),bS k (A.deeper (envOfC qual scope s.heap.objs.size f cdv))->sp vs H Q E ->
   ∃t,PSs (pQ CX P w K mg base N qual scope f cdv A outer s H E) body t/\t {nx:=λ_ H'=>Q .non H',rt:=Q} (start N vs) H):
  aS P w K mg base CX (k+1) f (W.fnOf name qual params body scope dV kV doc pm an cdv ct) ps sp:=by
 refine(len,λA outer s H args us vs Q E hr e0 hb r z=>?_)
 have hl:=len _ _ _ _ z;have KX:=e0.mod.kin.keeps λb o e=>(e0.bs b o e).1
 have lim:=e0.mod.nolimit.keeps λb o e=>(e0.bs b o e).1
 have kJ:∀y∈ps.zip us,scope.names.lookup y.1=Z .local\/(scope.names.lookup y.1=Z .cell/\((cellsFrom (s.heap.objs.size+1) scope.names []).lookup y.1).isSome=O):=λ(n,v) hy=>by
  obtain q|q:=S.par n (ZZ hy).1
  ·exact .inl q
  ·exact .inr (q,W.cellsFrom_some _ _ _ (.inl q))
 refine codeAny_call_function hr.depth (KX _ _ lk) U S.co S.gen U (W.codeRec_of KX ah) (hb _ _ _ _ (wpAny_newFunctionEnv_cells S.kind kJ λenv he s1 x=>?_))
 subst he;refine(lim.keeps x.toInCall.keep,codeAny_func ?_);let(t,ht,hq):=jw A outer s H vs Q E (hr.deeper _) z;have I:Inv (pQ CX P w K mg base N qual scope f cdv A outer s H E) [] (start N vs) H s1:=Ir S hr.hd e0 hl r x;refine E5 (ht [] s1 (start N vs) H _ I hq) (λfl s' hs=>?_) λe s' hs=>hs
 have fin:∀{g:St}{H':Hp}{v:V}{u:B},Inv (pQ CX P w K mg base N qual scope f cdv A outer s H E) [] g H' s'->RelV v u->Q v H'->CE outer P w H s Q u s' :=
  λ{g H' v u} ύ rv q=>(v,H',ύ.os,ύ.bare,ύ.base,ύ.hok,rv,q)
 cases fl with
 |ret u =>
  let(v,g,H',ύ,rv,q):=hs;exact fin ύ rv q
 |next =>
  let(g,H',ύ,q):=hs;exact fin (v:=V.non) ύ U q
 |brk =>
  let(_,_,_,q):=hs;exact False.elim q
 |cont =>
  let(_,_,_,q):=hs;exact False.elim q
section
variable{p pos:Pos}{t:TA}{id T:String}{r:List V->Hp->VK->Prop}
def tCB(r:List V->Hp->VK->Prop)(t:TA):TE:=λσ H Q=>t σ H λvs H1=>r vs H1 Q
def kD(P:df X (.builtin id) r)(hg:Gl X x)(hm:X.mg x=Y)(hv:bootBuiltins x=Z (.builtin id))(ha:PA X (e::es) t)(hn:x ≠ "__name__":=by decide)(q:AS x:=by decide)
  (he:‹AC X e es›) (g:‹AM X pos es›):PE X (.Call (.Name x p) (e::es) [] pos) (tCB r t):=by
 intro gd s σ H Q I h;exact Je (nc I hg hm hv (PyProof.Rows.callWith_builtin1 (thn (ha pos gd s σ H _ I h) λus s1 (vs,H1,V,z,K)=>P gd s1 σ H1 vs us Q V z K) he g) hn q)
def HM(P:df X (.type T) r)(hg:Gl X x)(hm:X.mg x=Y)(hv:bootBuiltins x=Z (.type T))(ha:PA X (e::es) t)(hn:x ≠ "__name__":=by decide)(q:AS x:=by decide)
  (he:‹AC X e es›) (g:‹AM X pos es›):PE X (.Call (.Name x p) (e::es) [] pos) (tCB r t):=by
 intro gd s σ H Q I h;exact Je (nc I hg hm hv (PyProof.Rows.callWith_type1 (thn (ha pos gd s σ H _ I h) λus s1 (vs,H1,V,z,K)=>P gd s1 σ H1 vs us Q V z K) he g) hn q)
end
end L2
namespace HT
open PySem PyProof.Rows
section
variable{prog:Db}{w:Da}{A:Do}{E:B->ϋ->Prop}{s:ϋ}
def Pt{t b:J}{vs ws:List B}{Q:B->ϋ->Prop}(ht:IsTup s.heap t vs.toArray)(hb:IsTup s.heap b ws.toArray)(hv:vs ≠ [])
  (h1:ws=[]->Q (.ref t) s) (h2:ws ≠ []->Q (.ref s.heap.objs.size) {s with heap:=s.heap.push {cls:=.type "tuple",data:=.seq (vs++ws).toArray}})
  (hsz:vs.length+ws.length<=px):wpAny (model prog w) A (binaryOp .Add (.ref t) (.ref b)) Q E s:=by
 let((cls,dd,data,sl),ho,V,n,hd):=id ht;let((Yp,K,data2,q),g,z,P,hd2):=id hb;simp only at V hd z hd2;subst V hd z hd2;have e:vs.toArray++ws.toArray=(vs++ws).toArray:=by simp
 by_cases hw:ws=[]
 ·exact concat_meets (_,ho,U) (_,g,U) noFill_tuple_add seq_tuple_add PySem.F.slot_tuple_add PySem.F.entry_tuple_add (PySem.F.args_tuple_add_2 _ _)
   (tuple_addW1 t b vs.toArray ws.toArray n P dd K sl q (by simpa using hv) (by simp[hw])) (ho,g,h1 hw)
 ·refine concat_meets (_,ho,U) (_,g,U) noFill_tuple_add seq_tuple_add PySem.F.slot_tuple_add PySem.F.entry_tuple_add (PySem.F.args_tuple_add_2 _ _)
   (tuple_addW2 t b vs.toArray ws.toArray n P dd K sl q (by simpa using hv) (by simpa using hw) (by exact hsz)) (ho,g,?_)
  rw[e];exact h2 hw
def sIx(n d:Nat):Option Int->Nat
 |none=>d
 |some v=>if v<0 then(v+(n:Int)).toNat else min v.toNat n
def Bb(n d:Nat):sIx n d Y=d:=rfl
def ve(n d k:Nat):sIx n d (Z (k:Int))=min k n:=by
 show(if(k)<0 then((k)+(n:Int)).toNat else min (k:Int).toNat n)=min k n
 rw[if_neg (by lia),ZG]
def W3(a:Int)(n:Nat)(h0:0<=a):min a (n:Int)=((min a.toNat n:Nat):Int):=by
 by_cases h:a<=n
 ·rw[Int.min_eq_left h,Z0 (Int.toNat_le.mpr h),Zf h0]
 ·have h':=Int.le_of_lt (Int.not_le.mp h);rw[Int.min_eq_right h',ZL ((Int.le_toNat h0).mpr h')]
def JG(n:Nat)(i:Int)(h:i<0):max 0 (min (i+(n:Int)) n)=((i+n).toNat:Int):=by
 rw[Int.min_eq_left (Int.add_le_of_le_sub_right (by rw[Int.sub_self];exact Int.le_of_lt h)),Int.max_comm,Int.ofNat_toNat]
def JF(n:Nat)(i:Int)(h:¬ i<0):max 0 (min i (n:Int))=((min i.toNat n:Nat):Int):=by
 rw[W3 i n (Int.not_lt.mp h),Int.max_eq_right (Zi _)]
def GI(v:Int)(n d:Nat):(if v<0 then max (v+(n:Int)) 0 else min v (n:Int))=((sIx n d (Z v):Nat):Int):=by
 show(if v<0 then max (v+(n)) 0 else min v (n))=(((if v<0 then(v+(n)).toNat else min v.toNat n)))
 by_cases hv:v<0
 ·rw[if_pos hv,if_pos hv];exact(Int.ofNat_toNat _).symm
 ·rw[if_neg hv,if_neg hv];exact W3 v n (Int.not_lt.mp hv)
def EV(lo hi:Option Int)(n:Nat):Builtin.Slice.sliceAdjust lo hi 1 (n:Int)=(((sIx n 0 lo:Nat):Int),((sIx n n hi:Nat):Int)):=by
 have h1:=by omega
 unfold Builtin.Slice.sliceAdjust;refine Prod.ext ?_ ?_
 ·cases lo with
  |none=>rfl
  |some v=>exact GI v n 0
 ·cases hi with
  |none=>rfl
  |some v=>exact GI v n n
def D3(i j:Nat):Builtin.Slice.slicePlaces (i:Int) (j:Int) 1=j - i:=by
 unfold Builtin.Slice.slicePlaces;have h1:(1:Int) > 0:=by lia
 simp only[h1,if_true,Int.ediv_one]
 split <;> lia
def vC{v:B}{o:Option Int}{Q:Option Int->ϋ->Prop}(p:IsPart v o)(h:Q o s):wpAny (model prog w) A (Builtin.Slice.slicePartIndex v) Q E s:=by
 cases p with
 |none=>exact slicePart_none h
 |int i t=>exact slicePart_int h
def kr{sl:J}{K z:B}{lo hi:Option Int}{n:Nat}{Q:Int×Int×Nat->ϋ->Prop}(hs:s.heap.IsSliceOf sl K z .none)(pl:IsPart K lo)(pu:IsPart z hi)
  (h:Q (((sIx n 0 lo:Nat):Int),1,sIx n n hi - sIx n 0 lo) s):wpAny (model prog w) A (Builtin.Slice.sliceApplied (.ref sl) (pure (n:Int))) Q E s:=by
 let(os,g,P,q):=id hs;refine dO (dO (wpAny_field g q (x:=K) U (dO (wpAny_field g q (x:=z) U (dO (wpAny_field g q U (u7 ?_)))))));refine dO (slicePart_none ?_);refine dO (vC pl (dO (vC pu (dO (u7 ?_)))));show wpAny _ _ (match Builtin.Slice.sliceAdjust lo hi 1 (n)with|(lo,hi)=>pure (Prod.mk lo (Prod.mk (1:Int) (Builtin.Slice.slicePlaces lo hi 1)))) _ _ s
 rw[EV lo hi n];show wpAny _ _ (pure (Prod.mk ((sIx n 0 lo):Int) (Prod.mk (1) (Builtin.Slice.slicePlaces ((sIx n 0 lo)) ((sIx n n hi)) 1)))) _ _ s;rw[D3];exact u7 h
def KZ(xs:Array B)(i k:Nat):((UR k).filterMap λ(m:Nat)=>xs[((i:Int)+(m:Int)*1).toNat]?).toArray=((xs.toList.drop i).take k).toArray:=by
 have e:(λ(m:Nat)=>xs[((i)+(m:Int)*1).toNat]?)=λm=>xs[i+m]?:=by
  funext m
  have:((i)+(m:Int)*1).toNat=i+m:=by lia
  rw[this]
 rw[e]
 have:=pick_run xs i k
 rw[List.filterMap_map]at this;have g:((λx=>xs[x]?) ∘ λx=>i+x)=λm=>xs[i+m]?:=rfl
 rw[g]at this;rw[this]
def q5{t sl:J}{items:Array B}{vl vu:B}{lo hi:Option Int}{Q:B->ϋ->Prop}(g:IsTup s.heap t items)(hs:s.heap.IsSliceOf sl vl vu .none)(pl:IsPart vl lo)(pu:IsPart vu hi)
  (hw:¬(sIx items.size 0 lo=0/\sIx items.size items.size hi=items.size))
  (h:Q (.ref s.heap.objs.size) {s with heap:=s.heap.push {cls:=.type "tuple",data:=.seq ((items.toList.drop (sIx items.size 0 lo)).take (sIx items.size items.size hi - sIx items.size 0 lo)).toArray}})
  (hsz:items.size<=px):wpAny (model prog w) A (getItem (.ref t) (.ref sl)) Q E s:=by
 have WB:sizeOk (.seq ((items.toList.drop (sIx items.size 0 lo)).take (sIx items.size items.size hi - sIx items.size 0 lo)).toArray):=by
  show((items.toList.drop (sIx items.size 0 lo)).take (sIx items.size items.size hi - sIx items.size 0 lo)).toArray.size<=px;rw[u3,x8,xE,YU];exact u6 (u6 (ZM _ _) (ZT _ _)) hsz
 let(os,z,P,ah):=id hs;have V:s.TypeIs (.ref sl) "slice":=(os,z,P);unfold getItem
 try with_reducible refine Y6 ?_
 refine dO (wpAny_sequenceKey g.typeIs (by decide) ?_)
 refine dO (wpAny_callSpecial?_slot g.typeIs PyProof.Rows.slot_tuple_getitem
  (YZ PyProof.Rows.slot_tuple_getitem g.typeIs entry_tuple_getitem ?_ (args_tuple_getitem _ _)))
 show wpAny _ _ (Builtin.Tuple.tupleItemsOf (.ref t) >>= _) _ _ s;refine dO (tupleItemsOf_ g (dO (ZD V ?_)));refine dO (kr hs pl pu ?_);have K:¬((((sIx items.size 0 lo):Int)==0&&(1:Int)==1&&(sIx items.size items.size hi - sIx items.size 0 lo)==items.size)=O):=by
  intro q;rw[tY,tY]at q;have q1:=eq_of_beq q.1.1;have q2:=eq_of_beq q.2;exact hw (by lia,by lia)
 show wpAny _ _ (if(((sIx items.size 0 lo):Int)==0&&(1)==1&&(sIx items.size items.size hi - sIx items.size 0 lo)==items.size)=O then _ else _) _ _ s
 rw[if_neg K,KZ];exact dO (m:=Builtin.Tuple.tupleExact _) (Y9 (u7 (_,U,u7 h)) WB)
end
end HT
namespace L2
open PySem PySem.Spec PyProof.Rows
abbrev TO:=St->Hp->(Option Int->Hp->Prop)->Prop
def PO(X:Cx)(e:Option EQ)(t:TO):Prop :=
 ∀(gd:List (J×Obj))(s:ϋ)(σ:St)(H:Hp)(Q:Option Int->Hp->Prop),Inv X gd σ H s->t σ H Q ->
  XV X (evalPart e X.env) (λu s'=>∃o H',Inv X gd σ H' s'/\IsPart u o/\Q o H') X.xe s
def Fj:TO:=λ_ H Q=>Q Y H
def PN(t:TE):TO:=λσ H Q=>t σ H λx H1=>∃i,x=.int i/\Q (Z i) H1
variable{xs:List V}{us:List B}
section
variable{X:Cx}{e:EQ}{te:TE}{lo hi:Option EQ}{tl th:TO}{pos p2:Pos}
def Ov:PO X Y Fj:=by
 intro gd s σ H Q I h;exact u7 (Y,H,I,.none,h)
def zz(h:PE X e te):PO X (Z e) (PN te):=by
 intro gd s σ H Q I hw;refine thn (h gd s σ H _ I hw) λu s1 g=>?_
 let(x,H1,P,z,K):=g;let(i,U,q):=K;let(t,U):=z;exact(Z i,H1,P,.int i t,q)
def SlR(X:Cx)(r:V->Option Int->Option Int->Hp->VK->Prop):Prop :=
 ∀(gd:List (J×Obj))(s:ϋ)(σ:St)(H:Hp)(x:V)(v q g:B)(lo hi:Option Int)(sl:J)(Q:VK),Inv X gd σ H s->RelV x v->s.heap.IsSliceOf sl q g .none->IsPart q lo->IsPart g hi->r x lo hi H Q ->
  ∃T id,typeLookup (.type T) "__getitem__"=pure (Z (.builtin id))/\s.TypeIs v T/\XV X (getItem v (.ref sl)) (EP X gd σ Q) X.xe s
def SlR.or{r r':V->Option Int->Option Int->Hp->VK->Prop}(h:SlR X r)(h':SlR X r'):SlR X (λx lo hi H Q=>r x lo hi H Q\/r' x lo hi H Q):=by
 intro gd s σ H x v z g lo hi sl Q I K hs pl pu q;obtain q|q:=q
 ·exact h gd s σ H x v z g lo hi sl Q I K hs pl pu q
 ·exact h' gd s σ H x v z g lo hi sl Q I K hs pl pu q
def tSl(r:V->Option Int->Option Int->Hp->VK->Prop)(te:TE)(tl th:TO):TE:=λσ H Q=>te σ H λx H1=>tl σ H1 λl q=>th σ q λu g=>r x l u g Q
def Bq{r:V->Option Int->Option Int->Hp->VK->Prop}(hr:SlR X r)(he:PE X e te)(hl:PO X lo tl)(hu:PO X hi th):PE X (.Subscript e (.Slice lo hi Y p2) pos) (tSl r te tl th):=by
 intro gd s σ H Q I h;refine Subscript_ (thn (he gd s σ H _ I h) λv s1 (x,H1,I1,r1,q1)=>(wpAny_Slice (thn (hl gd s1 σ H1 _ I1 q1) λz s2 (l,H2,I2,pl,q2)=>thn (hu gd s2 σ H2 _ I2 q2) λg s3 K=>?_)))
 let(u,P,I3,pu,q3):=K;refine u7 ?_;have I4:Inv X gd σ P {s3 with heap:=s3.heap.push {cls:=.type "slice",data:=.fields #[z,g,.none]}}:=I3.kept λb ob q=>hL _ q
 let(T,id,hT,ht,hg):=hr gd {s3 with heap:=s3.heap.push {cls:=.type "slice",data:=.fields #[z,g,.none]}} σ P x v z g l u s3.heap.objs.size Q I4 r1 (Heap.IsSliceOf.new ..) pl pu q3
 exact tail_any ht hT hg (by with_unfolding_all rfl)
def rJ(xs:List V)(lo hi:Option Int):List V:=(xs.drop (HT.sIx xs.length 0 lo)).take (HT.sIx xs.length xs.length hi - HT.sIx xs.length 0 lo)
def uC(xs:List V)(lo hi:Option Int):(rJ xs lo hi).length<=xs.length:=by
 unfold rJ;rw[x8,xE];exact u6 (ZM _ _) (ZT _ _)
inductive XG(K:BT)(x:V)(lo:Option Int)(hi:Option Int)(H:Hp)(Q:VK):Prop
 |mk(a xs:_)(h1:x=.ref a)(h2:SqT K H a xs)(h3:¬(HT.sIx xs.length 0 lo=0/\HT.sIx xs.length xs.length hi=xs.length))(h4:∀p,H p=Y->Q (.ref p) (upd H p (.tup (rJ xs lo hi))))
def RC:SlR X (XG X.K):=by
 intro gd s σ H x v vl V lo hi sl Q I P hs pl pu h;let(a,xs,U,hx,hw,q):=h;cases P;let(its,r,z,g):=I.tuple hx;have hlen:its.toArray.size=xs.length:=by exact r.length.symm
 refine("tuple",_,PyProof.Rows.slot_tuple_getitem.lookup,z.typeIs,(HT.q5 z hs pl pu (by rw[hlen];exact hw) ?_ (by rw[hlen];exact g)))
 rw[hlen];refine(.ref s.heap.objs.size,_,I.laid (λb ob q=>hL _ q) (qd _) ?_,U,q _ (I.hok.fresh (qd _)))
 exact(u6 (uC xs lo hi) g,_,(r.drop (HT.sIx xs.length 0 lo)).take (HT.sIx xs.length xs.length hi - HT.sIx xs.length 0 lo),tW.new _ _)
inductive Vq(K:BT)(x:V)(y:V)(H:Hp)(Q:VK):Prop
 |mk(a b xs ys:_)(h1:x=.ref a)(h2:y=.ref b)(h3:SqT K H a xs)(h4:SqT K H b ys)(h5:xs ≠ [])(h6:xs.length+ys.length<=px)(h7:(ys=[]->Q (.ref a) H))(h8:(ys ≠ []->∀p,H p=Y->Q (.ref p) (upd H p (.tup (xs++ys)))))
def Vals.lC(r:Vals xs us):us=[] ↔ xs=[]:=by
 cases r with
 |nil=>simp
 |cons _ _=>simp
def OH:OpR X (binaryOp .Add) (Vq X.K):=by
 intro gd s σ H x y v u Q I rx ry h;let(a,b,xs,ys,U,U,ha,hb,hx,V,q1,q2):=h;cases rx;cases ry;let(its,P,p1,_):=I.tuple ha;let(gR,g,p2,_):=I.tuple hb;exact HT.Pt p1 p2 (λz=>hx (P.lC.mp z)) (λz=>(.ref a,H,I,U,q1 (g.lC.mp z))) (λz=>(.ref s.heap.objs.size,_,I.laid (t':=s.toks) (o:=.tup (xs++ys)) (λb ob q=>hL _ q) (qd _) (by rw[oa];exact V,_,P.append g,tW.new _ _),U,q2 (λw=>z (g.lC.mpr w)) _ (I.hok.fresh (qd _)))) (by rw[<- P.length,<- g.length];exact V)
end
def ixN(n:Nat)(i:Int):Option Nat:=if 0<=i then(if i<n then Z i.toNat else Y)else if -(n:Int)<=i then Z (i+n).toNat else Y
def atI{α:Type}(xs:List α)(i:Int):Option α:=(ixN xs.length i).bind λj=>xs[j]?
variable{n:Nat}{j:Nat}
def Gu{i:Int}(h:ixN n i=Z j):seqIndex? i n=Z j/\j<n /\ -(n:Int)<=i/\i<n:=by
 unfold ixN at h;by_cases h0:0<=i
 ·rw[if_pos h0]at h;by_cases h1:i<n
  ·rw[if_pos h1]at h;have e:=Option.some.inj h;exact(by rw[seqIndex_of h0 h1,e],by lia,by lia,h1)
  ·rw[if_neg h1]at h;cases h
 ·rw[if_neg h0]at h;by_cases h1:-(n)<=i
  ·rw[if_pos h1]at h;have e:=Option.some.inj h;exact(by rw[seqIndex_neg (by lia) h1,e],by lia,h1,by lia)
  ·rw[if_neg h1]at h;cases h
def Aq{α:Type}{xs:List α}{i:Int}{v:α}(h:atI xs i=Z v):∃j,seqIndex? i xs.length=Z j/\xs[j]?=Z v/\j<xs.length /\ -(xs.length:Int)<=i/\i<xs.length:=by
 unfold atI at h;cases e:ixN xs.length i with
 |none=>rw[e]at h;cases h
 |some j =>
  rw[e]at h;let(h1,h2,h3,h4):=Gu e;exact(j,h1,h,h2,h3,h4)
def jd{α:Type}{xs:List α}{v:α}(h:xs[j]?=Z v):atI xs (j:Int)=Z v:=by
 have g:=(iZ.mp h).1;have e:ixN xs.length (j)=Z j:=by
  unfold ixN;rw[if_pos (by lia),if_pos (by lia)];simp
 unfold atI;rw[e];exact h
def rX(b:EQ):Prop:=∀o i,subscripted b ϊ o i=operate [o,i] (getItem o i)
def IxR(X:Cx)(r:R2):Prop :=
 ∀(value slice:EQ)(gd:List (J×Obj))(s:ϋ)(σ:St)(H:Hp)(x y:V)(v u:B)(Q:VK),Inv X gd σ H s->RelV x v->RelV y u->r x y H Q ->
  subscripted slice ϊ v u=operate [v,u] (getItem v u)->XV X (subscriptTail value slice v u) (EP X gd σ Q) X.xe s
def MtR(X:Cx)(id:String)(r:V->List V->Hp->VK->Prop):Prop :=
 ∀(gd:List (J×Obj))(s:ϋ)(σ:St)(H:Hp)(x:V)(xs:List V)(v:B)(us:List B)(Q:VK),Inv X gd σ H s->RelV x v->Vals xs us->r x xs H Q ->
  XV X (call (.builtin id) (v::us)) (EP X gd σ Q) X.xe s
variable{r':R2}{gd:List (J×Obj)}{H:Hp}{s:ϋ}{ys:List V}{its:List B}{A:Do}{y:V}{u:B}{r:List V->Hp->VK->Prop}
section
variable{X:Cx}{a b:EQ}{ta tb:TE}{pos:Pos}
def IxR.or{r:R2}(h:IxR X r)(h':IxR X r'):IxR X (λx y H Q=>r x y H Q\/r' x y H Q):=by
 intro value slice gd s σ H x y v u Q I z g q hs;obtain q|q:=q
 ·exact h value slice gd s σ H x y v u Q I z g q hs
 ·exact h' value slice gd s σ H x y v u Q I z g q hs
def F6{r:R2}(hr:IxR X r)(ha:PE X a ta)(K:PE X b tb)(hs:rX b):PE X (.Subscript a b pos) (tOp r ta tb):=by
 intro gd s σ H Q I h;exact Subscript_ (Up ha K I h λv u s2 x y V P z g q=>hr a b gd s2 σ V x y v u Q P z g q (hs _ _))
inductive Vn(K:BT)(x:V)(y:V)(H:Hp)(Q:VK):Prop
 |mk(p xs i v:_)(h1:x=.ref p)(h2:y=.int i)(h3:SqL K H p xs)(h4:atI xs i=Z v)(h5:Q v H)
inductive Vl(K:BT)(x:V)(y:V)(H:Hp)(Q:VK):Prop
 |mk(p xs i v:_)(h1:x=.ref p)(h2:y=.int i)(h3:SqT K H p xs)(h4:atI xs i=Z v)(h5:Q v H)
inductive Vm(x:V)(y:V)(H:Hp)(Q:VK):Prop
 |mk(z i c:_)(h1:x=.str z)(h2:y=.int i)(h3:z.length<=px)(h4:atI z.cps.toList i=Z c)(h5:Q (.str ⟨#[c]⟩) H)
def O3:IxR X (Vn X.K):=by
 intro value slice gd s σ H x y v u Q I rx ry h hs;let(p,xs,i,z,U,U,hq,he,q):=h;cases rx;let(t,U):=ry;let(its,r,pl,hz):=I.list hq;let(j,h1,h2,h3,h4,h5):=Aq he;let(w,V,g):=r.get h2;have hl:=r.length;have hn:=pL;have fin:EP X gd σ Q w s:=(z,H,I,g,q);by_cases h0:0<=i
 ·have P:=by
   rw[seqIndex_of h0 h5]at h1;exact Option.some.inj h1
  exact item_listR pl.isList h0 (by lia) (by rw[P];simpa using V) fin hs
 ·have P:(i+(its.toArray.size)).toNat=j:=by
   rw[seqIndex_neg (by omega) h4]at h1
   rw[u3,<- hl];exact Option.some.inj h1
  exact subscriptTail_builtinR pl.isList.typeIs slot_list_getitem.lookup
   (wpAny_getItem_list_neg pl.isList (by omega) (by rw[u3] <;> lia) (by lia) (by rw[P];simpa using V) (U,fin)) hs
def TN:IxR X (Vl X.K):=by
 intro value slice gd s σ H x y v u Q I V P h hs;let(p,xs,i,z,U,U,hq,he,q):=h;cases V;let(t,U):=P;let(its,r,pl,hz):=I.tuple hq;let(j,h1,h2,h3,h4,h5):=Aq he;let(w,ew,g):=r.get h2;have hl:=r.length;have hn:=pL;have fin:EP X gd σ Q w s:=(z,H,I,g,q);exact subscriptTail_builtinR pl.typeIs slot_tuple_getitem.lookup
  (getItem_tuple pl (by lia) (by lia) (by rw[u3,<- hl];exact h1) (by simpa using ew) (U,fin)) hs
def TQ:IxR X Vm:=by
 intro value slice gd s σ H x y v u Q I K g h hs;let(z,i,c,U,U,hz,he,q):=h;let(t,U):=K;let(t',U):=g;let(j,h1,h2,h3,h4,h5):=Aq he;have hl:z.cps.toList.length=z.length:=by simp[Str.length]
 rw[hl]at h1 h4 h5;have hn:=pL;exact tail_any (typeIs_str s z t) slot_str_getitem.lookup (getItem_str (by
  have V:decide (i < -(2 ^ 63))=false:=decide_eq_false (by lia)
  have P:decide (i ≥ 2 ^ 63)=false:=decide_eq_false (by lia)
  rw[V,P,Bool.or_false]) (by rw[h1];simpa using h2) (.str ⟨#[c]⟩,H,I.tok _,(_,U),q)) hs
def rIx(K:BT):R2:=λx y H Q=>Vn K x y H Q\/Vl K x y H Q\/Vm x y H Q
def z6:IxR X (rIx X.K):=O3.or (TN.or TQ)
def Ej(its:List B)(n j:Nat)(u:B):Zj (·.setIfInBounds j u) {cls:=.type "list",data:=.seq its.toArray n}={cls:=.type "list",data:=.seq (its.set j u).toArray n}:=by
 simp[Zj]
theorem Inv.lst{gd:List (J×Obj)}{σ:St}{H:Hp}{s:ϋ}{p:J}{xs:List V}(I:Inv X gd σ H s)(h:H p=Z (.lst xs)):
  ∃(its:List B)(n:Nat),Vals xs its/\s.heap.get? p=Z {cls:=.type "list",data:=.seq its.toArray n}/\xs.length<=px:=by
 let(z,its,n,r,e):=I.hok p _ h;exact(its,n,r,e,z)
def Inv.Ta{σ:St}{p:J}{g:List B}{z:Nat}{f:Obj->Obj}(I:Inv X gd σ H s)(h:H p=Z (.lst xs))
  (ho:s.heap.get? p=Z {cls:=.type "list",data:=.seq its.toArray n}) (hf:f {cls:=.type "list",data:=.seq its.toArray n}={cls:=.type "list",data:=.seq g.toArray z}) (r:Vals ys g) (K:ys.length<=px) (t:Nat):
  Inv X gd σ (upd H p (.lst ys)) {s with heap:=s.heap.update p f,toks:=t}:=by
 have e:(s.heap.update p f).get? p=Z {cls:=.type "list",data:=.seq g.toArray z}:=by
  rw[CT f ho (by rw[hf] <;> rfl),hf]
 exact I.write (x:=p) (e:=p) (by rw[h];trivial) (.inl U) (λb u P q=>(Cd _ _ (Ne.symm P)).trans q) (_,e) (K,g,z,r,e)
inductive uc(o:V)(i:V)(v:V)(H:Hp)(Q:(Hp->Prop)):Prop
 |mk(p xs k j:_)(h1:o=.ref p)(h2:i=.int k)(h3:H p=Z (.lst xs))(h4:ixN xs.length k=Z j)(h5:Q (upd H p (.lst (xs.set j v))))
theorem set_list:Xn X uc:=by
 intro gd s σ H o i v ov iv u Q I P V K h;let(p,xs,k,j,U,U,hp,hj,q):=h;cases P;let(t,U):=V;let(its,n,r,ho,hz):=I.lst hp;let(h1,h2,h3,h4):=Gu hj;have hl:=r.length;have hn:=pL;have z :=
  I.Ta hp ho (Ej its n j u) (r.set K j) (by rw[AF];exact hz) s.toks
 by_cases h0:0<=k
 ·have g:=by
   rw[seqIndex_of h0 h4]at h1;exact Option.some.inj h1
  exact W.ki_setAt ho h0 (by lia) (by rw[u3,<- hl];exact h4) (by rw[g];exact(_,z,q))
 ·have g:(k+(its.toArray.size)).toNat=j:=by
   rw[seqIndex_neg (by omega) h3]at h1
   rw[u3,<- hl];exact Option.some.inj h1
  exact W.ki_setBack ho (by omega) (by rw[u3,<- hl];exact h3) (by lia) (by rw[g];exact(_,z,q))
def qi(lo hi:Option Int)(n:Nat):(sliceBounds lo hi Y n).1=((HT.sIx n 0 lo:Nat):Int)/\(sliceBounds lo hi Y n).2.1=((HT.sIx n n hi:Nat):Int)/\(sliceBounds lo hi Y n).2.2=1:=by
 refine(?_,?_,U)
 ·cases lo with
  |none=>simp[sliceBounds,HT.sIx]
  |some i =>
   simp only[sliceBounds,HT.sIx,Option.getD_none,show(1:Int) > 0 by decide,if_true]
   by_cases h:i<0
   ·simp only[h,if_true] <;> first|exact HT.JG _ _ h|omega
   ·simp only[h,if_false] <;> first|exact HT.JF _ _ h|omega
 ·cases hi with
  |none=>simp[sliceBounds,HT.sIx]
  |some i =>
   simp only[sliceBounds,HT.sIx,Option.getD_none,show(1:Int) > 0 by decide,if_true]
   by_cases h:i<0
   ·simp only[h,if_true] <;> first|exact HT.JG _ _ h|omega
   ·simp only[h,if_false] <;> first|exact HT.JF _ _ h|omega
def xx(its:List B)(lo hi:Option Int):slicePick its.toArray lo hi Y=((its.drop (HT.sIx its.length 0 lo)).take (HT.sIx its.length its.length hi - HT.sIx its.length 0 lo)).toArray:=by
 let(h1,h2,h3):=qi lo hi its.toArray.size;unfold slicePick;rw[h1,h2,h3];simp only[sliceRange_one,pick_run] <;> rfl
inductive Vi(K:BT)(x:V)(lo:Option Int)(hi:Option Int)(H:Hp)(Q:VK):Prop
 |mk(a xs:_)(h1:x=.ref a)(h2:SqL K H a xs)(h3:∀p,H p=Y->Q (.ref p) (upd H p (.lst (rJ xs lo hi))))
def FD:SlR X (Vi X.K):=by
 intro gd s σ H x v vl V lo hi sl Q I z hs pl pu h;let(a,xs,U,hx,q):=h;cases z;let(its,r,g,P):=I.list hx;have hlen:=r.length;refine("list",_,slot_list_getitem.lookup,g.isList.typeIs,(wpAny_getItem_list_slice g.isList hs pl pu .none (by simp) ?_ (by rw[u3] <;> omega)))
 rw[xx,<- hlen];refine(.ref s.heap.objs.size,_,I.laid (λb ob q=>hL _ q) (qd _) ?_,U,q _ (I.hok.fresh (qd _)))
 exact(u6 (uC xs lo hi) P,_,0,(r.drop (HT.sIx xs.length 0 lo)).take (HT.sIx xs.length xs.length hi - HT.sIx xs.length 0 lo),u0 _ U)
def jK:V->Bool
 |.non=>O
 |.bl _=>O
 |.int _=>O
 |.str _=>O
 |_=>ϊ
def eqV:V->V->Bool
 |.non,.non=>O
 |.bl a,.bl b=>a==b
 |.bl a,.int b=>(if a then 1 else 0)==b
 |.int a,.bl b=>a ==(if b then 1 else 0)
 |.int a,.int b=>a==b
 |.str a,.str b=>a==b
 |_,_=>ϊ
def wM{x:V}{v:B}(q:RelV y u)(g:RelV x v)(K:jK y=O)(z:jK x=O):SeqAt.EqAt A s u v (eqV y x):=by
 cases y with
 |non =>
  cases q;cases x with
  |non=>cases g;exact SeqAt.EqAt.same _
  |bl b=>cases g;exact SeqAt.EqAt.none_bool b
  |int b=>let(t,U):=g;exact SeqAt.EqAt.none_int b t
  |str b=>let(t,U):=g;exact SeqAt.EqAt.none_str b t
  |_=>exact absurd (z) r8
 |bl a =>
  cases q;cases x with
  |non=>cases g;exact SeqAt.EqAt.bool_none a
  |bl b=>cases g;exact SeqAt.EqAt.bool_bool a b
  |int b=>let(t,U):=g;exact SeqAt.EqAt.bool_int a b t
  |str b=>let(t,U):=g;exact SeqAt.EqAt.bool_str a b t
  |_=>exact absurd (z) r8
 |int a =>
  let(t',U):=q;cases x with
  |non=>cases g;exact SeqAt.EqAt.int_none a t'
  |bl b=>cases g;exact SeqAt.EqAt.int_bool a t' b
  |int b=>let(t,U):=g;exact SeqAt.EqAt.int_int a t' b t
  |str b=>let(t,U):=g;exact SeqAt.EqAt.int_str a t' b t
  |_=>exact absurd (z) r8
 |str a =>
  let(t',U):=q;cases x with
  |non=>cases g;exact SeqAt.EqAt.str_none a t'
  |bl b=>cases g;exact SeqAt.EqAt.str_bool a t' b
  |int b=>let(t,U):=g;exact SeqAt.EqAt.str_int a t' b t
  |str b=>let(t,U):=g;exact SeqAt.EqAt.str_str a t' b t
  |_=>exact absurd (z) r8
 |_=>exact absurd (K) r8
def eqU(x:V)(u:B):Bool:=match u with
 |.none=>eqV .non x
 |.bool b=>eqV (.bl b) x
 |.int i _=>eqV (.int i) x
 |.str z _=>eqV (.str z) x
 |_=>ϊ
def L6{x:V}(r:RelV y u)(f:jK y=O):eqU x u=eqV y x:=by
 cases y with
 |non=>cases r;rfl
 |bl b=>cases r;rfl
 |int i=>let(t,U):=r;rfl
 |str z=>let(t,U):=r;rfl
 |_=>exact absurd (f) r8
theorem rS{x:V}:∀{xs:List V}{us:List B},Vals xs us->xs.all jK=O->us.any (eqU x)=xs.any λy=>eqV y x
 |_,_,.nil,_=>rfl
 |y::xs,u::us,.cons r t,f=>by
  rw[List.all_cons,tY]at f;rw[Zg,Zg,L6 r f.1,rS t f.2]
theorem m6{A:Do}{s:ϋ}{x:V}{v:B}(q:RelV x v)(z:jK x=O):∀{xs:List V}{us:List B},Vals xs us->xs.all jK=O->∀u∈us,SeqAt.EqAt A s u v (eqU x u)
 |_,_,.nil,_=>λu g=>by cases g
 |y::xs,u::us,.cons r t,f=>λu' g=>by
  rw[List.all_cons,tY]at f;obtain rfl|g:=fH.mp g
  ·rw[L6 r f.1];exact wM r q f.1 z
  ·exact m6 q z t f.2 u' g
def inV(x:V)(xs:List V):Bool:=xs.any λy=>eqV y x
inductive rIn(K:BT)(neg:Bool)(x:V)(y:V)(H:Hp)(Q:VK):Prop
 |mk(p xs:_)(h1:y=.ref p)(h2:(SqL K H p xs\/SqT K H p xs))(h3:jK x=O)(h4:xs.all jK=O)(h5:Q (.bl (if neg then !inV x xs else inV x xs)) H)
def HQ:OpR X (compareOp .In) (rIn X.K ϊ):=by
 intro gd s σ H x y v u Q I z V h;let(p,xs,U,g,P,fs,q):=h;cases V;obtain g|g:=g
 ·let(its,r,pl,hz):=I.list g;refine SeqAt.in_listAt (eqU x) pl.isList (λw hw=>m6 z P r fs w (by simpa using hw)) (.bl _,H,I,U,?_)
  rw[show its.toArray.any (eqU x)=its.any (eqU x)by simp,rS r fs]
  exact q
 ·let(its,r,pl,hz):=I.tuple g;refine SeqAt.in_tupleAt (eqU x) pl (λw hw=>m6 z P r fs w (by simpa using hw)) (.bl _,H,I,U,?_)
  rw[show its.toArray.any (eqU x)=its.any (eqU x)by simp,rS r fs]
  exact q
def zH:OpR X (compareOp .NotIn) (rIn X.K O):=by
 intro gd s σ H x y v u Q I z V h;let(p,xs,U,g,P,fs,q):=h;cases V;obtain g|g:=g
 ·let(its,r,pl,hz):=I.list g;refine SeqAt.notIn_listAt (eqU x) pl.isList (λw hw=>m6 z P r fs w (by simpa using hw)) (.bl _,H,I,U,?_)
  rw[show its.toArray.any (eqU x)=its.any (eqU x)by simp,rS r fs]
  exact q
 ·let(its,r,pl,hz):=I.tuple g;refine SeqAt.notIn_tupleAt (eqU x) pl (λw hw=>m6 z P r fs w (by simpa using hw)) (.bl _,H,I,U,?_)
  rw[show its.toArray.any (eqU x)=its.any (eqU x)by simp,rS r fs]
  exact q
def rO:df X (.builtin "len") (λxs H Q=>∃p ys,xs=[.ref p]/\(SqL X.K H p ys\/SqT X.K H p ys)/\Q (.int ys.length) H):=by
 intro gd s σ H xs us Q I r h;let(p,ys,U,g,q):=h;let(u,U,z):=vals1 r;cases z;have hn:=pL;obtain g|g:=g
 ·let(its,r',pl,P):=I.list g;have hlen:=r'.length;exact Calls.call_len_list pl.isList (by simp only[u3] <;> omega) (.int ys.length,H,I.tok _,(s.toks+1,by rw[u3,hlen]),q)
 ·let(its,r',pl,P):=I.tuple g;have hlen:=r'.length;exact len_tuple pl (by simp only[u3] <;> omega) (.int ys.length,H,I.tok _,(s.toks+1,by rw[u3,hlen]),q)
def An:df X (.builtin "len") (λxs H Q=>∃z,xs=[.str z]/\z.length<=px/\Q (.int z.length) H):=by
 intro gd s σ H xs us Q I r h;let(z,U,g,q):=h;let(u,U,t,U):=vals1 r;have hn:=pL;exact len_str (by lia) (.int z.length,H,I.tok _,(_,U),q)
def df.or{f:B}{r':List V->Hp->VK->Prop}(h:df X f r)(h':df X f r'):df X f (λxs H Q=>r xs H Q\/r' xs H Q):=by
 intro gd s σ H xs us Q I rs q;obtain q|q:=q
 ·exact h gd s σ H xs us Q I rs q
 ·exact h' gd s σ H xs us Q I rs q
def Am:df X (.type "list") (λxs H Q=>∃p ys,xs=[.ref p]/\(SqL X.K H p ys\/SqT X.K H p ys)/\∀l,H l=Y->Q (.ref l) (upd H l (.lst ys))):=by
 intro gd s σ H xs us Q I r h;let(p,ys,U,P,q):=h;let(u,U,rx):=vals1 r;cases rx;have fin:∀its,Vals ys its->ys.length<=px->∀h' g,(∀b o',s.heap.get? b=Z o'->h'.get? b=Z o') ->
   h'.get? s.heap.objs.size=Z {cls:=.type "list",dict:=Y,data:=.seq its.toArray g,slots:=#[]}->EP X gd σ Q (.ref s.heap.objs.size) {s with heap:=h'}:=λits r' z h' g kp e =>
  (.ref s.heap.objs.size,_,I.laid kp (qd _) (show dm X.prog X.w _ h' _ (.lst ys)from(z,its,g,r',e)),U,q _ (I.hok.fresh (qd _)))
 obtain P|P:=P
 ·let(its,r',pl,z):=I.list P;have hlen:=r'.length;let(o,ho,V,n,hd):=pl.isList;exact call_list_seq p (.inl U) ho V hd (λh' g kp e=>fin its r' z h' g kp e) (by simp only[u3] <;> omega)
 ·let(its,r',pl,z):=I.tuple P;have hlen:=r'.length;let(o,ho,V,n,hd):=pl;exact call_list_seq p (.inr U) ho V hd (λh' g kp e=>fin its r' z h' g kp e) (by simp only[u3] <;> omega)
def xW:df X (.type "tuple") (λxs H Q=>∃p ys,xs=[.ref p]/\((SqL X.K H p ys/\∀l,H l=Y->Q (.ref l) (upd H l (.tup ys)))\/(SqT X.K H p ys/\Q (.ref p) H))):=by
 intro gd s σ H xs us Q I r h;let(p,ys,U,h):=h;let(u,U,V):=vals1 r;cases V;obtain⟨g,q⟩|⟨g,q⟩:=h
 ·let(its,r',pl,z):=I.list g;have hlen:=r'.length;refine call_tuple_list pl.isList (λh' kp=>?_) (by simp only[u3] <;> omega)
  have P:=I.kept (t':=s.toks) kp;have I2 :=
   P.laid (t':=s.toks) (λb o e=>hL _ e) (qd _) (show dm X.prog X.w _ _ _ (.tup ys)from(z,its,r',tW.new _ _))
  exact(.ref h'.objs.size,_,I2,U,q _ (P.hok.fresh (qd _)))
 ·let(its,r',pl,z):=I.tuple g;exact call_tuple_same pl (.ref p,H,I,U,q)
def tyV(K:BT)(T:String)(x:V)(H:Hp):Prop:=match x with
 |.str _=>T="str"
 |.int _=>T="int"
 |.ref p=>(T="list" /\ ∃xs,SqL K H p xs)\/(T="tuple" /\ ∃o,K.lookup p=Z o/\o.cls=.type "tuple" /\ o.dict=Y) \/
   (T="dict" /\ ((∃kvs,H p=Z (.dK kvs))\/∃kvs,H p=Z (.dT kvs)))\/(T="set" /\ ∃S n,H p=Z (.set S n))
 |_=>False
def Jq{σ:St}{T:String}{x:V}{v:B}(I:Inv X gd σ H s)(r:RelV x v)(ty:tyV X.K T x H):
  s.TypeIs v T/\∀a,v=.ref a->∃ob,s.heap.get? a=Z ob/\ob.dict=none:=by
 cases x with
 |str z =>
  let(t,U):=r
  cases(ty)
  exact(typeIs_str s z t,λ_ e=>nomatch e)
 |int i =>
  let(t,U):=r
  cases(ty)
  exact(typeIs_int s i t,λ_ e=>nomatch e)
 |ref p =>
  cases r;obtain⟨rfl,xs,P⟩|⟨rfl,o,g,Q,hd⟩|⟨rfl,g⟩|⟨rfl,S,n,g⟩:=ty
  ·let(its,_,pl,_):=I.list P;refine(pl.isList.typeIs,λa e=>?_)
   cases e;let(o,n,e,c,hd,_):=pl;exact(o,e,hd)
  ·refine((o,I.kIn p o g,Q),λa e=>?_)
   cases e;exact(o,I.kIn _ o g,hd)
  ·have z:∃o,s.heap.get? p=Z o/\o.ExactDict:=by
    obtain⟨kvs,g⟩|⟨kvs,g⟩:=g
    ·let(_,_,_,_,o,_,_,e,ex,_):=I.hok p _ g;exact(o,e,ex)
    ·let(_,_,_,_,o,_,_,e,ex,_):=I.hok p _ g;exact(o,e,ex)
   let(o,e,ex):=z;refine((o,e,ex.1),λa q=>?_)
   cases q;exact(o,e,ex.2.1)
  ·let(o,_,_,_,e,ex,_):=I.hok p _ g;refine((o,e,ex.1),λa q=>?_)
   cases q;exact(o,e,ex.2.1)
 |_=>exact False.elim ty
def Rv(K:BT)(T:String)(r:V->List V->Hp->VK->Prop)(to:TE):TE:=λσ H Q=>to σ H λx H1=>tyV K T x H1/\r x [] H1 Q
def tBM(K:BT)(T:String)(r:V->List V->Hp->VK->Prop)(to:TE)(t:TA):TE:=λσ H Q=>to σ H λx H1=>tyV K T x H1/\t σ H1 λxs g=>r x xs g Q
variable{o e:EQ}{es:List EQ}{to:TE}{t:TA}{name:Str}{apos a7:Pos}{T id:String}{r:V->List V->Hp->VK->Prop}
def D6(pa:PlainAttrs T)(slot:Slot T name id)(g:typeOf (.builtin id)=pure (.type "method_descriptor"))(hm:MtR X id r)(ho:PE X o to)
  (eC:‹attributeBase o name X.env (eval o X.env)=eval o X.env›) (eB:‹(apos.endLine==a7.line)=true›):PE X (.Call (.Attribute o name apos) [] [] a7) (Rv X.K T r to):=by
 intro gd s σ H Q I h;refine wpAny_Call_method0_late eC eB (thn (ho gd s σ H _ I h) λv s1 q=>?_)
 let(x,H1,P,z,ty,V):=q;let(h1,h2):=Jq P z ty;exact(T,id,pa,slot,g,h1,h2,Calls.callWith_builtin U (PySem.evalArgs_none (hm gd s1 σ H1 x [] v [] Q P z .nil V)))
def Bs(pa:PlainAttrs T)(slot:Slot T name id)(g:typeOf (.builtin id)=pure (.type "method_descriptor"))(hm:MtR X id r)(ho:PE X o to)(ha:PA X (e::es) t)
  (eC:‹attributeBase o name X.env (eval o X.env)=eval o X.env›)
  (lJ:‹((backTo a7 (fx (e::es) X.env)).all (λx=>!x.1)&&(backToKw a7 (keywordEach [] X.env)).all (λx=>x.1.isSome)
   && decide ((e::es).length+([]:List Keyword).length+(if([]:List Keyword).isEmpty then 0 else 1)<30))=true›)
  (eB:‹(apos.endLine==a7.line)=true›) (hs:‹AC X e es›) (d6:‹AM X a7 es›):
  PE X (.Call (.Attribute o name apos) (e::es) [] a7) (tBM X.K T r to t):=by
 intro gd s σ H Q I h;refine wpAny_Call_method_late eC lJ eB U (thn (ho gd s σ H _ I h) λv s1 q=>?_)
 let(x,H1,V,z,ty,q1):=q;let(h1,h2):=Jq V z ty;refine(T,id,pa,slot,g,h1,h2,?_);have P:=ha a7 gd s1 σ H1 _ V q1;rw[hs]at P ⊢;exact Calls.callWith_builtin (by show(ϊ ||(backTo a7 (fx es X.env)).any (·.1))=ϊ;rw[d6] <;> rfl) (Calls.evalArgs_plain (thn P λus s2 (vs,H2,I2,r2,q2)=>hm gd s2 σ H2 x vs v us Q I2 z r2 q2))
end
def MtM(X:Cx)(id:String)(r:V->List V->Hp->VK->Prop):Prop :=
 ∀(gd:List (J×Obj))(s:ϋ)(σ:St)(H:Hp)(x:V)(xs:List V)(v:B)(us:List B)(Q:VK),Inv X gd σ H s->RelV x v->Vals xs us->r x xs H Q ->
  XV X (call (.builtin id) (v::us)) (EP X gd σ Q) X.xe s
def Vals.one:∀{x:V}{us:List B},Vals [x] us->∃u,us=[u]/\RelV x u:=by
 intro x us h;cases h with
 |cons r t=>cases t;exact(_,U,r)
theorem Vals.zero:∀{us:List B},Vals [] us->us=[]
 |_,.nil=>rfl
theorem Vals.dropLast{xs:List V}{us:List B}(h:Vals xs us):Vals xs.dropLast us.dropLast:=by
 induction h with
 |nil=>exact .nil
 |cons r t g =>
  cases t with
  |nil=>exact .nil
  |cons q t'=>exact .cons r g
theorem Vals.reverse{xs:List V}{us:List B}(h:Vals xs us):Vals xs.reverse us.reverse:=by
 induction h with
 |nil=>exact .nil
 |cons r t g=>rw[List.reverse_cons,List.reverse_cons];exact Vals.append g (.cons r .nil)
def EK{α:Type}(l:List α):l.eraseIdx (l.length - 1)=l.dropLast:=by
 induction l with
 |nil=>rfl
 |cons a r g =>
  cases r with
  |nil=>rfl
  |cons b r =>
   have e:(a::b::r).length - 1=((b::r).length - 1)+1:=by
    rfl
   rw[e,List.eraseIdx_cons_succ,g]
   all_goals rfl
variable{t':Nat}
section
variable{X:Cx}{σ:St}{l:J}
def Inv.Tc{g:List B}{f:Array B->Array B}{t':Nat}(I:Inv X gd σ H s)(Q:H l=Z (.lst xs))
  (e:s.heap.get? l=Z {cls:=.type "list",data:=.seq its.toArray n}) (hf:f its.toArray=g.toArray) (hv:Vals ys g) (z:ys.length<=px):
  Inv X gd σ (upd H l (.lst ys)) {s with heap:=s.heap.update l (Zj f),toks:=t'}:=by
 have q:=PySem.IsL.update e f;rw[hf]at q;exact I.write (x:=l) (e:=l) (by rw[Q];exact trivial) (.inl U) (λV u P K=>(Cd s.heap (Zj f) (Ne.symm P)).trans K) (_,q) (z,g,_,hv,q)
def Inv.X0(I:Inv X gd σ H s)(hv:Vals ys its)(g:ys.length<=px):
  Inv X gd σ (upd H s.heap.objs.size (.lst ys)) {s with heap:=s.heap.push {cls:=.type "list",data:=.seq its.toArray},toks:=t'} :=
 I.laid (λ_ _ q=>hL _ q) (qd _) (g,its,0,hv,u0 _ U)
theorem Inv.fresh(I:Inv X gd σ H s):H s.heap.objs.size=none:=I.hok.fresh (qd _)
def Inv.Ie(I:Inv X gd σ H s)(g:H l=Z (.lst xs)):xs.length<=px/\∃(its:List B)(n:Nat),Vals xs its/\xs.length=its.length/\s.heap.get? l=Z {cls:=.type "list",data:=.seq its.toArray n}:=by
 let(z,its,n,r,e):=I.hok l _ g;exact(z,its,n,r,r.length,e)
def Li(h:n<=px):Builtin.List.listTooLong n=false:=by
 exact decide_eq_false (by lia)
end
section
variable{X:Cx}
inductive k8(x:V)(vs:List V)(H:Hp)(Q:VK):Prop
 |mk(l xs y:_)(h1:x=.ref l)(h2:vs=[y])(h3:H l=Z (.lst xs))(h4:xs.length<px)(h5:Q .non (upd H l (.lst (xs ++ [y]))))
theorem yq:MtM X "list.append" k8:=by
 intro gd s σ H x vs v us Q I K P h;let(l,xs,y,U,U,g,V,q):=h;cases K;let(u,U,ru):=P.one;let(z,its,n,r,hl,e):=I.Ie g;refine call_meets F.slot_list_append (_,e,U) F.entry_list_append (F.args_list_append_2 _ _) (PySem.list_append l its.toArray n u (by rw[u3];lia)) (e,?_)
 refine(.non,_,I.Tc g e (by simp) (r.append (.cons ru .nil)) ?_,U,q)
 rw[oa,List.length_singleton]
 lia
inductive vf(x:V)(vs:List V)(H:Hp)(Q:VK):Prop
 |mk(l b xs zs:_)(h1:x=.ref l)(h2:vs=[.ref b])(h3:H l=Z (.lst xs))(h4:H b=Z (.lst zs))(h5:xs.length+zs.length<=px)(h6:Q .non (upd H l (.lst (xs++zs))))
theorem HZ:MtM X "list.extend" vf:=by
 intro gd s σ H x vs v us Q I P V h;let(l,b,xs,zs,U,U,K,hB,hz,q):=h;cases P;let(u,U,ru):=V.one;cases ru;let(z,its,n,r,hl,e):=I.Ie K;let(z2,g,n2,r2,ah,e2):=I.Ie hB;have hsz:its.toArray.size+g.toArray.size<=px:=by rw[u3,u3];lia
 have WH:¬(!its.toArray.isEmpty&&Builtin.List.listTooLong (its.toArray.size+g.toArray.size))=true:=by
  rw[Li hsz,Zl];exact r8
 refine call_meets F.slot_list_extend (_,e,U) F.entry_list_extend (F.args_list_extend_2 _ _)
  (AutoSeq1.list_extend_list_list_0 l its.toArray n b g.toArray n2 WH (by rw[u3];lia) (by lia)) (e,e2,?_)
 refine(.non,_,I.Tc K e (by simp) (r.append r2) ?_,U,q)
 rw[oa];omega
inductive Vk(x:V)(vs:List V)(H:Hp)(Q:VK):Prop
 |mk(l xs y:_)(h1:x=.ref l)(h2:vs=[])(h3:H l=Z (.lst xs))(h4:xs[xs.length - 1]?=Z y)(h5:Q y (upd H l (.lst xs.dropLast)))
theorem Lm:MtM X "list.pop" Vk:=by
 intro gd s σ H x vs v us Q I V rv h;let(l,xs,y,U,U,P,hy,q):=h;cases V;have K:=rv.zero;subst K;let(z,its,n,r,hl,e):=I.Ie P;let(u,hu,ru):=r.get hy;have g:=by
  show its.toArray[its.length - 1]?=Z u;rw[<- Zp,<- hl];exact hu
 refine call_meets F.slot_list_pop (_,e,U) F.entry_list_pop (F.args_list_pop_1 _) (MeetsSeq.list_pop_last l its.toArray n u g (by rw[u3];lia)) (e,?_)
 refine(y,_,I.Tc P e ?_ r.dropLast ?_,ru,q)
 ·rw[u3,List.eraseIdxIfInBounds_toArray,EK]
 ·rw[List.length_dropLast]
  lia
inductive Vr(x:V)(y:V)(H:Hp)(Q:VK):Prop
 |mk(l b xs zs:_)(h1:x=.ref l)(h2:y=.ref b)(h3:H l=Z (.lst xs))(h4:H b=Z (.lst zs))(h5:xs.length+zs.length<=px)(h6:∀p,H p=Y->Q (.ref p) (upd H p (.lst (xs++zs))))
def S0:OpR X (binaryOp .Add) Vr:=by
 intro gd s σ H x y v u Q I V K h;let(l,b,xs,zs,U,U,hH,hB,hz,q):=h;cases V;cases K;let(z,its,n,r,hl,e):=I.Ie hH;let(z2,g,n2,r2,ah,e2):=I.Ie hB;refine PySem.P.add_list e e2 ?_ (by rw[u3,u3];omega)
 have ea:its.toArray++g.toArray=(its++g).toArray:=by simp
 rw[ea];exact(.ref _,_,I.X0 (r.append r2) (by rw[oa];omega),U,q _ I.fresh)
end
end L2
namespace Att
open PySem PySem.W PySem.Calls PyProof.Rows
def uR{P:Params}{h:Ev}:∀(ns:List Int)(vs:List B),WellAll P h vs (ns.map WData.int)->IntsAre vs ns:=by
 intro ns
 induction ns with
 |nil =>
  intro vs w;cases w;exact .nil
 |cons n ns g =>
  intro vs w;cases w with
  |cons a b =>
   cases a;exact .cons _ _ (g _ b)
def Hw{l:OpenLaw}{n:Nat}(hn:l.most=Z n){P:Params}{h:Ev}{args:List WData}{vals:List B}
  (hpre:l.row.toRowW.claim.pre args=O) (g:WellAll P h vals args):
  ∃a vs ns,vals=[B.ref a]/\args=[WData.list (ns.map WData.int)]/\h.get? a=Z {cls:=.type "list",data:=.seq vs.toArray}/\IntsAre vs ns/\ns.length<=n:=by
 have q:WShape.hasAll [] args [.list .int]=true:=(pre_splitW hpre).1;have Q:l.pre.holds [] {args:=args}=true:=(pre_splitW hpre).2;let(d,r,U,h1,h2):=hasAllW_cons q;obtain rfl:=hasAllW_nil h2;let(xs,U,h3):=hasW_list h1;let(ns,U):=items_int h3;have hlen:=by
  have h4:=by
   have h4:=(holds_andW Q).1;rw[hn]at h4;exact h4
  have h5:=condW_of h4 (w_not (w_lt w_lit (w_len_list (w_arg U))))
  first
   | (exact absurd h5 (by decide))
   | (simp at h5;omega)
 cases g with
 |cons K z =>
  cases z;cases K with
  |list ho V=>exact(_,_,ns,U,U,ho,uR ns _ V,hlen)
def HK(l:OpenLaw)(args:List WData):l.row.toRowW.claim.post args (.bool O) args=true :=
 postW_of
  (by rfl)
  (w_eq_bool (w_res U) w_lit) U
def CB{l:OpenLaw}{n:Nat}{q:Db}{loose:List Str}{XP:(Str->Option B)->Ev->Prop}{V:Da->Ev->Prop}{d:DefRec}
  (hn:l.most=Z n) (K:d.params.defaults=[])
  (call:∀(w:Da)(s₀ g:ϋ)(mg mb:Str->Option B)(fa:J)(o:Obj)(pm cd doc:B)(a:J)(vs:List B)(ns:List Int),
   Ground q loose [] XP w s₀ mg mb g.heap->V w g.heap ->
   g.heap.get? fa=Z o->o.data=.func (docDef d.name d.params d.body d.scope pm cd doc)->g.heap.CodeRec cd d.name->mg d.name=Z (.ref fa) ->
   g.heap.get? a=Z {cls:=.type "list",data:=.seq vs.toArray}->IntsAre vs ns->ns.length<=n->g.gens=#[] ->
   codeAny (model l.prog w) callerA (.call (.ref fa) ([.ref a],[])) (λr s'=>r=.ok (.ret (.bool O))/\OldK g.heap s'.heap/\s'.os=g.os/\AllBare s'.gens) g):
  WalkO q loose XP V l.row.toRowW d [] (λf vs=>PySem.call f vs):=by
 intro w s₀ g mg mb G ϋ fa o pm cd doc dV kV ho hd P Q hmg hg args vals as hpre YI ah z ak;obtain rfl:=Dflts.none Q K;obtain rfl:=Dflts.noKw Q;let(a,vs,ns,U,U,Iw,hints,hlen):=Hw hn hpre z;refine enter_call (codeAny_mono (call w s₀ g mg mb fa o pm cd doc a vs ns G ϋ ho (fd_plain hd) P hmg Iw hints hlen hg) λr s' hq=>?_)
 let(U,h2,h3,h4):=hq;exact(.inl (.bool O,.bool O,[],U,λ_=>rfl,.bool O,HK l _,λ_=>(List.Pairwise.nil,λ_ hm=>(nomatch hm))),h2,h3,h4)
section
def ledger(h:Ev)(L d:J):List (J×Obj):=(UR h.objs.size).filterMap λa=>if a=L\/a=d then Y else(h.get? a).map λo=>(a,o)
end
end Att
namespace L2
open PySem PySem.Spec PyProof.Rows
def Hh{vs:List B}{ns:List Int}(h:IntsAre vs ns):Vals (ns.map V.int) vs:=by
 induction h with
 |nil=>exact .nil
 |cons n t _ g=>exact .cons (t,U) g
def PJ(H:Hp):Prop:=∀b,H b=Y\/∃o xs,H b=Z (.frz o (.lst xs))
variable{mg:Str->Option B}{a:J}{x:Str}
theorem Lw{P:Db}{w:Da}{K:BT}{mb:Str->Option B}{CX:CXT}{k:Nat}{fa:J}{fd:Ch}{sp:Sp}{g:ϋ}{vs:List B}{ns:List Int}
  (KX:K.In g.heap) (ak:g.heap.Ns mainGlobals mg) (Q:g.heap.Ns builtinsNs mb) (aG:∀x:Str,x ≠ "__name__"->mb x=bootBuiltins x) (Yf:g.heap.NoLimit) (hg:g.gens=#[])
  (ha:g.heap.get? a=Z {cls:=.type "list",data:=.seq vs.toArray}) (hi:IntsAre vs ns) (hl:ns.length<=px) (hr:bS k callerA)
  (F:∀base:Ev,K.In base->base.Ns mainGlobals mg->aS P w K mg base CX k fa fd [x] sp) (WU:∀(s:ϋ)(u:B),BindsTo s fd ([u],[]) [(x,u)])
  (aD:∀H:Hp,PJ H->SqL K H a (ns.map V.int)->sp [.ref a] H (λv _=>v=.bl O) λ_ _ _=>False)
  (aL:∀H e s',CX [] H g (λ_ _ _=>False) e s'->False):
  codeAny (model P w) callerA (.call (.ref fa) ([.ref a],[])) (λr s'=>r=.ok (.ret (.bool O))/\OldK g.heap s'.heap/\s'.os=g.os/\AllBare s'.gens) g:=by
 have rv:=Hh hi;have X1:=hi.length;have core:∀H,PJ H->SqL K H a (ns.map V.int)->HOk P w H g.heap->(∀b,H b≠Y->b=a)->(H a≠Y->K.lookup a=Y) ->
   codeAny (model P w) callerA (.call (.ref fa) ([.ref a],[])) (λr s'=>r=.ok (.ret (.bool O))/\OldK g.heap s'.heap/\s'.os=g.os/\AllBare s'.gens) g:=by
  intro H hO hS hok hA hK;have GK:∀{b:J}{o:Obj},g.heap.get? b=Z o->H b=Y->(Ce g.heap H).get? b=Z o:=λe n=>LO e n
  have av:∀{b:J}{o:Obj}{es:Array DictEntry}{ep:Nat},g.heap.get? b=Z o->o.data=.dict es ep->H b=none:=λ{b o es ep} e d=>by
   cases q:H b with
   |none=>rfl
   |some u =>
    have e':=hA b (by rw[q];simp)
    subst e';rw[ha]at e;cases e;have d':=d;cases d'
  have ah:∀{b:J}{m:Str->Option B},g.heap.Ns b m->(Ce g.heap H).Ns b m:=λ{b m} (o,es,ep,e,d,r)=>(o,es,ep,GK e (av e d),d,r)
  have aq:=λb o e=>GK (KX b o e) (by
   cases q:H b with
   |none=>rfl
   |some u =>
    have e':=hA b (by rw[q];simp)
    subst e';rw[hK (by rw[q];simp)]at e;cases e)
  have hM:Mod K mg (Ce g.heap H):=(aq,ah ak,(mb,ah Q,aG),let(mc,h1,h2):=Yf;(mc,ah h1,h2))
  have e0:CW P w K mg (Ce g.heap H) callerA [] g H:=(U,hM,λb o e=>OQ e,ZS (IA _ _),trivial,λb Q=>absurd (show b∈([])from Q) (by simp),hok,.of_eq hg)
  refine codeAny_mono ((F _ aq (ah ak)).run callerA [] g H ([.ref a],[]) [.ref a] [.ref a] _ _ hr e0 (WU g (.ref a)) (.cons U .nil) (aD H hO hS)) λr s' h=>?_
  cases r with
  |error e=>exact(aL H e s' h).elim
  |ok fl =>
   cases fl with
   |next=>exact False.elim h
   |brk=>exact False.elim h
   |cont=>exact False.elim h
   |ret u =>
    let(v,H',os,bare,un,Yd,r',q):=h;have q':=q;subst q';obtain rfl:=r';refine(U,OldK.of_keep λb o e=>?_,os,bare)
    cases q:H b with
    |none=>exact un.keep b o e q (by intro z;exact absurd (show b∈([])from z) (by simp)) (by simp)
    |some u =>
     obtain z |⟨ob,xs,z⟩:=hO b
     ·rw[q]at z;cases z
     ·have z2:=un.pO b ob _ z;let(e1,_):=hok b _ z;let(e2,_):=Yd b _ z2;rw[e]at e1;cases e1;exact e2
 cases hk:K.lookup a with
 |some o =>
  have e:=KX a o hk;rw[ha]at e;cases e;refine core (λ_=>Y) (λ_=>.inl U) (.inr (_,vs.toArray,_,hk,U,U,U,by rw[u3,X1];exact hl,by simpa using rv)) (λb u z=>by have z':=z;cases z') (λb z=>absurd U z) λz=>absurd U z
 |none =>
  refine core (λb=>if b=a then Z (.frz {cls:=.type "list",data:=.seq vs.toArray} (.lst (ns.map V.int)))else Y) (λb=>?_) (.inl (.inr ({cls:=.type "list",data:=.seq vs.toArray},if_pos U))) (λb u z=>?_) (λb z=>?_) λ_=>hk
  ·by_cases Q:b=a
   ·exact .inr (_,_,if_pos Q)
   ·exact .inl (if_neg Q)
  ·by_cases Q:b=a
   ·have z':=(if_pos Q).symm.trans z;cases z';subst Q;exact(ha,by rw[gV];exact hl,vs,_,rv,ha)
   ·have z':=(if_neg Q).symm.trans z;cases z'
  ·by_cases Q:b=a
   ·exact Q
   ·exact absurd (if_neg Q) z
variable{n:Nat}
theorem Nh{l:W.OpenLaw}{k:Nat}{q:Db}{loose:List Str}{XP:(Str->Option B)->Ev->Prop}{YP:Da->Ev->Prop}{d:DefRec}{K:Params->BT}{CX:Da->CXT}{sp:Da->Sp}
  (hn:l.most=Z n) (Q:n<=px) (ah:d.params.defaults=[]) (hr:bS k callerA)
  (hY:∀(w:Da)(h:Ev),YP w h->(K w.params).In h)
  (F:∀(w:Da)(mg:Str->Option B)(fa:J)(h:Ev),(K w.params).In h->h.Ns mainGlobals mg->mg d.name=Z (.ref fa) ->
   ∃fd:Ch,(∀(s:ϋ)(u:B),BindsTo s fd ([u],[]) [(x,u)]) /\
    ∀base:Ev,(K w.params).In base->base.Ns mainGlobals mg->aS l.prog w (K w.params) mg base (CX w) k fa fd [x] (sp w))
  (P:∀(w:Da)(H:Hp)(a:J)(ns:List Int),ns.length<=n->PJ H->SqL (K w.params) H a (ns.map V.int)->sp w [.ref a] H (λv _=>v=.bl O) λ_ _ _=>False)
  (ak:∀(w:Da)(H:Hp)(s:ϋ)(e:B)(s':ϋ),CX w [] H s (λ_ _ _=>False) e s'->False):
  W.WalkO q loose XP YP l.row.toRowW d [] (λf vs=>PySem.call f vs):=by
 refine Att.CB hn ah λw s₀ z mg mb fa o pm cd doc a vs ns G ϋ ho hd aq hmg Iw hints hlen hg=>?_
 have KX:=hY w _ ϋ;let(fd,hb,hF):=F w mg fa _ KX G.T.g hmg;exact Lw KX G.T.g G.T.b G.T.builtins G.T.nolimit hg Iw hints (u6 hlen Q) hr hF hb (λH hO hS=>P w H a ns hlen hO hS) λH e s'=>ak w H z e s'
def iI(s:Fk):Arguments:=match s with
 |.FunctionDef _ a _ _ _ _ _ _ _ _=>a
 |_=>{posonlyargs:=[],args:=[],vararg:=Y,kwonlyargs:=[],kw_defaults:=[],kwarg:=Y,defaults:=[]}
def cA(s:Fk):List Fk:=match s with
 |.FunctionDef _ _ b _ _ _ _ _ _ _=>b
 |_=>[]
def au(s:Fk):Scope:=match s with
 |.FunctionDef _ _ _ _ _ _ sc _ _ _=>sc
 |_=>{kind:=.function,names:=[],isGenerator:=ϊ,isCoroutine:=ϊ}
abbrev CX0:CXT:=λ_ _ _ _ _ _=>False
abbrev E0:XK:=λ_ _ _=>False
variable{X:Cx}
def ud:Passes CX0 X E0:=λ_ _ _ _ _ _ _ h=>h.elim
structure Fun(K:BT)(x qual:Str)(st:Fk)(f:J)(fd:Ch):Prop where
 ex:∃(oc:B)(od:Option J)(kV doc pm:B)(an:Option J)(cdv ct:B)(osl:Array (Option B)),
  fd=W.fnOf x qual (iI st) (cA st) (au st) .none kV doc pm an cdv ct/\K.lookup f=Z (oc,od,.func fd,osl)/\W.codeIn K cdv qual=O
 kp:W.keepIn K (.ref f)=O
variable{qual:Str}{st:Fk}{fd:Ch}{ps:List Str}{oc:B}{od:Option J}{an:Option J}{pm:B}{ct:B}
section
variable{P:Db}{w:Da}{K:BT}{base:Ev}
theorem Fun.ok{x qual:Str}{st:Fk}{f:J}{fd:Ch}{N ps:List Str}{k:Nat}{sp:Sp}(F:Fun K x qual st f fd)(S:aE N ps (au st))(len:∀vs H Q E,sp vs H Q E->vs.length=ps.length)
  (jw:∀(cdv:B)(A:Do)(outer:List Env)(s:ϋ)(H:Hp)(vs:List V)(Q:VK)(E:XK),bS k (A.deeper (envOfC qual (au st) s.heap.objs.size f cdv))->sp vs H Q E ->
   ∃t,PSs (pQ CX0 P w K mg base N qual (au st) f cdv A outer s H E).nox (cA st) t/\t {nx:=λ_ H'=>Q .non H',rt:=Q} (start N vs) H):aS P w K mg base CX0 (k+1) f fd ps sp:=by
 let(oc,od,kV,doc,pm,an,cdv,ct,osl,U,lk,z):=F.ex;refine QM lk z S len λA outer s H vs Q E hr g=>?_
 let(t,h,q):=jw cdv A outer s H vs Q E hr g;exact(t,h.nox,q)
theorem Fun.binds{f:J}(F:Fun K x qual st f fd)
  (h:∀(kV doc pm:B)(an:Option J)(cdv ct:B)(us:List B),us.length=ps.length->bindArgs (W.fnOf x qual (iI st) (cA st) (au st) .none kV doc pm an cdv ct) (us,[])=pure (ps.zip us)):Binds K fd ps []:=by
 let(oc,od,kV,doc,pm,an,cdv,ct,osl,U,lk,g):=F.ex;exact .all (h kV doc pm an cdv ct)
theorem pN{f:J}{osl:Array (Option B)}{kV doc cdv:B}(l:K.lookup f=Z (oc,od,.func (W.fnOf x qual (iI st) (cA st) (au st) .none kV doc pm an cdv ct),osl))
  (c:W.codeIn K cdv qual=O) (k:W.keepIn K (.ref f)=O):Fun K x qual st f (W.fnOf x qual (iI st) (cA st) (au st) .none kV doc pm an cdv ct):=((oc,od,kV,doc,pm,an,cdv,ct,osl,U,l,c),k)
end
variable{A:Do}
def b9{k:Nat}(hr:bS k A):A.units+1<cLine:=Y1 (Nat.add_le_add_left (by decide) _) hr.units
def bq(h:n<=1000):n<px:=Y1 h (by decide)
section
def pv(i:Nat){pos:Pos}(q:‹X.N[i]?=Z x›)(hv:Vis X.env.scope x:=by first|exact Or.inl rfl|exact Or.inr (Or.inl U)|exact Or.inr (Or.inr U))(hd:AS x:=by decide)
  (g:(x ==("__classdict__":Str))=false:=by decide):PE X (.Name x pos) (bX i):=zD q hv hd g
end
def Wv{A ό:Prop}(h:A):if O=O then A else ό:=by
 rw[if_pos rfl];exact h
def aY{c A ό:Prop}[Decidable c](h1:c->A)(h2:¬ c->ό):if c then A else ό:=by
 by_cases h:c
 ·rw[if_pos h];exact h1 h
 ·rw[if_neg h];exact h2 h
def pU(H H':Hp):Prop:=∀b o,H b=Z o->H' b=Z o
def pU.refl(H:Hp):pU H H:=λ_ _ h=>h
variable{H:Hp}{H':Hp}{l:J}
def pU.free(e:pU H H')(h:H' l=Option.none):H l=Option.none:=by
 cases q:H l with
 |none=>rfl
 |some o =>
  rw[e l o q]at h;cases h
variable{y:V}{u:B}
section
variable{κ:Type}[DecidableEq κ]
def pY(kvs:List (κ×V))(k:κ):Option V:=(kvs.find? λg=>decide (g.1=k)).map (·.2)
def putK(kvs:List (κ×V))(k:κ)(v:V):List (κ×V) :=
 if(kvs.any λg=>decide (g.1=k))=O then kvs.map (λg=>if g.1=k then(g.1,v)else g)else kvs ++ [(k,v)]
def vw{p:κ×V}{r:List (κ×V)}{k:κ}(e:p.1=k):pY (p::r) k=Z p.2:=by simp[pY,e]
def vx{p:κ×V}{r:List (κ×V)}{k:κ}(e:¬ p.1=k):pY (p::r) k=pY r k:=by simp[pY,e]
theorem AV(k:κ):∀kvs:List (κ×V),(kvs.any λg=>decide (g.1=k))=(pY kvs k).isSome
 |[]=>rfl
 |p::r=>by
  rw[Zg];by_cases e:p.1=k
  ·simp only[vw e,decide_eq_true e,aa4,Option.isSome_some]
  ·rw[vx e,decide_eq_false e];exact AV k r
def m9(kvs:List (κ×V))(k:κ)(v:V):(putK kvs k v).length<=kvs.length+1:=by
 unfold putK
 split
 ·rw[gV];lia
 ·rw[oa,mD,Zv];lia
def lR.Iq{o:Option V}{u:Option B}(r:lR o u):o.isSome=u.isSome:=by
 cases o with
 |none=>cases u with
  |none=>rfl
  |some _=>exact(r).elim
 |some _=>cases u with
  |none=>exact(r).elim
  |some _=>rfl
def KV.val{kvs:List (κ×V)}{vs:List (κ×B)}(r:KV kvs vs)(k:κ):lR (pY kvs k) (valueAt vs k):=by
 induction r with
 |nil=>exact True.intro
 |@cons p q ps qs h t K =>
  let(h1,h2):=h;by_cases e:p.1=k
  ·have g:=h1.symm.trans e;have b:valueAt (q::qs) k=Z q.2:=by simp[valueAt,g]
   rw[vw e,b];exact h2
  ·have g:¬ q.1=k:=λz=>e (h1.trans z)
   have b:valueAt (q::qs) k=valueAt qs k:=by simp[valueAt,g]
   rw[vx e,b];exact K
theorem KV.any{kvs:List (κ×V)}{vs:List (κ×B)}(r:KV kvs vs)(k:κ):(kvs.any λg=>decide (g.1=k))=vs.any λg=>decide (g.1=k):=by
 induction r with
 |nil=>rfl
 |cons h t q=>rw[Zg,Zg,q,h.1]
def KV.RM{kvs:List (κ×V)}{vs:List (κ×B)}(r:KV kvs vs)(k:κ)(K:RelV y u):
  KV (kvs.map λg=>if g.1=k then(g.1,y)else g) (vs.map λg=>if g.1=k then(g.1,u)else g):=by
 induction r with
 |nil=>exact .nil
 |@cons p q ps qs h t P =>
  rw[E6,E6];refine .cons ?_ P;let(h1,h2):=h;by_cases e:p.1=k
  ·rw[if_pos e,if_pos (h1.symm.trans e)];exact(h1,K)
  ·rw[if_neg e,if_neg (λz=>e (h1.trans z))];exact(h1,h2)
def KV.put{kvs:List (κ×V)}{vs:List (κ×B)}(r:KV kvs vs)(k:κ)(g:RelV y u):KV (putK kvs k y) (stored vs k u):=by
 unfold putK stored;rw[r.any k];by_cases e:(vs.any λq=>decide (q.1=k))=O
 ·rw[if_pos e,if_pos e];exact r.RM k g
 ·rw[if_neg e,if_neg e];exact Paired.snoc r (U,g)
theorem KV.length{kvs:List (κ×V)}{vs:List (κ×B)}(r:KV kvs vs):kvs.length=vs.length:=Paired.length r
end
variable{P:Db}
def Gp{w:Da}{k:Key}(r:RelV (kV k) u):(dZ P w).is k u=true:=by
 cases k with
 |inl i=>let(t,e):=(r);subst e;exact BV P w i t
 |inr x=>let(t,e):=(r);subst e;exact BU P w x t
theorem yw{P:Db}{w:Da}:∀{ks:List Key}{us:List B},Vals (ks.map kV) us->ItemsAre (dZ P w) ks us
 |[],_,r=>by cases r;exact .nil
 |k::ks,_,r=>by
  cases r with
  |cons h t=>exact .cons (Gp h) (yw t)
abbrev KT(H:Hp):List (List Key×V)->List (List Key×J×B)->Prop:=Paired λp q=>p.1=q.1/\H q.2.1=Z (.tup (p.1.map kV))/\RelV p.2 q.2.2
variable{kvs:List (List Key×V)}
def KT.val{xs:List (List Key×J×B)}(r:KT H kvs xs)(k:List Key):lR (pY kvs k) ((atKey xs k).map (·.2)):=by
 induction r with
 |nil=>exact True.intro
 |@cons p q ps qs h t K =>
  let(h1,_,h2):=h;by_cases e:p.1=k
  ·have g:=h1.symm.trans e;have b:atKey (q::qs) k=Z q.2:=by simp[atKey,g]
   rw[vw e,b];exact h2
  ·have g:¬ q.1=k:=λz=>e (h1.trans z)
   have b:atKey (q::qs) k=atKey qs k:=by simp[atKey,g]
   rw[vx e,b];exact K
def KT.RM{xs:List (List Key×J×B)}(r:KT H kvs xs)(k:List Key)(K:RelV y u):
  KT H (kvs.map λg=>if g.1=k then(g.1,y)else g) (xs.map (putAt k u)):=by
 induction r with
 |nil=>exact .nil
 |@cons p q ps qs h t P =>
  rw[E6];refine .cons ?_ P;let(h1,h2,h3):=h;unfold putAt;by_cases e:p.1=k
  ·rw[if_pos e,if_pos (h1.symm.trans e)];exact(h1,h2,K)
  ·rw[if_neg e,if_neg (λz=>e (h1.trans z))];exact(h1,h2,h3)
def KT.put{xs:List (List Key×J×B)}(r:KT H kvs xs)(k:List Key){b:J}(K:H b=Z (.tup (k.map kV)))(g:RelV y u):
  KT H (putK kvs k y) (storedH xs k b u):=by
 have e:(kvs.any λz=>decide (z.1=k))=(atKey xs k).isSome:=by
  rw[AV,(r.val k).Iq,ZH]
 unfold putK storedH;rw[e];by_cases q:(atKey xs k).isSome=O
 ·rw[if_pos q,if_pos q];exact r.RM k g
 ·rw[if_neg q,if_neg q];exact Paired.snoc r (U,K,g)
def KT.keeps{xs:List (List Key×J×B)}(r:KT H kvs xs)(g:∀b ys,H b=Z (.tup ys)->H' b=Z (.tup ys)):KT H' kvs xs :=
 Paired.Wj r λ_ _ z=>(z.1,g _ _ z.2.1,z.2.2)
section
variable{w:Da}{h:Ev}
def PX{u:HO}(ok:HOk P w H h)(e:Rd H a u):dm P w H h a u:=e.ok ok
def GA{kvs:List (Key×V)}(ok:HOk P w H h)(e:Rd H a (.dK kvs)):kvs.length<=px/\(a==sysModules)=ϊ/\∃vs,KV kvs vs/\h.DictOf (dZ P w) a vs :=
 PX ok e
def QP{kvs:List (Key×V)}(ok:HOk P w H h)(e:H a=Z (.dK kvs)):kvs.length<=px/\(a==sysModules)=ϊ/\∃vs,KV kvs vs/\h.DictOf (dZ P w) a vs:=GA ok (.inl e)
def Ex{ks:List Key}(ok:HOk P w H h)(e:H a=Z (.tup (ks.map kV))):(tupleKind (dZ P w)).is h ks a:=by
 let(_,its,r,(o,h1,h2,n,h3),_):=(ok a _ e);exact(o,its.toArray,n,h1,h2,h3,by simpa using yw r)
def Mc(ok:HOk P w H h)(e:Rd H a (.dT kvs)):kvs.length<=px/\(a==sysModules)=ϊ /\
  ∃xs,KT H kvs xs/\h.DictOfH (tupleKind (dZ P w)) a xs:=by
 let(z,y,xs,r,o,es,Q,h1,h2,h3,h4,h5):=(PX ok e);refine(z,y,xs,r,o,es,Q,h1,h2,h3,h4,λx hx=>?_,h5)
 have all:∀{l:List (List Key×V)}{m:List (List Key×J×B)},KT H l m->∀x∈m,(tupleKind (dZ P w)).is h x.1 x.2.1:=by
  intro l m q
  induction q with
  |nil=>intro x hx;exact nomatch hx
  |@cons p q ps qs g t K =>
   intro x hx;obtain e|hx:=fH.mp hx
   ·subst e;exact Ex ok (by rw[<- g.1];exact g.2.1)
   ·exact K x hx
 exact all r x hx
def WZ(ok:HOk P w H h)(e:H a=Z (.dT kvs)):kvs.length<=px/\(a==sysModules)=ϊ /\
  ∃xs,KT H kvs xs/\h.DictOfH (tupleKind (dZ P w)) a xs:=Mc ok (.inl e)
end
def xq(H:Hp)(a:J)(y:V)(r:Option V):Prop :=
 (∃kvs k,Rd H a (.dK kvs)/\y=kV k/\r=pY kvs k)\/∃kvs k b,Rd H a (.dT kvs)/\y=.ref b/\H b=Z (.tup (k.map kV))/\r=pY kvs k
def C0(H:Hp)(a:J)(y v:V)(H':Hp):Prop :=
 (∃kvs k,H a=Z (.dK kvs)/\y=kV k/\kvs.length<px/\H'=upd H a (.dK (putK kvs k v))) \/
 ∃kvs k b,H a=Z (.dT kvs)/\y=.ref b/\H b=Z (.tup (k.map kV))/\kvs.length<px/\H'=upd H a (.dT (putK kvs k v))
theorem xq.k{H:Hp}{a:J}{kvs:List (Key×V)}{k:Key}(e:H a=Z (.dK kvs)):xq H a (kV k) (pY kvs k):=.inl (kvs,k,.inl e,U,U)
theorem C0.k{H:Hp}{a:J}{kvs:List (Key×V)}{k:Key}{v:V}(e:H a=Z (.dK kvs))(hl:kvs.length<px):C0 H a (kV k) v (upd H a (.dK (putK kvs k v))):=.inl (kvs,k,e,U,hl,U)
variable{Q:B->ϋ->Prop}{h':Ev}{t':Nat}
section
variable{gd:List (J×Obj)}{σ:St}{s:ϋ}{v:V}{r:B}{E:B->ϋ->Prop}
def Inv.big(I:Inv X gd σ H s):sysModules<s.heap.objs.size:=by
 have h:=(I.mod.glob.keeps I.bk).lt;exact aa5 (by decide) h
def IJ(hu:A.units+1<cLine)(I:Inv X gd σ H s)(g:xq H a y (Z v))(ry:RelV y u)(h:∀K s',Inv X gd σ H s'->RelV v K->Q K s'):
  wpAny (model X.prog X.w) A (getItem (.ref a) u) Q E s:=by
 obtain⟨kvs,k,e,V,l⟩|⟨kvs,k,b,e,V,eb,l⟩:=g
 ·subst V;let(z,hd,vs,rel,dd):=GA I.hok e;let(K,hw,q):=lR.some_of (by rw[l];exact rel.val k)
  exact wpAny_getItem_of (Gp ry) dd.mapOf hw (h K _ (I.tok _) q)
 ·subst V
  cases(ry)
  let(z,hd,xs,rel,dd):=Mc I.hok e;let(K,hw,q):=lR.some_of (by rw[l];exact rel.val k)
  let(p,hp,P):=kf.mp hw;refine wpAny_getItem_heap (tupleKind_room_in1 hu) (Ex I.hok eb) dd hp ?_;rw[P];exact h K _ (I.tok _) q
def Al{ob:HO}(I:Inv X gd σ H s)(g:Mut (H a))(hs:Zk a s.heap h')(he:∃q,h'.get? a=Z q)(new:dm X.prog X.w (upd H a ob) h' a ob):
  Inv X gd σ (upd H a ob) {s with heap:=h',toks:=t'} :=
 I.write g (.inl U) (λb q K z=>(hs.2 b K).trans z) he new
def Me{w:Da}{kvs:List (Key×V)}{vs:List (Key×B)}(z:kvs.length<=px)(hd:(a==sysModules)=ϊ)(rel:KV kvs vs)(dd:h'.DictOf (dZ P w) a vs):
  dm P w H' h' a (.dK kvs):=(z,hd,vs,rel,dd)
def II{Q:Unit->ϋ->Prop}(hu:A.units+1<cLine)(I:Inv X gd σ H s)(g:C0 H a y v H')(ry:RelV y u)(rv:RelV v r)(h:∀s',Inv X gd σ H' s'->Q () s'):
  wpAny (model X.prog X.w) A (setItem (.ref a) u r) Q E s:=by
 obtain⟨kvs,k,e,P,l,V⟩|⟨kvs,k,b,e,P,eb,l,V⟩:=g
 ·subst P V;let(z,hd,vs,rel,dd):=QP I.hok e;have hz:vs.length<=px:=by rw[<- rel.length];exact z
  have hl:(putK kvs k v).length<=px:=by have:=m9 kvs k v;omega
  refine wpAny_setItem_pairs (Gp ry) dd λh' dd' hs=>h _ ?_
  have he:∃q,h'.get? a=Z q:=let(q,_,_,K,_):=dd';(q,K)
  exact Al I (by rw[e];exact True.intro) hs he (Me hl hd (rel.put k rv) dd')
 ·subst P V
  cases(ry)
  let(z,hd,xs,rel,dd):=WZ I.hok e;have hz:xs.length<=px:=by rw[<- Paired.length rel];exact z
  have hl:(putK kvs k v).length<=px:=by have:=m9 kvs k v;lia
  refine wpAny_setItem_heap (hsz:=hz) (tupleKind_room_in1 hu) (Ex I.hok eb) dd λh' dd' hs=>h _ ?_
  let(q,es,ep,K,h2,h3,h4,_,h5):=dd';refine Al I (by rw[e];exact True.intro) hs (q,K) (hl,hd,_,(rel.put k eb rv).keeps λc ys ec=>?_,q,es,ep,K,h2,h3,h4,h5)
  rw[aw (en ec e (λz=>nomatch z))]
  exact ec
end
section
variable{gd:List (J×Obj)}{σ:St}{s:ϋ}{kvs:List (Key×V)}{E:B->ϋ->Prop}
def W0(I:Inv X gd σ H s)(e:Rd H a (.dK kvs))(h:∀t s',Inv X gd σ H s'->Q (.int kvs.length t) s'):wpAny (model X.prog X.w) A (call (.builtin "len") [.ref a]) Q E s:=by
 let(z,hd,vs,rel,dd):=GA I.hok e;refine call_len_dict hd dd (by rw[<- rel.length];rw[Y0]at z;lia) ?_
 rw[<- rel.length];exact h _ _ (I.tok _)
end
def Xo(i:EQ):Prop:=∀g iv,subscripted i ϊ g iv=operate [g,iv] (getItem g iv)
variable{E:B->ϋ->Prop}{s:ϋ}{env:Env}{value:EQ}
def Nl{prog:Db}{w:Da}{slice:EQ}{T id:String}
  (hl:typeLookup (.type T) "__getitem__"=pure (Z (.builtin id))) (hs:Xo slice)
  (h:wpAny (model prog w) A (eval value env) (λo z=>wpAny (model prog w) A (eval slice env) (λi s₂=>s₂.TypeIs o T/\wpAny (model prog w) A (getItem o i) Q E s₂) E z) E s):
  wpAny (model prog w) A (eval (.Subscript value slice pos) env) Q E s:=by
 refine Subscript_ (E5 h (λo z P=>E5 P (λi s₂ g=>?_) λ_ _ x=>x) λ_ _ x=>x)
 let(hT,g):=g;refine dO ?_;refine dO (Z2 hT hl ?_);have fin:wpAny (model prog w) A (subscripted slice ϊ o i) (λr q=>wpAny (model prog w) A (letTemporaryGo value o r >>= λ_=>pure r) Q E q) E s₂:=by
  rw[hs o i];exact wpAny_operating (E5 g (λr q K=>dO (wpAny_letTemporaryGo (u7 K))) λ_ _ x=>x)
 exact u7 (dO fin)
variable{gd:List (J×Obj)}
def Cr{σ:St}{o:Option V}(I:Inv X gd σ H s)(g:xq H a y o):s.TypeIs (.ref a) "dict":=by
 obtain⟨kvs,k,e,_,_⟩|⟨kvs,k,b,e,_,_,_⟩:=g
 ·let(_,_,vs,_,dd):=GA I.hok e;exact dd.typeIs
 ·let(_,_,xs,_,dd):=Mc I.hok e;exact dd.typeIs
def U8(td ty:TE):TE:=λσ H Q=>td σ H λx H1=>ty σ H1 λy g=>∃a v,x=.ref a/\xq g a y (Z v)/\Q v g
def Vd(td ty tv:TE):TS:=λD σ H=>tv σ H λv H1=>td σ H1 λx z=>ty σ z λy q=>∃a g,x=.ref a/\C0 q a y v g/\D.nx σ g
section
variable{o i:EQ}{pos pos':Pos}{td ty tv:TE}
def ly(hu:X.A.units+1<cLine)(ho:PE X o td)(hi:PE X i ty)(hs:Xo i):PE X (.Subscript o i pos) (U8 td ty):=by
 intro gd s σ H Q I h;refine Nl PySem.F.slot_dict_getitem.lookup hs (thn (ho gd s σ H _ I h) λu s1 (x,H1,I1,V,q1)=>thn (hi gd s1 σ H1 _ I1 q1) λiv s2 z=>?_)
 let(y,H2,K,P,a,v,ex,g,q2):=z;subst ex;obtain rfl:=V;exact(Cr K g,IJ hu K g P λw' s3 I3 q=>(v,H2,I3,q,q2))
def zy(hu:X.A.units+1<cLine)(ho:PE X o td)(hi:PE X i ty)(hv:PE X value tv)(hs:swapsWith value (Z (.Subscript o i pos')) pos.line X.env=pure ϊ):
  PS X (.Assign [.Subscript o i pos'] value pos) (Vd td ty tv):=by
 intro gd s σ H D I h;refine wpAny_Assign_Subscript (thn (hv gd s σ H _ I h) λr s1 (v,H1,I1,P,q1)=>thn (ho gd s1 σ H1 _ I1 q1) λu s2 (x,H2,I2,K,V)=>thn (hi gd s2 σ H2 _ I2 V) λiv s3 q=>?_) hs
 let(y,H3,I3,z,a,H4,ex,g,Q):=q;subst ex;obtain rfl:=K;exact II hu I3 g z P λs4 I4=>(σ,H4,I4,Q)
end
def Mf{w:Da}(h:Ev)(g:sysModules<h.objs.size):dm P w H (h.push {cls:=.type "dict",data:=.dict #[]}) h.objs.size (.dK []) :=
 (Fs _,beq_eq_false_iff_ne.mpr (Ne.symm (AG g)),[],.nil,Heap.DictOf.new h)
def Du:List (TE×TE)->St->Hp->(List (V×V)->Hp->Prop)->Prop
 |[],_,H,Q=>Q [] H
 | (tk,tv)::r,σ,H,Q=>tk σ H λx H1=>tv σ H1 λy q=>Du r σ q λps g=>Q ((x,y)::ps) g
abbrev VV:List (V×V)->List (B×B)->Prop:=Paired λp q=>RelV p.1 q.1/\RelV p.2 q.2
def PPs(X:Cx)(pos:Pos)(keys:List (Option EQ))(values:List EQ)(g:List (TE×TE)):Prop :=
 ∀(gd:List (J×Obj))(s:ϋ)(σ:St)(H:Hp)(Q:List (V×V)->Hp->Prop),Inv X gd σ H s->Du g σ H Q ->
  XV X (evalPairs (pairTrees keys values X.env pos)) (λvs s'=>∃ps H',Inv X gd σ H' s'/\VV ps vs/\Q ps H') X.xe s
def Ou:PPs X pos [] [] []:=λgd s σ H Q I h=>pairTrees_nil_walk ([],H,I,.nil,h)
variable{tv:TE}
def vP{k v:EQ}{ks:List (Option EQ)}{vs:List EQ}{tk:TE}{g:List (TE×TE)}(hk:PE X k tk)(hv:PE X v tv)(hr:PPs X pos ks vs g):
  PPs X pos (Z k::ks) (v::vs) ((tk,tv)::g):=λgd s σ H Q I h =>
 pairTrees_cons_walk (thn (hk gd s σ H _ I h) λu s1 (x,H1,I1,z,V)=>thn (hv gd s1 σ H1 _ I1 V) λw2 s2 (y,H2,I2,q,P) =>
  thn (hr gd s2 σ H2 _ I2 P) λws s3 (ps,H3,I3,rel,K)=>((x,y)::ps,H3,I3,.cons (z,q) rel,K))
def tm(kvs more:List (Key×V)):List (Key×V):=more.foldl (λacc g=>putK acc g.1 g.2) kvs
def KV.merge:∀{more:List (Key×V)}{rs:List (Key×B)}{kvs:List (Key×V)}{vs:List (Key×B)},KV more rs->KV kvs vs->KV (tm kvs more) (merged vs rs):=by
 intro more rs kvs vs r
 induction r generalizing kvs vs with
 |nil=>intro q;exact q
 |@cons p q ps qs h t z =>
  intro g;have e:KV (putK kvs p.1 p.2) (stored vs q.1 q.2):=by
   have:=g.put p.1 h.2
   rw[<- h.1];exact this
  exact z e
theorem oH:∀(more kvs:List (Key×V)),(tm kvs more).length<=kvs.length+more.length
 |[],kvs=>by show kvs.length<=kvs.length+0;lia
 |p::r,kvs=>by
  have h1:=oH r (putK kvs p.1 p.2);have h2:=m9 kvs p.1 p.2;show(tm (putK kvs p.1 p.2) r).length<=_;rw[mD];lia
theorem wZ{P:Db}{w:Da}:∀{kvs:List (Key×V)}{ws:List (B×B)},VV (kvs.map λg=>(kV g.1,g.2)) ws->∃rs,Carries (dZ P w) ws rs/\KV kvs rs
 |[],_,r=>by cases r;exact([],True.intro,.nil)
 |p::kvs,_,r=>by
  cases r with
  |@cons a b as bs h t =>
   let(rs,c,q):=wZ t;let(b1,b2):=b;exact((p.1,b2)::rs,(Gp h.1,U,c),.cons (U,h.2) q)
def U7(g:List (TE×TE)):TE:=λσ H Q=>∀p,H p=Y->Du g σ (upd H p (.dK [])) λps z=>z p=Z (.dK [])/\∃kvs:List (Key×V),ps=kvs.map (λq=>(kV q.1,q.2))/\kvs.length<=15/\Q (.ref p) (upd z p (.dK (tm [] kvs)))
def OA{keys:List (Option EQ)}{values:List EQ}{g:List (TE×TE)}(h:PPs X pos keys values g)(Ug:keys.all (·.isSome)=O)(hl:keys.length=values.length)(h0:keys ≠ [])
  (P:keys.length<=15):PE X (.Dict keys values pos) (U7 g):=by
 intro gd s σ H Q I q;have hn:=I.hok.fresh (qd s.heap.objs.size);have I1:=I.laid (t':=s.toks) (λ_ _ q=>hL _ q) (qd _) (Mf s.heap I.big)
 refine wpAny_Dict_walk (knd:=dZ X.prog X.w) Ug hl h0 P (thn (h gd _ σ _ _ I1 (q _ hn)) λws s2 K=>?_)
 let(ps,H2,V,rel,e,kvs,ep,lk,q2):=K;subst ep;let(rs,c,rk):=wZ rel;let(z,hd,ah,r0,dd):=QP V.hok e;cases r0;refine(rs,c,dd,λh' dd' hs=>(.ref s.heap.objs.size,_,?_,U,q2))
 have hz:(tm [] kvs).length<=px:=by
  have h1:=oH kvs [];rw[Zv]at h1;rw[Y0];lia
 have he:∃q,h'.get? s.heap.objs.size=Z q:=let(q,_,_,hq,_):=dd';(q,hq)
 exact Al V (by rw[e];exact True.intro) hs he (Me hz hd (rk.merge .nil) dd')
section
def IU:df X (.builtin "len") (λxs H Q=>∃a kvs,xs=[V.ref a]/\H a=Z (.dK kvs)/\Q (.int kvs.length) H):=by
 intro gd s σ H xs us Q I r h;let(a,kvs,U,ha,q):=h;let(u,U,ru):=vals1 r;cases ru;exact W0 I (.inl ha) λt s' g=>(.int kvs.length,H,g,(t,U),q)
end
end L2
set_option maxHeartbeats 4000000
namespace L2
open PySem PySem.Spec PyProof.Rows
def wg{h:Ev}{a:Nat}{o:Obj}(e:h.get? a=Z o):@LT.lt Nat _ a h.objs.size:=uj e
def GJ{h:Ev}{a:Nat}{v:Option B}(e:h.IsCell a v):@LT.lt Nat _ a h.objs.size:=e.lt
def qS{a b:Nat}(h:a<b):@Ne J a b:=AG h
def Wg{a b:Nat}(h:b<a):@Ne J a b:=ZA h
theorem nj{env:Env}{body:Str×NameKind->List (Str×J)->Sem (ForInStep (List (Str×J)))}
  (Q:∀n k c,body (n,k) c=if(k==NameKind.free)=O then(cellOf env n >>= λa=>pure (.yield ((n,a)::c)))else pure (.yield c)):
  ∀(l:List (Str×NameKind))(cs:List (Str×J)),(∀p∈l,p.2=NameKind.free->∃c,env.cells.lookup p.1=Z c) ->
   ∃cl,forIn l cs body=pure cl/\(∀x c,cl.lookup x=Z c->env.cells.lookup x=Z c\/cs.lookup x=Z c)/\(∀x,(x,NameKind.free)∈l->∃c,cl.lookup x=Z c)/\∀x c,cs.lookup x=Z c->∃q,cl.lookup x=Z q
 |[],cs,_=>(cs,U,λ_ _ h=>.inr h,λ_ h=>(nomatch h),λ_ c h=>(c,h))
 | (n,k)::r,cs,h=>by
  have hr:=λp hp=>h p (aJ _ hp)
  rw[List.forIn_cons,Q];by_cases K:(k==NameKind.free)=O
  ·rw[if_pos K];have P:=by simpa using K
   let(c,V):=h (n,k) di P;have e1:cellOf env n=pure c:=by unfold cellOf;rw[V]
   rw[e1];let(cl,e,h1,h2,h3):=nj Q r ((n,c)::cs) hr;refine(cl,e,λx q hx=>?_,λx hx=>?_,λx q hx=>?_)
   ·obtain z|z:=h1 x q hx
    ·exact .inl z
    ·by_cases g:(x==n)=O
     ·have e3:=by simpa using g
      subst e3;rw[v9,g]at z;cases z;exact .inl V
     ·rw[v9,E3.mpr g]at z;exact .inr z
   ·obtain z|z:=fH.mp hx
    ·have g:x=n:=congrArg Prod.fst z;exact h3 x c (by rw[v9,g,beq_self_eq_true])
    ·exact h2 x z
   ·by_cases g:(x==n)=O
    ·exact h3 x c (by rw[v9,g])
    ·exact h3 x q (by rw[v9,E3.mpr g];exact hx)
  ·rw[if_neg K];let(cl,e,h1,h2,h3):=nj Q r cs hr;refine(cl,e,h1,λx hx=>?_,h3)
   obtain z|z:=fH.mp hx
   ·cases z;exact absurd U K
   ·exact h2 x z
variable{scope:Scope}{env:Env}
def EN(h:∀p∈scope.names,p.2=NameKind.free->∃c,env.cells.lookup p.1=Z c):
  ∃cl:List (Str×J),closureFor scope env=pure cl/\(∀x c,cl.lookup x=Z c->env.cells.lookup x=Z c)/\∀x,(x,NameKind.free)∈scope.names->∃c,cl.lookup x=Z c:=by
 let(cl,e,h1,h2,_):=nj (body:=λx c=>if(x.2==NameKind.free)=O then(cellOf env x.1 >>= λa=>pure (.yield ((x.1,a)::c)))else pure (.yield c)) (λ_ _ _=>rfl) scope.names [] h
 refine(cl,?_,λx c hx=>(h1 x c hx).elim id λz=>by simp at z,h2)
 have g:closureFor scope env=(forIn scope.names ([]) (λx c=>if(x.2==NameKind.free)=O then(cellOf env x.1 >>= λa=>pure (.yield ((x.1,a)::c)))else pure (.yield c)) >>= λr=>pure r):=by
  simp only[closureFor]
 rw[g,e];rfl
theorem j7{env:Env}:∀{names:List (Str×NameKind)}{x:Str}{k:NameKind},
  (names.map λ(n,k)=>if(k==NameKind.free&&env.scope.kind == .function&&env.kindOf n==Z .cell)then(n,NameKind.cell)else(n,k)).lookup x=Z k ->
   names.lookup x=Z k\/(names.lookup x=Z .free/\k=.cell)
 |[],_,_,h=>by simp at h
 | (n,k0)::r,x,k,h=>by
  have q:=@j7 env r x k
  replace h:YQ x ((if(k0==NameKind.free&&env.scope.kind == .function&&env.kindOf n==Z .cell)=O then(n,NameKind.cell)else(n,k0)) ::(r.map λ(n,k)=>if(k==NameKind.free&&env.scope.kind == .function&&env.kindOf n==Z .cell)then(n,NameKind.cell)else(n,k)))=Z k:=h
  cases hx:x==n with
  |true =>
   by_cases g:(k0==NameKind.free&&env.scope.kind == .function&&env.kindOf n==Z .cell)=O
   ·rw[if_pos g]at h;simp only[v9,hx]at h;cases h
    have:=by
     simp only[tY]at g;simpa using g.1.1
    subst this;exact .inr (by simp only[v9,hx],U)
   ·rw[if_neg g]at h;simp only[v9,hx]at h;exact .inl (by simp only[v9,hx];exact h)
  |false =>
   have h':(r.map λ(n,k)=>if(k==NameKind.free&&env.scope.kind == .function&&env.kindOf n==Z .cell)then(n,NameKind.cell)else(n,k)).lookup x=Z k:=by
    by_cases g:(k0==NameKind.free&&env.scope.kind == .function&&env.kindOf n==Z .cell)=O
    ·rw[if_pos g]at h;simpa only[v9,hx]using h
    ·rw[if_neg g]at h;simpa only[v9,hx]using h
   obtain z|z:=q h'
   ·exact .inl (by simp only[v9,hx];exact z)
   ·exact .inr (by simp only[v9,hx];exact z)
theorem qE{env:Env}:∀{names:List (Str×NameKind)}{x:Str},names.lookup x=Z .free ->
  (names.map λ(n,k)=>if(k==NameKind.free&&env.scope.kind == .function&&env.kindOf n==Z .cell)then(n,NameKind.cell)else(n,k)).lookup x=Z .free \/
  (names.map λ(n,k)=>if(k==NameKind.free&&env.scope.kind == .function&&env.kindOf n==Z .cell)then(n,NameKind.cell)else(n,k)).lookup x=Z .cell
 |[],_,h=>by simp at h
 | (n,k0)::r,x,h=>by
  have q:=@qE env r x;show YQ x ((if(k0==NameKind.free&&env.scope.kind == .function&&env.kindOf n==Z .cell)=O then(n,NameKind.cell)else(n,k0))::_)=_\/YQ x ((if(k0==NameKind.free&&env.scope.kind == .function&&env.kindOf n==Z .cell)=O then(n,NameKind.cell)else(n,k0))::_)=_
  cases hx:x==n with
  |true =>
   simp only[v9,hx]at h;cases h;by_cases g:(NameKind.free==NameKind.free&&env.scope.kind == .function&&env.kindOf n==Z .cell)=O
   ·rw[if_pos g];simp only[v9,hx];exact .inr trivial
   ·rw[if_neg g];simp only[v9,hx];exact .inl trivial
  |false =>
   simp only[v9,hx]at h;by_cases g:(k0==NameKind.free&&env.scope.kind == .function&&env.kindOf n==Z .cell)=O
   ·rw[if_pos g];simp only[v9,hx];exact q h
   ·rw[if_neg g];simp only[v9,hx];exact q h
inductive sr(X:Cx)(sc:Scope):List Str->List (Option Nat)->Prop
 |nil:sr X sc [] []
 |own{x:Str}{N:List Str}{c:List (Option Nat)}:sc.names.lookup x=Z .local->sr X sc N c->sr X sc (x::N) (Y::c)
 |got{x:Str}{i:Nat}{N:List Str}{c:List (Option Nat)}:X.N[i]?=Z x->sc.names.lookup x=Z .free->(X.env.kindOf x=Z .cell\/X.env.kindOf x=Z .free)->sr X sc N c->sr X sc (x::N) (Z i::c)
def rM(c:List (Option Nat))(σ:St):St:=c.map λo=>o.bind λ(i:Nat)=>(σ[i]?).join
variable{X:Cx}{sc:Scope}{N:List Str}
def sr.len{c:List (Option Nat)}{σ:St}(h:sr X sc N c):(rM c σ).length=N.length:=by
 unfold rM;rw[gV]
 induction h with
 |nil=>rfl
 |own _ _ g=>simp[g]
 |got _ _ _ _ g=>simp[g]
theorem sr.at{X:Cx}{sc:Scope}{N:List Str}{c:List (Option Nat)}{σ:St}(h:sr X sc N c):∀{j:Nat}{x:Str}{v:V},N[j]?=Z x->(rM c σ)[j]?=Z (Z v) ->
  ∃i:Nat,X.N[i]?=Z x/\σ[i]?=Z (Z v)/\sc.names.lookup x=Z .free/\(X.env.kindOf x=Z .cell\/X.env.kindOf x=Z .free):=by
 induction h with
 |nil=>intro j x v h1;simp at h1
 |own _ _ z =>
  intro j x v h1 h2;cases j with
  |zero=>simp[rM]at h2
  |succ j=>exact z (by simpa using h1) (by simpa [rM]using h2)
 |@got y i N c g1 g2 g3 _ z =>
  intro j x v h1 h2;cases j with
  |zero =>
   have e:=by simpa using h1
   subst e;refine(i,g1,?_,g2,g3);have g:=by simpa [rM]using h2
   cases q:σ[i]? with
   |none=>rw[q]at g;cases g
   |some o =>
    rw[q]at g
    have:o=Z v:=g
    rw[this]
  |succ j=>exact z (by simpa using h1) (by simpa [rM]using h2)
def blk(X:Cx)(N':List Str)(sc:Scope)(cl:List (Str×J))(C:J)(s₂:ϋ)(H₂:Hp)(fp:List J):Cx :=
 {X with N:=N',s₀:=s₂,H₀:=H₂,env:=compEnvC sc cl C X.env,outer:=X.stack,ex:=fp,fn:=λ_=>ϊ,pn:=[],xe:=λ_ _=>False}
def PTs(X:Cx)(ifs:List EQ)(t:TT):Prop :=
 ∀(gd:List (J×Obj))(s:ϋ)(σ:St)(H:Hp)(Q:Bool->Hp->Prop),Inv X gd σ H s->t σ H Q ->
  XV X (forIn ifs O λc r=>if r=O then do let ok <- isTrue c X.env (eval c X.env);pure (ForInStep.yield ok)else pure (ForInStep.yield r)) (TP X gd σ Q) X.xe s
def Fi:TT:=λ_ H Q=>Q O H
def FT:PTs X [] Fi:=λ_ _ _ H _ I h=>wpAny_tests_nil (H,I,h)
def N5{c:EQ}{t:TT}(h:PT X c t):PTs X [c] t:=λgd s σ H Q I q=>wpAny_tests_one (h gd s σ H Q I q)
def Q6(g:TG)(tst:TT)(te:TE)(ah:St)(Q:VK)(ύ:It)(H1:Hp):Prop :=
 ∃W:Nat->Nat->List V->St->Hp->Prop,(∃m,W 0 m [] ah H1)/\∀i m ys z H',W i m ys z H' ->
  (ύ.stop i H'/\ys.length<=px/\∀D,H' D=Y->Q (.ref D) (upd H' D (.lst ys))) \/
  (ύ.go i H'/\ys.length<px/\∃N:List V->St->Hp->Prop,(∀K q P,N K q P->∃m',m'<m/\W (i+1) m' K q P)/\∀x P,ύ.yld i H' x P->g x z P λq H3=>tst q H3 λb H4 =>
   if b=O then te q H4 λy H5=>N (ys ++ [y]) q H5 else N ys q H4)
def yg(cap:List (Option Nat))(wi:TI)(g:TG)(tst:TT)(te:TE):TE:=λσ H Q=>wi σ H (Q6 g tst te (rM cap σ) Q)
variable{A:Do}{R:Result->ϋ->Prop}{s:ϋ}{elt:EQ}{iter:EQ}{ifs:List EQ}
def IL{prog:Db}{w:Da}{target:EQ}{it acc:B}(I:Nat->ϋ->Prop)
  (turn:∀n s,I n s->wpAny (model prog w) A (pyNext it) (λr z=>match r with
   |none=>R (.ok .next) z
   |some v=>wpAny (model prog w) A (letOwnedTupleGo target it v) (λ_ q=>wpAny (model prog w) A (assign target env v) (λ_ s₂ =>
     wpAny (model prog w) A (forIn ifs O λc r=>if r=O then do let ok <- isTrue c env (eval c env);pure (ForInStep.yield ok)else pure (ForInStep.yield r)) (λok g =>
      if ok=O then wpAny (model prog w) A (eval elt env) (λx P =>
       wpAny (model prog w) A (call (.builtin "list.append") [acc,x]) (λ_ K=>∃m,m<n/\I m K) (λ_ _=>False) P) (λ_ _=>False) g
      else ∃m,m<n/\I m g) (λ_ _=>False) s₂) (λ_ _=>False) q) (λ_ _=>False) z) (λ_ _=>False) s)
  (n:Nat) (h:I n s):
  codeAny (model prog w) A (.compLoop (.ListComp elt [(target,iter,ifs,0)] scope pos) 0 it acc env) R s:=by
 refine codeAny_loop U I (λn s hI=>?_) n h
 show wpAny _ A ((compTurn (.ListComp elt [(target,iter,ifs,0)] scope pos) 0 it acc env).onRaise (λx=>do noteFrame x env;theTreesLotGoes x)) _ _ s
 refine wpAny_noted ?_;rw[compTurn_list];refine dO (wpAny_standAt (dO (E5 (turn n s hI) (λr z V=>?_) λ_ _ h'=>h'.elim)))
 cases r with
 |none=>exact u7 V
 |some v =>
  refine dO (E5 V (λ_ q ah=>(dO (E5 ah (λ_ s₂ av=>dO (E5 av (λok g Q=>?_) λ_ _ h'=>h'.elim)) λ_ _ h'=>h'.elim))) λ_ _ h'=>h'.elim)
  cases ok with
  |false=>exact u7 (U,Q)
  |true =>
   exact dO (dO (E5 Q (λx P aq=>dO (E5 aq (λ_ K ak=>u7 (u7 (U,ak))) λ_ _ h'=>h'.elim)) λ_ _ h'=>h'.elim))
variable{gd:List (J×Obj)}{H:Hp}{tg:EQ}{N':List Str}{cap:List (Option Nat)}{wi:TI}{tst:TT}{te:TE}
def Cu{σ:St}{Q:VK}{g:TG}{use:Option (B->Sem Unit)}{Q':B->ϋ->Prop}
  (hc:X.calm=O) (hi:PI X tg iter wi) (kJ:sc.kind=.function) (kK:∀y∈sc.names,y.2 ≠ .cell) (lI:∀y∈sc.names,y.2=.local->sc.names.lookup y.1=Z .local)
  (lX:∀y∈sc.names,y.2=.free->X.env.kindOf y.1=Z .cell\/X.env.kindOf y.1=Z .free) (xV:sr X sc N' cap)
  (P:∀cl C s₂ H₂ fp,PG (blk X N' sc cl C s₂ H₂ fp) tg g/\PTs (blk X N' sc cl C s₂ H₂ fp) ifs tst/\PE (blk X N' sc cl C s₂ H₂ fp) elt te)
  (I:Inv X gd σ H s) (h:yg cap wi g tst te σ H Q)
  (fin:∀D C m H' s',Inv X gd σ H' s'->yc X gd H' C->s'.heap.Ns C m->Q (.ref D) H'->compPost (model X.prog X.w) X.A X.xe use Q' (.ref D) C (.ok .next) s')
  (hs:∀x,foldedSetIterable iter X.env x=pure x):
  XV X (comprehension (.ListComp elt [(tg,iter,ifs,0)] sc pos) sc X.env p (newList []) ϊ (eval iter X.env) use) Q' X.xe s:=by
 let(cl,WS,Ci,WT):=EN (scope:=sc) (env:=X.env) λq hq e=>I.ok.has q.1 (lX q hq e)
 refine wpAny_comprehension_free U hs WS kJ lI (thn (hi gd s σ H _ I h) λv s1 h1=>thn h1 λcL s2 h2=>?_)
 let(it,fp,tn,ύ,H2,e,I2,T,aL,f2,W,(m0,w0),turn):=h2;subst e;refine Y9 (wpAny_newFunctionEnv kK (by intro y hy;simp at hy) (λav O8 LM=>?_) kJ)
 dsimp only at O8 LM ⊢
 generalize a4:s2.heap.push {cls:=.type "list",dict:=Y,data:=.seq ([]:List B).toArray}=HP at O8 LM ⊢
 have hC:HP.objs.size=s2.heap.objs.size+1:=by rw[<- a4,WN]
 obtain⟨D,ak⟩:∃D:Nat,s2.heap.objs.size=D:=(_,U)
 obtain⟨C,cx⟩:∃C:Nat,HP.objs.size=C:=(_,U)
 rw[ak]at hC;rw[cx]at hC O8 LM ⊢;rw[ak];have aV:@Ne J D C:=qS (by omega)
 have old:∀b o,s2.heap.get? b=Z o->av.get? b=Z o:=λb o e =>
  LM.extBut b o (qS (by have:=wg e;omega)) (hL _ (a4▸hL _ e))
 have EE:av.get? D=Z {cls:=.type "list",data:=.seq ([]:List B).toArray 0} :=
  LM.extBut _ _ aV (hL _ (by rw[<- a4,<- ak];exact u0 _ U))
 have bD:(blk X N' sc cl C s2 H2 fp).Ok:=by
  refine(I.ok.mod,kJ,I.ok.glob,I.ok.blt,(by show s2.heap.objs.size<=C;omega),λx y c h1 h2=>I.ok.inj x y c (Ci x c h1) (Ci y c h2),λx hx=>?_,λx c hx=>(nomatch hx),I.ok.hd,I.ok.frames,.inl U,λb P=>?_,
   λb o e=>I2.bs b o e,u6 I2.ok.bsz I2.sz,λb o e P=>?_,λb P=>?_,I2.stack,I2.nK)
  ·have cc:sc.names.lookup x=Z .free:=by
    obtain hx|hx:=hx
    ·obtain z|z:=j7 hx
     ·exact absurd U (kK _ (PySem.mem_of_lookup z))
     ·exact z.1
    ·obtain z|z:=j7 hx
     ·exact z
     ·exact z.1
   exact WT x (PySem.mem_of_lookup cc)
  ·let(o,ho,_):=T.obj _ _ aL b P;refine(?_,λx c e=>(f2 b P).2.2.2.2.1 x c (Ci x c e))
   show @Ne J b C
   have:=wg ho
   exact qS (by omega)
  ·let(_,_,_,z,_):=f2 b P;obtain z|z:=z
   ·exact I2.ok.Ee b o e z
   ·have:=wg (show X.base.get? b=Z o from e)
    have:=I2.ok.bsz
    omega
  ·intro ct;obtain z|z:=fH.mp (I2.sD b ct)
   ·exact(f2 b P).2.1 z
   ·exact(f2 b P).2.2.1 z
 have nD:H2 D=none:=I2.hok.fresh (by rw[ak];exact qd _)
 have bV:=P cl C s2 H2 fp
 generalize V:blk X N' sc cl C s2 H2 fp=XB at bD bV
 have eP:XB.prog=X.prog:=by rw[<- V];rfl
 have eW:XB.w=X.w:=by rw[<- V];rfl
 have eK:XB.K=X.K:=by rw[<- V];rfl
 have eA:XB.A=X.A:=by rw[<- V];rfl
 have eE:XB.env=compEnvC sc cl C X.env:=by rw[<- V];rfl
 have eX:XB.xe=λ_ _=>False:=by rw[<- V];rfl
 have a0:XB.fs=frs X.stack:=by rw[<- V];rfl
 have bb:XB.ex=fp:=by rw[<- V];rfl
 have eS:XB.s₀=s2:=by rw[<- V];rfl
 have eH:XB.H₀=H2:=by rw[<- V];rfl
 have a7:XB.pn=[]:=by rw[<- V];rfl
 have b4:XB.calm=true:=by rw[<- V];exact hc
 have eN:XB.N=N':=by rw[<- V];rfl
 have eL:XB.env.locals=C:=by rw[eE];rfl
 have aD:XB.env.cells=cl:=by rw[eE];rfl
 have Yq:∀(x:Str)(c:Nat),cl.lookup x=Z c->c<D:=λx c e=>by
  let(v,z):=I2.cell x c (Ci x c e)
  have:=GJ z
  omega
 have b6:∀(b:Nat),D<=b->b ∉ XB.fs:=λb P z=>by
  rw[a0]at z;let(_,o,ho,_):=I2.stack.mem z
  have:=wg ho
  omega
 have a6:∀(b:Nat),b∈fp->b<D:=λb P=>by
  let(o,ho,_):=T.obj _ _ aL b P
  have:=wg ho
  omega
 have loop:∀s3:ϋ,s3={s2 with heap:=av,toks:=s2.toks+([]:List (Str×B)).length} ->
   codeAny (model X.prog X.w) X.A (.compLoop (.ListComp elt [(tg,iter,ifs,0)] sc pos) 0 (.ref it) (.ref D) (compEnvC sc cl C X.env)) (compPost (model X.prog X.w) X.A X.xe use Q' (.ref D) C) s3:=by
  rintro s3 rfl
  refine IL (λn s'=>∃i ys bo H' its k,Inv XB [] bo H' s'/\tn i s'.heap/\(∀b∈fp,H' b=Y)/\H' D=Y/\s'.heap.get? D=Z {cls:=.type "list",data:=.seq (its:List B).toArray k}/\Vals ys its/\W i n ys bo H') ?_ m0
   (0,[],rM cap σ,H2,[],0,?_,T.keep _ _ _ aL λb P o e=>old b o e,λb P=>(f2 b P).1,nD,EE,.nil,w0)
  ·rintro n s4 ⟨i,ys,aq,H4,its,k,I4,br,b0,d4,o4,v4,w4⟩
   have a5:∀{H':Hp}{pl:List (J×Obj)},(∀b∈fp,H' b=Y)->(∀q∈pl,q.1 ∉ fp)->∀b∈fp,yc XB pl H' b:=λ{H' pl} hn cj b P=>by
    refine(hn b P,?_,?_,.inl (by rw[bb];exact P),λx c e=>?_,λq hq=>?_)
    ·rw[eL];have:=a6 b P;exact qS (by omega)
    ·rw[a0];intro z;obtain z|z:=fH.mp (I2.sD b z)
     ·exact(f2 b P).2.1 z
     ·exact(f2 b P).2.2.1 z
    ·rw[aD]at e;exact(f2 b P).2.2.2.2.1 x c (Ci x c e)
    ·rw[a7]at hq;intro z;exact cj q (by simpa using hq) (z▸P)
   have pD:∀q ∈ [(Prod.mk D ({cls:=.type "list",data:=.seq its.toArray k}:Obj))],q.1 ∉ fp:=λq hq=>by
    have e:q=_:=aB.mp hq;subst e;intro z
    have:=a6 _ z
    omega
   have bc:Inv XB [(D,{cls:=.type "list",data:=.seq its.toArray k})] aq H4 s4:=I4.qL λq hq=>by
    have e:q=_:=aB.mp hq;subst e;refine(o4,d4,?_,b6 _ (qd _),λv=>by simp)
    rw[eL];exact aV
   have YJ:=bc;rw[<- eA,<- eP,<- eW];obtain⟨stop,hz,qn⟩|⟨go,hz,N,hN,step⟩:=turn i n ys aq H4 w4
   ·rw[<- eP,<- eW,<- eK]at T;refine E5 (T.done XB U U U b4 i _ s4 aq H4 (λ_ _=>False) bc (a5 b0 pD) br stop) (λr s5 (hr,I5)=>?_) λ_ _ z=>z
    subst hr;rw[eP,eW,eA];let(o5,n5,_):=I5.pin (D,{cls:=.type "list",data:=.seq its.toArray k}) (mu _ (aB.mpr U));have u5:Un (frs X.stack) fp H2 H4 s2.heap s5.heap:=by
     have z:=I5.base;rw[a0,bb,eH,eS]at z;exact z
    have cb:∀b o,s2.heap.get? b=Z o->@Ne J b D:=λb o e=>qS (by have:=wg e;omega)
    have ne5:∀b u,H4 b=Z u->b≠D:=λb u e z=>by rw[z,d4]at e;cases e
    have ck:HOk X.prog X.w H4 s5.heap:=by
     have z:=I5.hok;rw[eP,eW]at z;exact z
    have Yn:=fin D C;let(mC,bW,_):=id I5.loc;rw[eL]at bW;have IX:Inv X gd σ (upd H4 D (.lst ys)) s5:=by
     refine I2.CA (s':=s5) (ch:=fp) ?_ (u5.keep,u5.slot,λb o e n hx=>?_,u5.there,λb xs e=>?_,λb o u e=>?_,λb ps e=>?_) ?_ I5.bare λb P=>((f2 b P).2.2.2.1,(f2 b P).2.1,(f2 b P).2.2.2.2.1,(f2 b P).2.2.2.2.2)
     ·have z:=I5.os;rw[eS]at z;exact z
     ·rw[aw (cb b o e)];exact u5.free b o e n hx
     ·have z:=u5.su b xs e;rw[aw (ne5 b _ z)];exact z
     ·have z:=u5.pO b o u e;rw[aw (ne5 b _ z)];exact z
     ·let(more,z):=u5.sx b ps e;exact(more,by rw[aw (ne5 b _ z)];exact z)
     ·intro a o e;by_cases ha:a=D
      ·subst ha;rw[aC]at e;cases e;exact(hz,its,k,v4,o5)
      ·rw[aw ha]at e;exact(ck a o e).d9 (λ_ _ _ q=>q) (λb q=>by rw[aw (ne5 b _ q)];exact q) λb xs q=>by rw[aw (ne5 b _ q)];exact q
    refine Yn mC _ s5 IX ?_ bW (qn D d4);have cF:H4 C=none:=by
     have z:=I5.free;rw[eL]at z;exact z
    refine(by rw[aw (Ne.symm aV)];exact cF,?_,?_,.inr ?_,λx c e=>?_,λq hq=>?_)
    ·have:@LT.lt Nat _ X.env.locals s2.heap.objs.size:=I2.lt
     exact Wg (by omega)
    ·exact I2.Wd (by rw[ak];omega)
    ·have:=I2.sz;omega
    ·let(v,z):=I2.cell x c e
     have:=GJ z
     exact qS (by omega)
    ·have:=wg (I2.pin q hq).1
     exact qS (by omega)
   ·have T':=T;rw[<- eP,<- eW,<- eK]at T';refine E5 (T'.item XB U U U b4 i _ s4 aq H4 (λ_ _=>False) bc (a5 b0 pD) br go) (λr s5 (u,hr,h5)=>?_) λ_ _ z=>z
    subst hr;refine thn h5 λ_ s6 ah=>?_
    let(x,H6,I6,r6,y6,a3,cG):=ah;have cK:=I6.pinned (a5 cG pD) (T.obj _ _ a3);let(cm,cf,cq):=bV;rw[<- eE];have bG:=cm _ s6 aq H6 x u _ cK r6 (step x H6 y6);rw[eX]at bG;refine thn bG λ_ s7 ah=>?_
    let(aG,H7,I7,q7):=ah;have bE:=cf _ s7 aG H7 _ I7 q7;rw[eX]at bE;refine thn bE λb s8 ah=>?_
    let(H8,I8,q8):=ah;have back:∀{bj:St}{H9:Hp}{s9:ϋ},Inv XB ([(D,{cls:=.type "list",data:=.seq its.toArray k})]++vR fp s6.heap) bj H9 s9->tn (i+1) s9.heap/\(∀b∈fp,H9 b=Y)/\H9 D=Y/\s9.heap.get? D=Z {cls:=.type "list",data:=.seq its.toArray k}:=λ{bj H9 s9} I9=>by
     have z:=I9.pin (D,{cls:=.type "list",data:=.seq its.toArray k}) (mu _ (ot _ (aB.mpr U)));refine(T.keep _ _ _ a3 λb P o e=>(I9.pin (b,o) (mu _ (mu _ (ju P e)))).1,λb P=>?_,z.2.1,z.1)
     let(o,e,_):=T.obj _ _ a3 b P;exact(I9.pin (b,o) (mu _ (mu _ (ju P e)))).2.1
    cases b with
    |false =>
     rw[if_neg r8]at q8 ⊢;let(m',hm,w8):=hN _ _ _ q8;let(t1,t2,t3,t4):=back I8;exact(m',hm,i+1,ys,aG,H8,its,k,I8.qL (λq hq=>nomatch hq),t1,t2,t3,t4,v4,w8)
    |true =>
     rw[if_pos rfl]at q8 ⊢;have bH:=cq _ s8 aG H8 _ I8 q8;rw[eX]at bH;refine thn bH λyv s9 ah=>?_
     let(y,H9,I9,r9,n9):=ah;let(m',hm,w9):=hN _ _ _ n9;let(t1,t2,t3,t4):=back I9;have hsz:its.toArray.size<=px:=by
      have e:=v4.length;have e2:its.toArray.size=its.length:=by simp
      omega
     refine append_at (hsz:=hsz) t4 λh' bF cu=>?_
     ·refine(m',hm,i+1,ys ++ [y],aG,H9,its ++ [yv],k+1,?_,T.keep _ _ _ t1 λb P o e=>bF.extBut b o (qS (a6 b P)) e,t2,t3,?_,v4.append (.cons r9 .nil),w9)
      ·refine(I9.qL (pins':=[]) (λq hq=>nomatch hq)).turned (t':=s9.toks) (it:=D) (λb o P e=>bF.extBut b o P e) t3 ?_ (.inr ?_) (λx c e=>?_) λq hq=>?_
       ·rw[eL];exact aV
       ·rw[eS];omega
       ·rw[aD]at e;exact qS (Yq x c e)
       ·rw[a7]at hq;exact nomatch hq
      ·rw[cu];simp
  ·
   refine(bD,by rw[eS],I2.bare,by rw[a0,bb,eH,eS];exact Un.kept old,(_,by rw[eL];exact O8,λj x v h1 h2 h3=>?_),λx c e=>?_,?_,λx c e=>?_,λq hq=>?_,by rw[eP,eW];exact I2.hok.kept old,by rw[eN];exact xV.len)
   ·rw[eN]at h1;let(i,g1,g2,g3,g4):=xV.at h1 h2;let(m,hn,hl):=I2.loc;have hv:Vis X.env.scope x:=by
     obtain z|z:=g4
     ·exact .inr (.inl z)
     ·exact .inr (.inr z)
    let(u,r,l):=hl i x v g1 g2 hv;refine(u,r,.inr (?_,?_))
    ·rw[eE];exact(qE g3).symm
    ·obtain⟨hk,_⟩|⟨_,c,e,z⟩:=l
     ·obtain y|y:=g4
      ·rw[y]at hk;cases hk
      ·rw[y]at hk;cases hk
     ·let(c',e'):=WT x (PySem.mem_of_lookup g3)
      have:=Ci x c' e'
      rw[e]at this;cases this;let(o,ho,hd):=z;exact(c,by rw[aD];exact e',o,old c o ho,hd)
   ·rw[aD]at e;let(v,o,ho,hd):=I2.cell x c (Ci x c e);exact(v,o,old c o ho,hd)
   ·rw[eL];exact I2.hok.fresh (by rw[ak];omega)
   ·rw[aD]at e;exact I2.iL x c (Ci x c e)
   ·rw[a7]at hq;exact nomatch hq
 exact codeAny_compStart_list (loop _ U) (T.self X.A 0 _ _ _ (T.keep _ _ _ aL λb P o e=>old b o e) (loop _ U))
def Gw(h:(sc.names.all λy=>y.2 != .free ||(X.env.kindOf y.1==Z .cell||X.env.kindOf y.1==Z .free))=O):
  ∀y∈sc.names,y.2=.free->X.env.kindOf y.1=Z .cell\/X.env.kindOf y.1=Z .free:=λy g e=>by
 have z:=AE.mp h y g;rw[e]at z;simpa using z
def F7{pos:Pos}{g:TG}
  (hc:X.calm=O) (hi:PI X tg iter wi) (V:sr X sc N' cap)
  (P:∀cl C s₂ H₂ fp,PG (blk X N' sc cl C s₂ H₂ fp) tg g/\PTs (blk X N' sc cl C s₂ H₂ fp) ifs tst/\PE (blk X N' sc cl C s₂ H₂ fp) elt te)
  (kJ:‹sc.kind=.function›) (kK:∀y∈sc.names,y.2 ≠ .cell:=by decide) (lI:∀y∈sc.names,y.2=.local->sc.names.lookup y.1=Z .local:=by decide)
  (lX:‹(sc.names.all λy=>y.2 != .free ||(X.env.kindOf y.1==Z .cell||X.env.kindOf y.1==Z .free))=true›)
  (hs:∀x,foldedSetIterable iter X.env x=pure x:=by intro _;rfl):PE X (.ListComp elt [(tg,iter,ifs,0)] sc pos) (yg cap wi g tst te):=by
 intro gd s σ H Q I h;exact Cu (use:=Y) hc hi kJ kK lI (Gw lX) V P I h (λD C m H' s' I' z hn q=>((m,hn,λh' K=>(.ref D,H',(I'.turned (t':=s'.toks) (it:=C) (λb o P e=>K.extBut b o P e) z.1 z.2.1.symm.symm z.2.2.2.1 z.2.2.2.2.1 z.2.2.2.2.2),U,q)))) hs
variable{i:Nat}
def FW{y:Str}{g:TG}
  (hN:X.N.Nodup) (ah:X.N[i]?=Z y) (hy:Loc X.env.scope y)
  (hc:X.calm=O) (hi:PI X tg iter wi) (xV:sr X sc N' cap)
  (K:∀cl C s₂ H₂ fp,PG (blk X N' sc cl C s₂ H₂ fp) tg g/\PTs (blk X N' sc cl C s₂ H₂ fp) ifs tst/\PE (blk X N' sc cl C s₂ H₂ fp) elt te)
  (Q:‹swapsWith (.ListComp elt [(tg,iter,ifs,0)] sc pos) (Z (.Name y py)) gD.line X.env=pure true›)
  (hf:AT X y:=by first|exact .inl rfl|exact .inr rfl|assumption)
  (kJ:‹sc.kind=.function›) (kK:∀y∈sc.names,y.2 ≠ .cell:=by decide) (lI:∀y∈sc.names,y.2=.local->sc.names.lookup y.1=Z .local:=by decide)
  (lX:‹(sc.names.all λy=>y.2 != .free ||(X.env.kindOf y.1==Z .cell||X.env.kindOf y.1==Z .free))=true›)
  (hs:∀x,foldedSetIterable iter X.env x=pure x:=by intro _;rfl):PS X (.Assign [.Name y py] (.ListComp elt [(tg,iter,ifs,0)] sc pos) gD) (p7 (yg cap wi g tst te) (jJ i)):=by
 intro gd s σ H Dn I h;rw[exec_Assign_Name_used _ _ _ _ Q];refine dO (wpAny_standAt (dO ?_));refine dO (E5 (Cu hc hi kJ kK lI (Gw lX) xV K I h (λD C m H' s' I' P hn q=>?_) hs)
  (λ_ s' hq=>u7 (u7 hq)) λ_ _ e=>e)
 let(o,es,ep,ho,hd,hr):=id hn;have I2:=I'.pinned (λb K=>by rw[aB.mp K];exact P) λb K=>by
  rw[aB.mp K];exact(o,ho,λv=>by rw[hd];simp)
 refine wpAny_assign_Name (km I2 hN ah hy (v:=.ref D) U (λs2 I3=>?_) hf)
 have z:=(I3.pin (C,o) (mu _ (mu _ (ju (aB.mpr U) ho)))).1;refine(m,(o,es,ep,z,hd,hr),λh' V=>(_,H',?_,q))
 exact I3.p6.turned (λb o K e=>V.extBut b o K e) P.1 P.2.1 P.2.2.2.1 P.2.2.2.2.1 P.2.2.2.2.2
variable{a:J}{xs:List V}{P:Db}{it:J}{n:Nat}{Q:B->ϋ->Prop}{E:B->ϋ->Prop}
section
theorem yF{K:BT}{g:TG}{σ:St}{Q:VK}(Pv:Nat->List V->St->Hp->Prop)(h0:Pv 0 [] σ H)
  (hl:∀i ys σ H,i<=xs.length->Pv i ys σ H->SqL K H a xs/\ys.length<px)
  (hs:∀i x ys σ H,xs[i]?=Z x->Pv i ys σ H->g x σ H λz H3=>tst z H3 λb H4=>if b=O then te z H4 λy H5=>Pv (i+1) (ys ++ [y]) z H5 else Pv (i+1) ys z H4)
  (hd:∀ys σ H,Pv xs.length ys σ H->∀D,H D=Y->Q (.ref D) (upd H D (.lst ys))):
  Q6 g tst te σ Q (Itl K a) H:=by
 refine(λi m ys σ H=>m=xs.length - i/\i<=xs.length/\Pv i ys σ H,(xs.length,by simp,Fs _,h0),?_)
 rintro i m ys σ H ⟨rfl,hi,p⟩
 let(q,hz):=hl i ys σ H hi p;by_cases P:i<xs.length
 ·refine .inr ((xs,xs[i],q,by simp[P]),hz,Pv (i+1),λak ah H' p'=>(xs.length - (i+1),by lia,U,P,p'),λx H' y=>?_)
  let(e,y):=y;subst e;exact hs i x ys σ _ (y xs q) p
 ·have e:i=xs.length:=by omega
  subst e;exact .inl ((xs,q,qd _),xj hz,hd ys σ H p)
theorem xw{w:Da}{K:BT}{ύ:It}{Pv:Nat->B->Prop}{St:Nat->Ev->Prop}
  (W:∀A:Do,A.handled=Y->Walks P w A it [it] [it] n Pv St)
  (Iw:∀i h,St i h->∃(o:Obj)(N:String)(vs:Array B),h.get? it=Z o/\o.cls=.type N/\o.data=.fields vs /\
   ["enumerate","zip","dict_itemiterator","dict_reverseitemiterator","odict_iterator","itertools.zip_longest","itertools.pairwise"].contains N=ϊ)
  (WD:∀(A:Do)(i:Nat)(s:ϋ)(Q:B->ϋ->Prop)(E:B->ϋ->Prop),St i s.heap->Q (.ref it) s->wpAny (model P w) A (pyIter (.ref it)) Q E s)
  (z:∀i H,ύ.go i H->i<n) (WC:∀i H,ύ.stop i H->i=n) (hy:∀i H v,i<n->Pv i v->∃x,RelV x v/\ύ.yld i H x H):Turn P w K tg ύ [it] it St where
 mem:=by simp
 obj:=λi h st b g=>by
  rw[aB.mp g];let(o,N,vs,h1,_,h3,_):=Iw i h st;exact(o,h1,λv=>by rw[h3];simp)
 keep:=λi h h' st k=>(W { (callerA:Do)with handled:=Y} rfl).frame i h h' st λb g o e=>k b g o e
 item:=by
  intro X e1 e2 e3 hc i gd s σ H E I hf st go;subst e1 e2 e3;refine(W X.A (I.ok.hd hc)).item i s _ _ (z i H go) st λv h' tk hP q V=>(v,U,?_)
  let(x,rx,yx):=hy i H v (z i H go) hP;let(o,N,vs,h1,h2,h3,h4):=Iw _ _ q;let(f1,f2,f3,f4,f5,f6):=hf it (by simp)
  refine Cj (s:={s with heap:=h',toks:=tk}) h1 h2 h3 h4 (x,H,I.turned (t':=tk) (it:=it) (λb o g e=>V b o (by simpa using g) e) f1 f2 f4 f5 f6,rx,yx,q,λb g=>?_)
  rw[aB.mp g];exact f1
 done:=by
  intro X e1 e2 e3 hc i gd s σ H E I hf st stop;subst e1 e2 e3;have e:=WC i H stop;subst e;refine(W X.A (I.ok.hd hc)).done s _ _ st λh' tk V=>(U,?_)
  let(f1,f2,f3,f4,f5,f6):=hf it (by simp)
  exact I.turned (t':=tk) (it:=it) (λb o g e=>V b o (by simpa using g) e) f1 f2 f4 f5 f6
 self:=WD
def Its(z:Str):It:=(λi _=>i<z.cps.size,λi H x H'=>H'=H/\∃c,z.cps[i]?=Z c/\x=.str ⟨#[c]⟩,λi _=>i=z.cps.size)
def Wz(tl:TE):TI:=λσ H R=>tl σ H λx H1=>∃z,x=.str z/\R (Its z) H1
def Hm{w:Da}(g:A.handled=Y)(it:J)(z:Str)(t:Tok):Walks P w A it [it] [it] z.cps.size (SignAt z) (λi h=>h.IsStrIter it (strIterType z) z t i):=by
 unfold strIterType
 split
 ·exact Walks.strAscii g it z t
 ·exact Walks.strWide g it z t
def JB{w:Da}{z:Str}{t:Tok}(st:s.heap.IsStrIter it (strIterType z) z t i)(q:Q (.ref it) s):wpAny (model P w) A (pyIter (.ref it)) Q E s:=by
 unfold strIterType at st
 split at st
 ·exact wpAny_pyIter_striter_ascii st q
 ·exact wpAny_pyIter_striter_wide st q
theorem Js{w:Da}{K:BT}(it:J)(z:Str)(t:Tok):Turn P w K tg (Its z) [it] it (λi h=>h.IsStrIter it (strIterType z) z t i) :=
 xw (λA g=>Hm g it z t)
  (λi h st=>by
   let(o,h1,h2,h3):=st;refine(o,_,_,h1,h2,h3,?_);unfold strIterType
   split <;> decide)
  (λA i s Q E st q=>JB st q) (λi H h=>h) (λi H h=>h) λi H v hi hp=>by
   let(c,u,h1,U):=hp;exact(.str ⟨#[c]⟩,(_,U),U,c,h1,U)
def SQ{l:EQ}{tl:TE}(hl:PE X l tl):PI X tg l (Wz tl):=by
 intro gd s σ H R I h;refine thn (hl gd s σ H _ I h) λv s1 g=>?_
 let(x,H1,K,P,Q):=g;let(z,e,q):=Q;subst e;let(t,U):=P;refine wpAny_pyIter_strU ?_;refine(s1.heap.objs.size,[s1.heap.objs.size],_,_,H1,U,K.kept (t':=s1.toks) λb o e=>hL _ e,Js _ z t,(_,u0 _ U,U,U),λb V=>?_,q)
 have e:b=s1.heap.objs.size:=by simpa using V
 subst e;exact K.ID (qd _) (K.hok.fresh (qd _))
inductive Vh(x:V)(lo:Option Int)(hi:Option Int)(H:Hp)(Q:VK):Prop
 |mk(z:_)(h1:x=.str z)(h2:z.length<=px)(h3:Q (.str (Txt.slice z lo hi)) H)
def RD:SlR X Vh:=by
 intro gd s σ H x v vl vu lo hi sl Q I V hs pl pu h;let(z,U,g,q):=h;let(t,U):=V;refine("str",_,PySem.F.slot_str_getitem.lookup,typeIs_str s z t,?_);let(o,h1,h2,h3):=hs;have fin:∀y t' k,y=Txt.slice z lo hi->EP X gd σ Q (.str y t') {s with toks:=k}:=λy t' k e=>by subst e;exact(.str _,H,I.tok k,(_,U),q)
 cases pl with
 |none =>
  cases pu with
  |none=>exact wpAny_getItem_str_slice (l:=Y) (u:=Y) (st:=Y) (o,h1,h2,h3) U (post_val_or_str (u6 (Txt.slice_le z _ _) g,λt' k=>fin _ t' k U))
  |int j K=>exact wpAny_getItem_str_slice (l:=Y) (u:=Z (j,K)) (st:=Y) (o,h1,h2,h3) U (post_val_or_str (u6 (Txt.slice_le z _ _) g,λt' k=>fin _ t' k U))
 |int i P =>
  cases pu with
  |none=>exact wpAny_getItem_str_slice (l:=Z (i,P)) (u:=Y) (st:=Y) (o,h1,h2,h3) U (post_val_or_str (u6 (Txt.slice_le z _ _) g,λt' k=>fin _ t' k U))
  |int j K=>exact wpAny_getItem_str_slice (l:=Z (i,P)) (u:=Z (j,K)) (st:=Y) (o,h1,h2,h3) U (post_val_or_str (u6 (Txt.slice_le z _ _) g,λt' k=>fin _ t' k U))
def Dw{ys:List Str}:∀{us:List B},Vals (ys.map V.str) us->StrsAre us ys:=by
 induction ys with
 |nil=>intro us r;cases r;exact .nil
 |cons n ns z =>
  intro us r;cases r with
  |cons q g =>
   let(t,e):=q;subst e;exact .cons n t (z g)
inductive rJoin(K:BT)(x:V)(xs:List V)(H:Hp)(Q:VK):Prop
 |mk(sep l ys:_)(h1:x=.str sep)(h2:xs=[.ref l])(h3:SqL K H l (ys.map V.str))(h4:(ys.map (·.length)).sum+ys.length*sep.length<=16777216)(h5:Q (.str (Txt.join sep ys)) H)
def OU:MtR X "str.join" (rJoin X.K):=by
 intro gd s σ H x xs v us Q I g rs h;let(sep,l,ys,U,U,hl,hw,q):=h;let(t,U):=g;let(u,U,ru):=Vals.one rs;cases ru;let(its,r,pl,z):=I.list hl;exact join_list pl.isList (by simpa using Dw r) hw λt' k=>(.str _,H,I.tok k,(_,U),q)
inductive J7(x:V)(xs:List V)(H:Hp)(Q:VK):Prop
 |mk(z:_)(h1:x=.str z)(h2:xs=[])(h3:z.length<=5592405)(h4:Q (.str (Txt.upper z)) H)
def Ll:MtR X "str.upper" J7:=by
 intro gd s σ H x xs v us Q I g rs h;let(z,U,U,K,q):=h;let(t,U):=g;cases rs;exact SCL.upper K λ_=>(.str _,H,I.tok _,(_,U),q)
def Fe{bs:List Bool}:∀{us:List B}{i:Nat}{v:B},Vals (bs.map V.bl) us->us[i]?=Z v->∃b,bs[i]?=Z b/\v=.bool b:=by
 induction bs with
 |nil=>intro us i v r h;cases r;simp at h
 |cons b bs z =>
  intro us i v r h;cases r with
  |cons q g =>
   cases i with
   |zero =>
    simp only[List.getElem?_cons_zero,Option.some.injEq]at h;subst h;exact(b,by simp,q)
   |succ i =>
    let(c,h1,h2):=z g (by simpa using h)
    exact(c,by simpa using h1,h2)
def all_range(bs:List Bool):(UR bs.length).all (λi=>bs.getD i ϊ)=bs.all id:=by
 have e:(UR bs.length).map (λi=>bs.getD i ϊ)=bs:=by
  apply Zq
  ·simp
  ·intro i h1 h2;simp at h1;simp[h1]
 conv=>rhs;rw[<- e]
 rw[ZC];rfl
def MB(hc:X.calm=O):df X (.builtin "all") (λxs H Q=>∃(l:J)(bs:List Bool),xs=[.ref l]/\SqL X.K H l (bs.map V.bl)/\Q (.bl (bs.all id)) H):=by
 intro gd s σ H xs us Q I r h;let(l,bs,U,hl,q):=h;let(u,U,ru):=vals1 r;cases ru;let(its,z,pl,hz):=I.list hl;have g:l<s.heap.objs.size:=by let(_,e,_):=pl.isList;exact uj e
 have hlen:its.toArray.size=bs.length:=by
  have e:=z.length;rw[gV]at e;simp[e]
 refine call_all_walk (wpAny_pyIter_list pl.isList ((s.heap.objs.size,[s.heap.objs.size,l],[s.heap.objs.size],its.toArray.size,_,_,λi=>bs.getD i ϊ,U,Walks.list (show X.A.in1.handled=Y from I.ok.hd hc) s.heap.objs.size l (AG g) its.toArray,((_,u0 _ U,U,U),pl.isList.push _),?_,λh' tk hk=>?_)))
 ·intro i v s' Q' E' hP P;let(b,h1,U):=Fe z (by simpa using hP)
  have e:bs.getD i ϊ=b:=by simp[h1]
  exact wpAny_truthy_bool (e▸P)
 ·refine(.bl _,H,I.kept λb o e=>hk b o (by simpa using AG (uj e)) (hL _ e),U,?_)
  rw[hlen,all_range];exact q
theorem Mz:df X (.builtin "isinstance") (λxs H Q=>∃x T t b,xs=[x,.ty T]/\ou X.K H x t/\W.kitOne X.K t (.type T)=Z b/\Q (.bl b) H):=by
 intro gd s σ H xs us Q I r h;let(x,T,t,b,U,ty,e,q):=h;let(u,z,U,ru,g):=vals2 r;cases g;exact Ip I ru ty e λtk=>(.bl b,H,I.tok tk,U,q)
end
variable{I:J}{fp:List J}{ty:String}
section
variable{prog:Db}{w:Da}
def HW:typeLookup (.type "list_reverseiterator") "__len__"=pure none:=by kernel_rfl
def LN:typeLookup (.type "list_reverseiterator") "__length_hint__"=pure (Z (.builtin "list_reverseiterator.__length_hint__")):=by kernel_rfl
def Lr{Q:Bool->ϋ->Prop}(hT:s.TypeIs (.ref I) "list_reverseiterator")(z:∀b tk,s.toks<=tk->Q b {s with toks:=tk}):wpAny (model prog w) A (Builtin.List.listLengthHint (.ref I)) Q E s:=by
 refine dO (Z2 hT HW ?_);refine dO (Z2 hT LN ?_)
 generalize g:("list_reverseiterator.__length_hint__")=q
 wp_delta
 rw[show splitId q=Z ("list_reverseiterator","__length_hint__")from by subst g;decide +kernel]
 subst g;refine dO (wpAny_isInstance (b:=O) hT (by kernel_rfl) ?_)
 exact u7 (z _ _ (qd _))
theorem Cq{R:Result->ϋ->Prop}{wr:List J}{P:Nat->B->Prop}{St:Nat->Ev->Prop}(W:Walks prog w A.in1 I fp wr n P St)(hT:∀i (s:ϋ),St i s.heap->s.TypeIs (.ref I) ty)
  (av:(B.type ty == .type "list" || Value.type ty == .type "tuple")=ϊ) (aq:∀x ∈ ["set","frozenset","dict","dict_keys","dict_values","dict_items"],(B.type ty == .type x)=ϊ)
  (hint:∀(s:ϋ)(Q:Bool->ϋ->Prop)(E:B->ϋ->Prop),St 0 s.heap->(∀b tk,s.toks<=tk->Q b {s with toks:=tk})->wpAny (model prog w) A.in1 (Builtin.List.listLengthHint (.ref I)) Q E s)
  (S:J) (res:B) (c₀:Nat) (q:St 0 s.heap) (ah:S ∉ fp) (hI:I∈fp) (hS:s.heap.get? S=Z {cls:=.type "list",data:=.seq #[] c₀})
  (hR:∀s' uV K,Moved (S::wr) (λg g'=>g'=g) s s'->s'.heap.get? S=Z {cls:=.type "list",dict:=Y,data:=.seq uV K,slots:=#[]}->ItemsOf P uV n->R (.ok (.ret res)) s') (hn:n<=px):
  wpAny (model prog w) A.in1 (Builtin.List.listExtendWith (.ref S) (.ref I) res)
   (λfin s'=>match fin with|.done f=>R (.ok f) s' |.again K=>K.quiet=O/\codeAny (model prog w) A K R s') (λe s'=>R (.error e) s') s:=by
 have aD:S≠I:=λe=>ah (e▸hI)
 have h1:Builtin.List.listSameRef (.ref S) (.ref I)=false:=by simp[Builtin.List.listSameRef,aD]
 refine dO (ZD (hT 0 _ q) ?_);rw[if_neg (by rw[Bool.or_assoc,h1,av];decide)]
 refine dO (W.self 0 _ _ _ q (dO (Y6 (hint _ _ _ q λb tk htk=>?_))))
 have tail:∀h' tk' c,s.toks<=tk'->(∀b o,b≠S->s.heap.get? b=Z o->h'.get? b=Z o)->h'.get? S=Z {cls:=.type "list",dict:=Y,data:=.seq #[] c,slots:=#[]} ->
   wpAny (model prog w) A.in1 (again (.builtin "list.extend.loop" ([.ref S,.ref I,res],[]))) (λfin s'=>match fin with|.done f=>R (.ok f) s' |.again K=>K.quiet=O/\codeAny (model prog w) A K R s') (λe s'=>R (.error e) s') {s with heap:=h',toks:=tk'}:=by
  intro h' tk' c ht hk aL;exact u7 (plainId_quiet F.plain_extend_loop _,codeAny_extend_loopS W.toS hn _ ah _ n 0 _ _ _ U (Fs _) (W.frame 0 s.heap _ q λb V o e=>hk b o (λz=>ah (z▸V)) e) aL (ItemsOf.nil P) λs' uV K hm Ym EE=>hR s' uV K (λb o V e=>hm.heap b o V (hk b o (λz=>V (by rw[z];exact di)) e),hm.gens,hm.drawn,hm.os,u6 ht hm.toks) Ym EE)
 cases b with
 |false =>
  rw[if_neg ?_]
  ·exact tail _ _ _ htk (λ_ _ _ e=>e) hS
  ·intro z;rw[Bool.false_or,ZN]at z;let(x,hx,hz):=z;rw[aq x hx]at hz;cases hz
 |true =>
  refine dO (ZY (dO ?_));refine dO (Z3 hS U ?_);have ak:=CT (Zj (·.push B.none)) hS U;refine Z3 ak U ?_;have aG:=CT (Zj (·.pop)) ak U;exact tail _ _ _ htk (λb o V e=>(Cd _ _ (Ne.symm V)).trans ((Cd _ _ (Ne.symm V)).trans e)) aG
theorem w5{wr:List J}{P:Nat->B->Prop}{St:Nat->Ev->Prop}(W:Walks prog w A.in1.in1 I fp wr n P St)(hT:∀i (s:ϋ),St i s.heap->s.TypeIs (.ref I) ty)
  (aq:(B.type ty == .type "list" || Value.type ty == .type "tuple")=ϊ) (ak:∀x ∈ ["set","frozenset","dict","dict_keys","dict_values","dict_items"],(B.type ty == .type x)=ϊ)
  (hint:∀(s:ϋ)(Q:Bool->ϋ->Prop)(E:B->ϋ->Prop),St 0 s.heap->(∀b tk,s.toks<=tk->Q b {s with toks:=tk})->wpAny (model prog w) A.in1.in1 (Builtin.List.listLengthHint (.ref I)) Q E s)
  (av:St 0 s.heap) (aD:∀b∈fp,b<s.heap.objs.size) (hI:I∈fp)
  (hQ:∀s' uV c',Moved (s.heap.objs.size::wr) (λg g'=>g'=g) {s with heap:=s.heap.push {cls:=.type "list",data:=.seq #[]}} s' ->
   s'.heap.get? s.heap.objs.size=Z {cls:=.type "list",dict:=Y,data:=.seq uV c',slots:=#[]}->ItemsOf P uV n->Q (.ref s.heap.objs.size) s') (hn:n<=px):
  wpAny (model prog w) A (call (.type "list") [.ref I]) Q E s:=by
 have ah:=λhm=>UP _ (aD _ hm)
 refine callType_codes (Q₁:=λobj q=>obj=.ref s.heap.objs.size/\q={s with heap:=s.heap.push {cls:=.type "list",data:=.seq #[]}}) F.called_list (F.typeCall_list_1 _) F.entry_list_init (code_list_new _ (U,U)) λobj q V=>?_
 let(U,U):=V;have hS:(s.heap.push {cls:=.type "list",data:=.seq #[]}).get? s.heap.objs.size=Z {cls:=.type "list",data:=.seq #[]}:=u0 _ U;refine((_,hS,U),F.args_list_init_2 _ _,?_);refine dO ?_;refine dO (wpAny_seqItems hS U (u7 ?_));refine dO (Z3 hS U ?_);have aG:=CT (Zj (λ_=>(#[]))) hS U
 have oth:∀b o,b≠s.heap.objs.size->(s.heap.push {cls:=.type "list",data:=.seq #[]}).get? b=Z o->((s.heap.push {cls:=.type "list",data:=.seq #[]}).update s.heap.objs.size (Zj (λ_=>(#[])))).get? b=Z o :=
  λb o K e=>(Cd _ _ (Ne.symm K)).trans e
 exact Cq (hn:=hn) W hT aq ak hint s.heap.objs.size .none _ (W.frame 0 s.heap _ av λb K o e=>oth b o (λz=>ah (z▸K)) (hL _ e)) ah hI aG λs' uV c' hm aL EE=>((U,hQ s' uV c' (λb o K e=>hm.heap b o K (oth b o (λz=>K (by rw[z];exact di)) e),hm.gens,hm.drawn,hm.os,hm.toks) aL EE))
end
def Jx(K:BT)(te:TE):TE:=λσ H Q=>te σ H λx H1=>∃l ys,x=.ref l/\SqL K H1 l ys/\∀q,H1 q=Y->Q (.ref q) (upd H1 q (.lst ys.reverse))
variable{ys:List V}
def Jm{its:Array B}{acc:Array B}(r:Vals ys its.toList)(h:ItemsOf (λi v=>its[its.size - 1 - i]?=Z v) acc its.size):Vals ys.reverse acc.toList:=by
 have e:acc.toList=its.toList.reverse:=by
  apply List.ext_getElem?
  intro i;by_cases hi:i<its.size
  ·have h1:i<acc.size:=by rw[h.1];exact hi
   have h2:=h.2 i acc[i] (by simp[h1])
   rw[Z4 (by simpa using hi)]
   simp only[YU,Zp];rw[h2];simp[h1]
  ·have h1:¬ i<acc.size:=by rw[h.1];exact hi
   rw[Y7 (by simpa using h1),Y7 (by simpa using hi)]
 rw[e];exact Vals.reverse r
variable{l:J}
def Ih{σ:St}{Q:VK}{ob:Obj}{tk:Nat}{P:Nat->B->Prop}{St:Nat->Ev->Prop}{ys:List V}(I:Inv X gd σ H s)(aq:l<s.heap.objs.size)(W:Walks X.prog X.w X.A.in1.in1 s.heap.objs.size [s.heap.objs.size,l] [s.heap.objs.size] n P St)(hT:∀i (s':ϋ),St i s'.heap->s'.TypeIs (.ref s.heap.objs.size) ty)
  (ah:(B.type ty == .type "list" || Value.type ty == .type "tuple")=ϊ) (K:∀x ∈ ["set","frozenset","dict","dict_keys","dict_values","dict_items"],(B.type ty == .type x)=ϊ)
  (hint:∀(s':ϋ)(Q:Bool->ϋ->Prop)(E:B->ϋ->Prop),St 0 s'.heap->(∀b tk,s'.toks<=tk->Q b {s' with toks:=tk})->wpAny (model X.prog X.w) X.A.in1.in1 (Builtin.List.listLengthHint (.ref s.heap.objs.size)) Q E s')
  (ak:St 0 (s.heap.push ob)) (hv:∀acc,ItemsOf P acc n->Vals ys acc.toList) (hz:ys.length<=px) (hn:n<=px) (q:∀p,H p=Y->Q (.ref p) (upd H p (.lst ys))):
  XV X (call (.type "list") [.ref s.heap.objs.size]) (EP X gd σ Q) X.xe {s with heap:=s.heap.push ob,toks:=tk}:=by
 refine w5 W hT ah K hint ak (λb g=>?_) (by simp) (λs' uV c' hm av EE=>?_) hn
 ·rw[WN];obtain z|z:=fH.mp g
  ·rw[z];exact YV _
  ·rw[aB.mp z];exact Nat.lt_succ_of_lt aq
 ·rw[Moved.eq_with hm];have kp:=λb o e=>hm.heap b o (λz=>by
   have g:@LT.lt Nat _ b s.heap.objs.size:=uj e;obtain z|z:=fH.mp z
   ·rw[z]at g;simp only[WN]at g
    lia
   ·rw[aB.mp z]at g
    lia) (hL _ (hL _ e))
  have hf:H ((s.heap.push ob).objs.size)=none:=I.hok.fresh (by rw[WN];omega)
  exact(.ref _,_,I.laid (o:=.lst ys) kp (by rw[WN];omega) (hz,uV.toList,c',hv uV EE,by simpa using av),U,q _ hf)
variable{e:EQ}
def D5{p1 p2 P pos:Pos}(hc:X.calm=O)(av:Gl X "list")(ak:X.mg "list"=Y)(aq:Gl X "reversed")(ah:X.mg "reversed"=Y)(he:PE X e te)
  (g:‹AD X e›) (V:‹fx [.Call (.Name "reversed" p2) [e] [] P] X.env=[(ϊ,eval (.Call (.Name "reversed" p2) [e] [] P) X.env)]›):
  PE X (.Call (.Name "list" p1) [.Call (.Name "reversed" p2) [e] [] P] [] pos) (Jx X.K te):=by
 intro gd s σ H Q I h;refine Je (nc I av ak boot_list (PyProof.Rows.callWith_type1 ?_ V U));show wpAny _ _ (spliced ((ϊ,eval (.Call (.Name "reversed" p2) [e] [] P) X.env)::backTo pos (fx [] X.env))) _ _ s;refine Calls.spliced_cons (Je (nc I aq ah boot_reversed (PyProof.Rows.callWith_type1 ?_ g U)));rw[g];refine Calls.spliced_cons (thn (he gd s σ H _ I h) λu s1 aD=>?_)
 let(x,H1,I1,r1,l,ys,ex,hl,q):=aD;subst ex;cases r1;refine Calls.spliced_nil ?_;let(its,rv,pl,hz):=I1.list hl;have z:l<s1.heap.objs.size:=by let(_,e,_):=pl.isList;exact uj e
 refine call_reversed_list pl.isList (Calls.spliced_nil ?_);have W:=Walks.listRev (prog:=X.prog) (w:=X.w) (A:=X.A.in1.in1) (I.ok.hd hc) s1.heap.objs.size l (AG z) its.toArray;exact Ih I1 z W (λi s' st=>st.2.1.typeIs) (by decide) (by decide) (λs' Q' E' st hq=>Lr st.2.1.typeIs hq) (Fs _,(_,u0 _ U,U,by simp[revObj]),pl.isList.push _) (λacc h=>Jm (by simpa using rv) h) (by rw[Yg];exact hz) (by rw[u3,<- rv.length];exact hz) q
variable{x:Str}
section
def K9{y:Str}(hg:Gl X x)(hm:∃t,X.mg x=Z (.str y t))(hd:AS x:=by decide):PE X (.Name x pos) (tC (.str y)):=by
 let(t,e):=hm;exact zE hg e (t,U) hd
def vU{y:J}(hg:Gl X x)(hm:X.mg x=Z (.ref y))(hd:AS x:=by decide):PE X (.Name x pos) (tC (.ref y)):=zE hg hm U hd
def La{y:Int}(hg:Gl X x)(hm:∃t,X.mg x=Z (.int y t))(hd:AS x:=by decide):PE X (.Name x pos) (tC (.int y)):=by
 let(t,e):=hm;exact zE hg e (t,U) hd
def Xq(_ j:Int):Prop:=0<j/\j<18446744073709551616
def Le:OpR X (binaryOp .FloorDiv) (rI Xq λi j=>.int (i / j)):=opI λi j _ _ _ _ _ g q=>by
 let(h1,h2):=g;have e:i.fdiv j=i / j:=Int.fdiv_eq_ediv_of_nonneg _ (by lia)
 refine floordiv_int (by lia) (by rw[e];exact q) (.inl (PyProof.noPylong_of_log2 ?_))
 have h3:j.natAbs<2 ^ 64:=by omega
 have h4:j.natAbs≠0:=by lia
 exact aa5 ((Nat.log2_lt h4).mpr h3) (by decide)
def Hq{ys:List Str}{its:Array B}(v:Vals (ys.map V.str) its.toList)(h:ys.length<=1000:=by decide):its.size<=px:=by
 have e:=v.length;rw[gV]at e;have g:its.toList.length=its.size:=by simp
 have:(1000:Nat)<=px:=by decide
 omega
end
def dk(s n:Int)(l:J):List (Key×V):=[(.inr "seed",.int s),(.inr "number",.int n),(.inr "left",.ref l)]
def IH{s n:Int}:pY (dk s n l) (.inr "number":Key)=Z (.int n):=by kernel_rfl
def Po{s n:Int}:pY (dk s n l) (.inr "left":Key)=Z (.ref l):=by kernel_rfl
def DV{s n m:Int}:putK (dk s n l) (.inr "number":Key) (.int m)=dk s m l:=by kernel_rfl
def KJ{s n m:Int}:putK (dk s n l) (.inr "seed":Key) (.int m)=dk m n l:=by kernel_rfl
structure fj(H:Hp)(d l:J)(s n:Int)(ls:List Int):Prop where
 hd:H d=Z (.dK (dk s n l))
 hl:H l=Z (.lst (ls.map V.int))
 s0:0<=s
 s1:s<2147483647
 n0:0<=n
 l0:∀x∈ls,0<=x
def sj(H:Hp)(d l:J):Prop:=∃s n ls,fj H d l s n ls
def Kp(d l:J)(H H':Hp):Prop:=∀b o,H b=Z o->b≠d->b≠l->H' b=Z o
variable{d:J}
def Kp.refl:Kp d l H H:=λ_ _ h _ _=>h
def fj.ne{s n:Int}{ls:List Int}(D:fj H d l s n ls):d≠l:=en D.hd D.hl (by intro z;cases z)
def fj.num{s n m:Int}{ls:List Int}(D:fj H d l s n ls)(h:0<=m):fj (upd H d (.dK (putK (dk s n l) (.inr "number":Key) (.int m)))) d l s m ls :=
 (by rw[aC,DV],by rw[aw D.ne.symm];exact D.hl,D.s0,D.s1,h,D.l0)
def fj.XF{s n m:Int}{ls:List Int}(D:fj H d l s n ls)(h:0<=m)(h2:m<2147483647):fj (upd H d (.dK (putK (dk s n l) (.inr "seed":Key) (.int m)))) d l m n ls :=
 (by rw[aC,KJ],by rw[aw D.ne.symm];exact D.hl,h,h2,D.n0,D.l0)
def fj.list{s n:Int}{ls ls':List Int}(D:fj H d l s n ls)(h:∀x∈ls',0<=x):fj (upd H l (.lst (ls'.map V.int))) d l s n ls' :=
 (by rw[aw D.ne];exact D.hd,aC,D.s0,D.s1,D.n0,h)
variable{H1:Hp}
def Kp.Rf{o:HO}(a:Kp d l H H1):Kp d l H (upd H1 d o):=λc u h h1 h2=>by rw[aw h1];exact a c u h h1 h2
def Kp.Xr{o:HO}(a:Kp d l H H1):Kp d l H (upd H1 l o):=λc u h h1 h2=>by rw[aw h2];exact a c u h h1 h2
def pU.new{p:J}{o:HO}(a:pU H H1)(hp:H1 p=Y):pU H (upd H1 p o):=λc u h=>by
 have z:=a c u h;rw[aw (aX z hp)];exact z
def sj.new{p:J}{o:HO}(D:sj H d l)(hp:H p=Y):sj (upd H p o) d l:=by
 let(s,n,ls,D):=D;exact(s,n,ls,by rw[aw (aX D.hd hp)];exact D.hd,by rw[aw (aX D.hl hp)];exact D.hl,D.s0,D.s1,D.n0,D.l0)
inductive JD(vs:List V)(H:Hp)(Q:VK)(_:XK):Prop
 |mk(d l:J)(m:Int)(h1:vs=[.ref d,.int m])(h2:sj H d l)(h3:0<m)(h4:m<18446744073709551616)(h5:∀(r:Int)(H':Hp),0<=r->r<m->sj H' d l->Kp d l H H'->Q (.int r) H')
inductive RB(K:BT)(vs:List V)(H:Hp)(Q:VK)(_:XK):Prop
 |mk(a:J)(ns:List Int)(b:Int)(h1:vs=[.ref a,.int b])(h2:SqL K H a (ns.map V.int))(h3:ns.length<=63)(h4:0<=b)(h5:b<=63)(h6:∀(d l:J)(H':Hp),H d=Y->H l=Y->sj H' d l->pU H H'->Q (.ref d) H')
variable{D:Ends}
def Hf{c:TT}{tb:TS}{σ:St}(I:Nat->St->Hp->Prop){m:Nat}(h0:I m σ H)(q:∀m σ H,I m σ H->D.nx σ H)
  (hs:∀m σ H,I m σ H->D.nx σ H->c σ H λb H1=>if b=O then ∃N:St->Hp->Prop,(∀g H',N g H'->∃m',m'<m/\I m' g H')/\tb {D with nx:=N,ct:=N,bk:=D.nx} σ H1 else D.nx σ H1):zg c tb D σ H :=
 (I,(m,h0),λm σ H h=>hs m σ H h (q m σ H h))
def fj.LS{s n:Int}{ls:List Int}(D:fj H d l s n ls):xq H d (.str "seed") (Z (.int s)):=by
 have z:=xq.k (k:=(Sum.inr "seed")) D.hd;exact z
def fj.WX{s n:Int}{ls:List Int}(D:fj H d l s n ls):xq H d (.str "number") (Z (.int n)):=by
 have z:=xq.k (k:=(Sum.inr "number")) D.hd;rw[IH]at z;exact z
def fj.QK{s n:Int}{ls:List Int}(D:fj H d l s n ls):xq H d (.str "left") (Z (.ref l)):=by
 have z:=xq.k (k:=(Sum.inr "left")) D.hd;rw[Po]at z;exact z
def fj.VZ{s n m:Int}{ls:List Int}(D:fj H d l s n ls):C0 H d (.str "number") (.int m) (upd H d (.dK (putK (dk s n l) (.inr "number":Key) (.int m)))) :=
 C0.k (k:=(Sum.inr "number")) D.hd (bq (by show 3<=1000;decide))
def fj.VU{s n m:Int}{ls:List Int}(D:fj H d l s n ls):C0 H d (.str "seed") (.int m) (upd H d (.dK (putK (dk s n l) (.inr "seed":Key) (.int m)))) :=
 C0.k (k:=(Sum.inr "seed")) D.hd (bq (by show 3<=1000;decide))
def mod_lt{x m:Int}(h:0<m):0<=x % m/\x % m<m:=(Int.emod_nonneg _ (by lia),Int.emod_lt_of_pos _ h)
end L2
namespace L2
def Mu(ns:List Int)(lo hi:Option Int):∃cs:List Int,rJ (ns.map V.int) lo hi=cs.map V.int/\cs.length<=ns.length:=by
 refine((ns.drop (HT.sIx ns.length 0 lo)).take (HT.sIx ns.length ns.length hi - HT.sIx ns.length 0 lo),?_,?_)
 ·unfold rJ;rw[gV,<- ZJ,<- ZK]
 ·rw[x8,xE];exact u6 (ZM _ _) (ZT _ _)
variable{i:Nat}
def int_at{ns:List Int}{x:V}(h:(ns.map V.int)[i]?=Z x):∃z,x=.int z:=by
 rw[ti]at h;cases e:ns[i]? with
 |none=>rw[e]at h;cases h
 |some z=>rw[e]at h;exact(z,(Option.some.inj h).symm)
def O5{ns:List Int}{x:V}(h:(ns.map V.int)[i]?=Z x):∃z,x=.int z/\z∈ns:=by
 rw[ti]at h;cases e:ns[i]? with
 |none=>rw[e]at h;cases h
 |some z=>rw[e]at h;exact(z,(Option.some.inj h).symm,yb e)
end L2
namespace L2
open PySem
def Uu{α:Type}{xs:List α}{i:Int}(h0:0<=i)(h1:i<xs.length):∃v,atI xs i=Z v/\v∈xs:=by
 obtain⟨n,rfl⟩:∃n:Nat,i=n:=(i.toNat,by lia)
 have h2:n<xs.length:=by lia
 refine(xs[n],?_,Zd h2);unfold atI ixN;simp[h2]
variable{n:Nat}
def ko(h:n<=10000):n<=px:=by
 have:(10000)<=px:=by decide
 lia
end L2
namespace L2
end L2
namespace L2
open PySem PySem.Spec PyProof.Rows
def strOf:EQ->Option Str
 |.Constant (.str x) _ _=>Z x
 |_=>Y
def strsOf:List EQ->Option (List Str)
 |[]=>Z []
 |e::r=>(strOf e).bind λx=>(strsOf r).map (x :: ·)
variable{e:EQ}{x:Str}
def Hn(h:strOf e=Z x):∃j p,e=.Constant (.str x) j p:=by
 cases e with
 |Constant c j p=>cases c with
  |str y=>cases h;exact(j,p,U)
  |_=>cases h
 |_=>cases h
variable{X:Cx}{es:List EQ}
def OD:∀{ws:List Str},strsOf es=Z ws->PA X es (λ_ H Q=>Q (ws.map V.str) H):=by
 induction es with
 |nil=>intro ws h;cases h;exact dW
 |cons e es q =>
  intro ws h;let(x,h1,h2):=ZO.mp h;let(g,h3,U):=kf.mp h2;let(j,p,U):=Hn h1;exact bh gF (q h3)
end L2
namespace L2
variable{i:Nat}{H:Hp}
def Pb{x:V}{σ:St}{A ό:St->Hp->Prop}(h:A (σ.set i (Z x)) H):jJ i x σ H λg z=>Fi g z λb q=>if b=O then A g q else ό g q:=by
 show if O=O then A (σ.set i (Z x)) H else ό (σ.set i (Z x)) H
 exact h
end L2
namespace L2
end L2
namespace L2
open PySem PySem.Spec PyProof.Rows
section
variable{X:Cx}
def pf(z:Str)(n:Nat):Str:=⟨(xU n z.cps).foldl (· ++ ·) #[]⟩
theorem Be(c:Array Nat):∀(n:Nat)(acc:Array Nat),((xU n c).foldl (· ++ ·) acc).size=acc.size+n*c.size
 | 0,acc=>by simp
 |n+1,acc=>by
  rw[List.replicate_succ,List.foldl_cons,Be c n,Array.size_append,Nat.add_mul]
  lia
def qW(z:Str)(n:Nat):(pf z n).length=n*z.length:=by
 have h:=Be z.cps n #[];simpa [pf,Str.length]using h
def D9:OpR X (binaryOp .Mult) (λx y H Q=>∃z n,x=.str z/\y=.int n/\0<=n/\n<=1000/\z.length<=1000/\Q (.str (pf z n.toNat)) H):=by
 intro gd s σ H x y v u Q I V K h;let(z,n,U,U,n0,n1,hz,q):=h;let(t,U):=V;let(t',U):=K;have fin:∀(y:Str)(t' k:Nat),y=pf z n.toNat->EP X gd σ Q (.str y t') {s with toks:=k}:=λy t' k e=>by subst e;exact(.str _,H,I.tok k,(_,U),q)
 have hp:=by
  have h1:(z.length:Int)*n<=1000*n:=Int.mul_le_mul_of_nonneg_right (by omega) n0
  omega
 refine P.mul_str ?_ (λh1 _=>?_) (λh1 _=>?_) ?_
 ·rw[decide_eq_false (by omega),decide_eq_false (by omega)];rfl
 ·have h2:(1000:Int) <=(2 ^ 63 - 1) / n:=by
   rw[Int.le_ediv_iff_mul_le (by omega)]
   omega
  omega
 ·have h2:=by
   have e:((z.length*n.toNat:Nat):Int)=(z.length:Int)*n:=by rw[Int.natCast_mul,Zf n0]
   omega
  have:=Y0
  exact decide_eq_false (by omega)
 ·by_cases h1:n<1
  ·rw[if_pos h1];have e:n.toNat=0:=by omega
   exact(by decide,fin _ _ _ (by rw[e];rfl))
  ·rw[if_neg h1];by_cases h2:(n==1||z.length==0)=O
   ·rw[if_pos h2];refine fin z t s.toks ?_;have h3:=by simpa using h2
    obtain h3|h3:=h3
    ·subst h3;show z=⟨#[]++z.cps⟩;simp
    ·have e1:z.cps=#[]:=by simpa [Str.length]using h3
     have g:=qW z n.toNat;rw[h3]at g;have e3:=by simpa [Str.length]using g
     exact Str.ext' (by rw[e1,e3])
   ·rw[if_neg h2];refine(?_,fin _ _ _ U);have e:=qW z n.toNat;have h3:=by
     have e:((n.toNat*z.length:Nat):Int)=(z.length:Int)*n:=by rw[Int.natCast_mul,Zf n0,Int.mul_comm]
     omega
    have:=Y0
    show(pf z n.toNat).length<=px;omega
end
end L2
namespace L2
open PySem
def Eo(n:Nat):Nat:=97+n % 26
end L2
namespace L2
open PySem
end L2
namespace L2
open PySem PySem.Spec PyProof.Rows
abbrev Mk1:=Str×List Str
abbrev Kd:=Str×List Mk1
variable{it:J}{i:Nat}{items:Array B}{Q:B->ϋ->Prop}{h':Ev}{tp:Bool}{l:J}
section
variable{prog:Db}{w:Da}{A:Do}{E:B->ϋ->Prop}{s:ϋ}
theorem xK{t:J}{x:B}(hit:s.heap.IsTupleIter it t i)(z:s.heap.IsTuple t items)(hx:items[i]?=Z x)
  (P:∀h',h'.IsTupleIter it t (i+1)->Zk it s.heap h'->Q x {s with heap:=h'}):wpAny (model prog w) A (Builtin.SmallTypes.nextOf (.ref it)) Q E s:=by
 let(o,ho,K,hd):=id hit;let(ol,g,_,nl,q):=z;refine dO (wpAny_callSpecial?_slot hit.typeIs F.slot_tuple_iterator_next
  (YZ F.slot_tuple_iterator_next hit.typeIs F.entry_tuple_iterator_next ?_ (F.args_tuple_iterator_next_1 _)))
 show wpAny _ _ (field (.ref it) 0 >>= _) _ _ s;refine dO (wpAny_field ho hd U ?_);refine dO (wpAny_field ho hd U ?_);refine dO (wpAny_seqItems g q ?_);simp only[ZG,hx];refine dO (Zo ho hd (by simp) (u7 (x,U,u7 (P _ ?_ (Heap.SameBut.update ..)))))
 exact(_,CT _ ho (Y8 (YK hd _)),(Obj.cls_mapFields ..).trans K,by
  rw[YK hd];simp[rawInt])
theorem zQ{t:J}(K:A.handled=Y)(hit:s.heap.IsTupleIter it t i)(z:s.heap.IsTuple t items)(hx:items[i]?=Y)
  (P:∀h' e,aa6 it s.heap h'->(∃o,h'.get? e=Z o/\o.cls=.type "StopIteration")->E (.ref e) {s with heap:=h'}):wpAny (model prog w) A (Builtin.SmallTypes.nextOf (.ref it)) Q E s:=by
 let(o,ho,V,hd):=id hit;let(ol,g,_,nl,q):=z;refine dO (wpAny_callSpecial?_slot hit.typeIs F.slot_tuple_iterator_next
  (YZ F.slot_tuple_iterator_next hit.typeIs F.entry_tuple_iterator_next ?_ (F.args_tuple_iterator_next_1 _)))
 show wpAny _ _ (field (.ref it) 0 >>= _) _ _ s;refine dO (wpAny_field ho hd U ?_);refine dO (wpAny_field ho hd U ?_);refine dO (wpAny_seqItems g q ?_);simp only[ZG,hx];refine dO (ZY (dO (Zo ho hd (by simp) ?_)))
 refine dO ?_;refine dO (m:=firstArgMember _ _) (wpAny_of_eq (by rfl) ?_)
 refine Y9 ?_ (by size_fits)
 refine dO (wpAny_handled ?_);rw[K];exact dO (u7 (wpAny_throw (P _ _ (((Heap.SameBut.update ..).extBut.push _).push _) (_,u0 _ U,U))))
def d7(h:Ev)(tp:Bool)(it l:J)(k:Nat):Prop:=if tp=O then h.IsTupleIter it l k else h.IsListIter it l k
def nB(h:Ev)(tp:Bool)(l:J)(items:Array B):Prop:=if tp=O then h.IsTuple l items else h.IsList l items
def d7.at{h:Ev}{k:Nat}(x:d7 h tp it l k)(e:∀o,h.get? it=Z o->h'.get? it=Z o):d7 h' tp it l k:=by
 cases tp with
 |true=>let(o,ho,r):=(x);exact((o,e o ho,r))
 |false=>let(o,ho,r):=(x);exact((o,e o ho,r))
def d7.obj{h:Ev}{k:Nat}(x:d7 h tp it l k):∃o,h.get? it=Z o/\∀v,o.data ≠ .cell v:=by
 cases tp with
 |true=>let(o,ho,_,hd):=(x);exact(o,ho,λv=>by rw[hd];simp)
 |false=>let(o,ho,_,hd):=(x);exact(o,ho,λv=>by rw[hd];simp)
def next_item{x:B}(hit:d7 s.heap tp it l i)(hl:nB s.heap tp l items)(hx:items[i]?=Z x)
  (g:∀h',d7 h' tp it l (i+1)->Zk it s.heap h'->Q x {s with heap:=h'}):wpAny (model prog w) A (Builtin.SmallTypes.nextOf (.ref it)) Q E s:=by
 cases tp with
 |true=>exact xK hit hl hx g
 |false=>exact wpAny_nextOf_list_item hit hl hx g
def next_end(g:A.handled=Y)(hit:d7 s.heap tp it l i)(hl:nB s.heap tp l items)(hx:items[i]?=Y)
  (q:∀h' e,aa6 it s.heap h'->(∃o,h'.get? e=Z o/\o.cls=.type "StopIteration")->E (.ref e) {s with heap:=h'}):wpAny (model prog w) A (Builtin.SmallTypes.nextOf (.ref it)) Q E s:=by
 cases tp with
 |true=>exact zQ g hit hl hx q
 |false=>exact wpAny_nextOf_list_end g hit hl hx q
end
def vm{w:Str}{ws:List Str}:inV (.str w) (ws.map V.str)=O ↔ w∈ws:=by
 constructor
 ·intro h;by_cases hm:w∈ws
  ·exact hm
  ·exfalso
   unfold inV at h;rw[ZN]at h;let(x,hx,e):=h;let(z,g,U):=Jf.mp hx
   have:=eq_of_beq (show(z==w)=O from e)
   exact hm (this▸g)
 ·intro h;unfold inV;rw[ZN];exact(.str w,Jf.mpr (w,h,U),show(w==w)=O from beq_self_eq_true w)
def marks(rs:List Str):List (Key×V):=rs.map λs=>(.inr s,.bl O)
variable{X:Cx}{gd:List (J×Obj)}{H:Hp}{s:ϋ}{t':Nat}{fp:List J}
def Inv.Fg{σ:St}(I:Inv X gd σ H s)(k:∀b o,b ∉ fp->s.heap.get? b=Z o->h'.get? b=Z o)(hf:∀b∈fp,yc X gd H b):
  Inv X gd σ H {s with heap:=h',toks:=t'}:=by
 have K:∀b u,H b=Z u->b ∉ fp:=λb u e z=>by
  have:=(hf b z).1
  rw[e]at this;cases this
 refine I.step (λb P=>?_) (λb o _ _ g e _=>k b o g e) (λb o _ _ g e _=>(o.slots,k b o g e)) (λ_ _ _ _ n=>n)
  (λb o g e=>(o,k b o g e)) (λ_ _ e=>e) (λ_ _ _ e=>e) (λb ps e=>(#[],by rw[e];simp)) (λm hm=>?_) (λb u e=>?_) I.bare
 ·let(f0,f1,f2,V,f4,Q):=hf b P;exact(V,f1,f4,Q)
 ·let(o,es,ep,ho,r):=hm;exact(o,es,ep,k _ o (λz=>(hf _ z).2.1 U) ho,r)
 ·refine(I.hok b u e).d9 (λc v g q=>k c v ?_ q) (λ_ q=>q) λ_ _ q=>q
  obtain z|z:=g
  ·rw[z];exact K b u e
  ·exact K c _ z
def SqB(K:BT)(tp:Bool)(H:Hp)(a:J)(xs:List V):Prop:=if tp=O then SqT K H a xs else SqL K H a xs
variable{a:J}{xs:List V}
def Inv.RH{σ:St}(I:Inv X gd σ H s)(h:SqB X.K tp H a xs):∃its:List B,Vals xs its/\nB s.heap tp a its.toArray/\xs.length<=px:=by
 cases tp with
 |true =>
  let(its,r,p,z):=I.tuple (h);exact(its,r,(p),z)
 |false =>
  let(its,r,p,z):=I.list (h);exact(its,r,p.isList,z)
variable{ys:List V}
def Inv.JV{σ:St}(I:Inv X gd σ H s)(h:SqB X.K tp H a xs)(h2:SqB X.K tp H a ys):xs=ys:=by
 cases tp with
 |true=>exact I.yf (h) (h2)
 |false=>exact I.wj (h) (h2)
def itc(tp:Bool):String:=if tp=O then "tuple_iterator" else "list_iterator"
variable{A:Do}{E:B->ϋ->Prop}
def wq{prog:Db}{w:Da}{xs:Array B}(h:nB s.heap tp l xs)
  (g:Q (.ref s.heap.objs.size) {s with heap:=s.heap.push {cls:=.type (itc tp),data:=.fields #[.ref l,.int 0 0]}}):wpAny (model prog w) A (pyIter (.ref l)) Q E s:=by
 cases tp with
 |true=>exact wpAny_pyIter_tuple (h) g
 |false=>exact wpAny_pyIter_list (h) g
def A9{h:Ev}(e:h.get? it=Z {cls:=.type (itc tp),data:=.fields #[.ref l,.int 0 0]}):d7 h tp it l 0:=by
 cases tp with
 |true=>exact((_,e,U,U))
 |false=>exact((_,e,U,U))
variable{d:J}
def sj.other{q:J}{o:HO}(D:sj H d l)(h1:q≠d)(h2:q≠l):sj (upd H q o) d l:=by
 let(s,n,ls,D):=D;exact(s,n,ls,by rw[aw h1.symm];exact D.hd,by rw[aw h2.symm];exact D.hl,D.s0,D.s1,D.n0,D.l0)
variable{es:List EQ}{n:Nat}
theorem zB{K:BT}{k:Nat}{pos:Pos}{t:TGs}(z:X.K=K)(q:X.calm=O)(h:PGs X es t)
  (hn:‹(assignEach es X.env).length=n›) (g:‹(assignEach es X.env).findIdx? (·.1)=none›):PG X (.Tuple es k pos) (LV K n t):=z▸K4 q h hn g
section
variable{prog:Db}{w:Da}
theorem IG{e:J}{x old:B}{Q:Option B->ϋ->Prop}
  (he:IsEnum s.heap e it i old) (hit:d7 s.heap tp it l i) (hl:nB s.heap tp l items) (hx:items[i]?=Z x) (K:e≠it)
  (hQ:∀h',IsEnumOut h' e it ((i:Int)+1) x s.heap.objs.size->d7 h' tp it l (i+1)->h'.get? s.heap.objs.size=Z {cls:=.type "tuple",data:=.seq #[.int i s.toks,x]}->h'.objs.size=s.heap.objs.size+1 ->
   (∀b o,b≠e->b≠it->s.heap.get? b=Z o->h'.get? b=Z o)->Q (Z (.ref s.heap.objs.size)) {s with heap:=h',toks:=s.toks+1}):wpAny (model prog w) A (pyNext (.ref e)) Q E s:=by
 have hT:s.TypeIs (.ref e) "enumerate":=(_,he,U);let(hp,g,d,tk,os):=s;refine dO (wpAny_attempt (wpAny_callSpecial?_slot hT F.slot_enumerate_next (YZ F.slot_enumerate_next hT F.entry_enumerate_next ?_ (F.args_enumerate_next_1 _))));show wpAny _ _ (field (.ref e) 2 >>= _) _ _ _;refine dO (wpAny_field he U U ?_);refine dO (next_item hit hl hx λh1 Yh ak=>?_)
 have aq:=(ak.2 e K).trans he;refine dO (wpAny_field aq U U ?_);refine dO (wpAny_field aq U U ?_);refine dO (wpAny_mkInt ?_);refine dO (wpAny_setField_rec aq (by simp) λh2 bc ah=>?_)
 refine dO (wpAny_setField_rec bc (by simp) λh3 bb V=>?_)
 show wpAny _ _ (newTuple [.int i tk,x] >>= _) _ _ (h3,g,d,tk+1,os);refine dO (wpAny_newTuple ?_);have P:IsEnum (h3.push {cls:=.type "tuple",data:=.seq #[.int i tk,x]}) e it ((i)+1) old:=hL _ bb;have hsz:h3.objs.size=hp.objs.size:=by rw[V.1,ah.1,ak.1]
 have a4:=uj he;have aG:(h3.push {cls:=.type "tuple",data:=.seq #[.int i tk,x]}).get? hp.objs.size=Z {cls:=.type "tuple",data:=.seq #[.int i tk,x]}:=by rw[<- hsz];exact u0 _ U
 have aD:(h3.push {cls:=.type "tuple",data:=.seq #[.int i tk,x]}).objs.size=hp.objs.size+1:=by rw[WN,hsz]
 have a3:∀b o,b≠e->b≠it->hp.get? b=Z o->(h3.push {cls:=.type "tuple",data:=.seq #[.int i tk,x]}).get? b=Z o:=λb o q av hb=>hL _ (V.extBut b o q (ah.extBut b o q (ak.extBut b o av hb)))
 have WI:d7 (h3.push {cls:=.type "tuple",data:=.seq #[.int i tk,x]}) tp it l (i+1):=Yh.at λo eo=>hL _ (V.extBut _ o K.symm (ah.extBut _ o K.symm eo))
 generalize h3.push {cls:=.type "tuple",data:=.seq #[.int i tk,x]}=h4 at P aG aD a3 WI
 rw[hsz];refine dO ?_;refine dO (wpAny_field P U U (u7 ?_));refine dO (ZY (dO (wpAny_field P U (x:=old) U (dO (wpAny_setField_rec P (by simp) λh5 a7 a0=>?_)))))
 refine dO ?_;refine dO (wpAny_setField_rec a7 (by simp) λh6 a6 aV=>?_)
 refine wpAny_setField_rec a6 (by simp) λh7 a5 aL=>?_
 have up:∀c o,c≠e->h4.get? c=Z o->h7.get? c=Z o:=λc o hc z=>aL.extBut _ _ hc (aV.extBut _ _ hc (a0.extBut _ _ hc z))
 refine dO (wpAny_letGo (u7 (_,U,u7 (hQ h7 a5 (WI.at λo eo=>up _ o K.symm eo) (up _ _ (ZA a4) aG) ?_ λb o q av hb=>up b o q (a3 b o q av hb)))))
 rw[aL.1,aV.1,a0.1,aD]
theorem Ma{e:J}{old:B}{Q:Option B->ϋ->Prop}(z:A.handled=Y)
  (he:IsEnum s.heap e it i old) (hit:d7 s.heap tp it l i) (hl:nB s.heap tp l items) (hx:items[i]?=Y) (P:∀h',aa6 it s.heap h'->Q Y {s with heap:=h'}):wpAny (model prog w) A (pyNext (.ref e)) Q E s:=by
 have hT:s.TypeIs (.ref e) "enumerate":=(_,he,U);refine dO (wpAny_attempt (wpAny_callSpecial?_slot hT F.slot_enumerate_next (YZ F.slot_enumerate_next hT F.entry_enumerate_next ?_ (F.args_enumerate_next_1 _))));show wpAny _ _ (field (.ref e) 2 >>= _) _ _ _;refine dO (wpAny_field he U U ?_);refine dO (next_end z hit hl hx λh' x q g=>?_)
 let(o,ho,K):=g;refine dO (wpAny_isInstance (o,ho,K) isSubtype_stop ?_);exact u7 (P _ q)
abbrev eH1(tp:Bool)(h:Ev)(l:J):Ev:=h.push {cls:=.type (itc tp),data:=.fields #[.ref l,.int 0 0]}
abbrev eH2(tp:Bool)(h:Ev)(l:J):Ev:=(eH1 tp h l).push {cls:=.type "enumerate",data:=.fields #[.none,.bool ϊ,.ref h.objs.size,rawInt 0,.none,.none]}
def wa(tp:Bool)(l:J)(xs:Array B):
  Meets (Builtin.«enumerate.__new__» ([.type "enumerate",.ref l],[])) (λ_ R s=>nB s.heap tp l xs/\R (.ok (.ret (.ref (eH1 tp s.heap l).objs.size))) {s with heap:=eH2 tp s.heap l}) :=
 .of_wp λprog w A R s h=>by
  let(hl,h):=h;have q:=sub_enumerate;have g:=hl
  wp_walk
  refine wpAny_stack_any λst=>u7 ?_
  split
  ·rename_i c _ _ _ _ _
   cases(c==B.type "enumerate")
   ·wp_walk using wq g
    exact(_,U,h)
   ·wp_walk using wq g
    exact(_,U,h)
  ·wp_walk using wq g
   exact(_,U,h)
theorem xX{xs:Array B}(hl:nB s.heap tp l xs)
  (h:∀h',IsEnum h' (s.heap.objs.size+1) s.heap.objs.size 0 .none->d7 h' tp s.heap.objs.size l 0->(∀b o,s.heap.get? b=Z o->h'.get? b=Z o)->Q (.ref (s.heap.objs.size+1)) {s with heap:=h'}):
  wpAny (model prog w) A (call (.type "enumerate") [.ref l]) Q E s:=by
 refine callType_new F.called_enumerate (by decide) (F.typeCall_enumerate_1 _) (F.newCall_enumerate_1 _) (λobj=>F.args_object_init_2 obj _) F.entry_enumerate_new (wa tp l xs) (hl,?_)
 have g:(eH1 tp s.heap l).objs.size=s.heap.objs.size+1:=WN ..;have g2:(eH2 tp s.heap l).get? (eH1 tp s.heap l).objs.size=Z _:=u0 _ U;have g1:(eH2 tp s.heap l).get? s.heap.objs.size=Z _:=hL _ (u0 _ U);rw[g]at g2 ⊢;exact((_,g2,U),h _ g2 (A9 g1) λc o x=>hL _ (hL _ x))
end
def Ite(K:BT)(tp:Bool)(l:J):It :=
 (λi H=>∃xs x,SqB K tp H l xs/\xs[i]?=Z x,
   λi H v H'=>∃(p:J)(x:V),H p=Y/\v=.ref p/\H'=upd H p (.tup [.int i,x])/\∀xs,SqB K tp H l xs->xs[i]?=Z x,
   λi H=>∃xs,SqB K tp H l xs/\xs.length<=i)
variable{P:Db}{elts:List EQ}
theorem Hj{w:Da}{K:BT}{x1}(e it l:J)(Q:e≠it):
  Turn P w K (.Tuple elts x1 pos) (Ite K tp l) [e,it] e (λi h=>(∃old,IsEnum h e it i old)/\d7 h tp it l i) where
 mem:=by simp
 obj:=by
  rintro i h ⟨⟨old,h1⟩,h2⟩ c q
  simp only[fH,U3,or_false]at q;obtain rfl|rfl:=q
  ·exact(_,h1,λv e=>by cases e)
  ·exact h2.obj
 keep:=by
  rintro i h h' ⟨⟨old,h1⟩,h2⟩ k
  exact((old,k e (by simp) _ h1),h2.at λo z=>k it (by simp) o z)
 item:=by
  intro X hP hw hK q i gd s σ H E I hf st hg;subst hP hw hK;let((old,h1),h2):=st;let(xs,x,q1,e1):=hg;let(its,rv,o1,z1):=I.RH q1;let(u1,aq,ak):=rv.get e1;refine IG h1 h2 o1 (x:=u1) (by simpa using aq) Q λh' av aG aL YF aD=>(_,U,(wpAny_letOwnedTupleGo_enum av λah Yj Yc=>?_))
  have hn:=I.hok.fresh (qd s.heap.objs.size);have le:=uj h1;let(oi,aV,_):=h2.obj;have li:=uj aV;have X5:∀b ∈ [e,it],b≠s.heap.objs.size:=λb g=>by
   simp only[fH,U3,or_false]at g;obtain rfl|rfl:=g
   ·exact AG le
   ·exact AG li
  have up:∀c o,c≠e->h'.get? c=Z o->ah.get? c=Z o:=λc o q z=>Yc.extBut _ _ q z
  have I1:Inv X gd σ (upd H s.heap.objs.size (.tup [.int i,x])) {s with heap:=s.heap.push {cls:=.type "tuple",data:=.seq #[.int i s.toks,u1]},toks:=s.toks+1} :=
   I.laid (λb u z=>hL _ z) (qd _) (by show 2<=px;decide,[.int i s.toks,u1],.cons (_,U) (.cons ak .nil),((_,u0 _ U,U,_,U),_,u0 _ U,U))
  have V:∀b ∈ [e,it],yc X gd (upd H s.heap.objs.size (.tup [.int i,x])) b:=λb g=>by
   let(f0,r):=hf b g;exact(by rw[aw (X5 b g)];exact f0,r)
  have I2:=by
   refine I1.Fg (h':=ah) (t':=s.toks+1) (λb o g z=>?_) V
   simp only[fH,U3,or_false,not_or]at g;let(b1,b2):=g;obtain⟨rfl,rfl⟩|z':=Heap.get?_push_cases z
   ·exact up _ _ b1 aL
   ·exact up _ _ b1 (aD b o b1 b2 z')
  exact(.ref s.heap.objs.size,upd H s.heap.objs.size (.tup [.int i,x]),I2,U,(_,x,hn,U,U,λzs hz=>by rw[I.JV hz q1];exact e1),(((_,by simpa using Yj),aG.at λo z=>up _ _ Q.symm z)),λb g=>(V b g).1)
 done:=by
  intro X hP hw hK q i gd s σ H E I hf st hg;subst hP hw hK;let((old,h1),h2):=st;let(xs,q1,WL):=hg;let(its,rv,o1,z1):=I.RH q1;have g1:=rv.length;refine Ma (I.ok.hd q) h1 h2 o1 (by simp;lia) λh' k=>(U,I.Fg (λb o g z=>?_) hf)
  simp only[fH,U3,or_false,not_or]at g;exact k b o g.2 z
 self:=λ_ _ _ _ _ st h=>let((_,z),_):=st;wpAny_pyIter_enum z h
def Cc(K:BT)(tp:Bool)(ta:TA):TI:=λσ H R=>ta σ H λvs H1=>∃l,vs=[.ref l]/\(∃xs,SqB K tp H1 l xs)/\R (Ite K tp l) H1
def Ow{x1}{a:EQ}{ta:TA}(hg:Gl X "enumerate")(hm:X.mg "enumerate"=Y)(wB:bootBuiltins "enumerate"=Z (.type "enumerate"))(ha:PA X [a] ta)(hs:‹AD X a›):
  PI X (.Tuple elts x1 pos') (.Call (.Name "enumerate" p) [a] [] pos) (Cc X.K tp ta):=by
 intro gd s σ H R I h;refine Call_ (nc I hg hm wB (PyProof.Rows.callWith_type1 (thn (ha pos gd s σ H _ I h) λus s1 (vs,H1,P,r1,q1)=>?_) hs U))
 let(l,e,(xs,q2),q):=q1;subst e;let(u1,U,Q):=vals1 r1;cases Q;let(its,rv,o1,z1):=P.RH q2;refine xX o1 λh' he hi hk=>wpAny_pyIter_enum he ?_
 refine(_,[s1.heap.objs.size+1,s1.heap.objs.size],_,_,H1,U,P.kept hk,Hj _ _ l (λz=>absurd (show @Eq Nat _ _ from z) (by lia)),((_,he),hi),λc V=>?_,q)
 have g:s1.heap.objs.size<=c:=by
  simp only[fH,U3,or_false]at V;obtain rfl|rfl:=V <;> first|exact Nat.le_add_right _ _|exact qd _
 exact P.ID g (P.hok.fresh g)
end L2
namespace PySem
open Sem (wp)
end PySem
namespace L2
open PySem PySem.Spec PyProof.Rows
section
variable{X:Cx}{gd:List (J×Obj)}{σ:St}{H:Hp}{s:ϋ}{a:J}{u u':HO}
def Inv.Ve(I:Inv X gd σ H s)(ha:H a=Z u)(h1:∀xs,u ≠ .tup xs)(h2:∀c,u ≠ .own c)(h3:∀ps,u ≠ .tbl ps)(K:∀o v,X.H₀ a≠Z (.frz o v))(new:dm X.prog X.w (upd H a u') s.heap a u'):Inv X gd σ (upd H a u') s:=by
 have ne:∀{b:J},H b=Y->b≠a:=λ{b} e z=>by rw[z,ha]at e;cases e
 refine(I.ok,I.os,I.bare,(I.base.keep,I.base.slot,λb o e n hx=>?_,I.base.there,λb xs e=>?_,λb o v e=>?_,λb ps e=>?_),I.loc,I.cell,?_,λx c e=>?_,λp hp=>?_,λb o e=>?_,I.len)
 ·have:=I.base.free b o e n hx
  rw[aw (ne this)];exact this
 ·have:=I.base.su b xs e
  rw[aw λz=>by rw[z,ha]at this;exact h1 xs (Option.some.inj this)]
  exact this
 ·have:=I.base.pO b o v e
  rw[aw λz=>by rw[z]at e;exact K o v e]
  exact this
 ·let(more,this):=I.base.sx b ps e;refine(more,?_);rw[aw λz=>by rw[z,ha]at this;exact h3 _ (Option.some.inj this)]
  exact this
 ·rw[aw (ne I.free)];exact I.free
 ·rw[aw (ne (I.iL x c e))];exact I.iL x c e
 ·let(p1,p2,p3):=I.pin p hp;exact(p1,by rw[aw (ne p2)];exact p2,p3)
 ·by_cases g:b=a
  ·subst g;rw[aC]at e;cases e;exact new
  ·rw[aw g]at e;refine(I.hok b o e).d9 (λ_ _ _ q=>q) (λc q=>?_) λc xs q=>?_
   ·rw[aw λz=>by rw[z,ha]at q;exact h2 _ (Option.some.inj q)];exact q
   ·rw[aw λz=>by rw[z,ha]at q;exact h1 _ (Option.some.inj q)];exact q
end
end L2
namespace PySem
open Sem (wp)
section
variable{prog:Db}{w:Da}{A:Do}{E:B->ϋ->Prop}{h:Ev}{g:Array aa0}{d:Drawn}{t:Nat}{os:OsState}
variable{nm q:Str}{C N:J}{bs bm bmB:List B}{pM:Bool}{sn:List Str}{sub:List B}{ab:Bool}{col:Option Bool}{dd:Option J}{k0 k1 k2 k3 k5:Option B}{ό newId LH:String}
theorem uL(F:ExcBaseFacts ό newId LH bmB)(T:OwnTail h bmB bm){mN:Str->Option B}{rest:List B}{fI:J}{oI:Obj}{Q:Fin->ϋ->Prop}
  (K:h.get? C=Z (excClassObj nm q C N bs bm pM sn sub ab col dd k0 k1 k2 k3 k5 newId)) (hn:h.Ns N mN) (hi:mN "__init__"=Z (.ref fI)) (ah:h.get? fI=Z oI) (V:oI.cls=.type "function")
  (hq:∀h' e,Za h h' e (.ref C) rest->wpAny (model prog w) A (call (.ref fI) (.ref e::rest)) (λr s'=>r=.none/\Q (.done (.ret (.ref e))) s') E (h',g,d,t,os)) (wA:rest.length<=px):
  wpAny (model prog w) A (Builtin.«type.__call__» (.ref C::rest,[])) Q E (h,g,d,t,os):=by
 repeat (first|with_reducible refine wpAny_loadPart_at K ?_|with_reducible refine wpAny_madeBy_exc K ?_|wp_step)
 refine codeAny_call_builtin_code (Code.quiet_builtin _ F.quiet) (wpAny_check_new_subT F T K ?_);refine codeAny_exc_new_subT F T K ?_ wA;show wpAny _ _ _ _ _ _;have z:=hL {cls:=.ref C,data:=.fields #[.ref h.objs.size,.none,.none,.none,.bool ϊ,.none]} (hL {cls:=.type "tuple",data:=.seq rest.toArray} K);have Yi:=hL {cls:=.ref C,data:=.fields #[.ref h.objs.size,.none,.none,.none,.bool ϊ,.none]} (hL {cls:=.type "tuple",data:=.seq rest.toArray} ah);have P:((h.push {cls:=.type "tuple",data:=.seq rest.toArray}).push {cls:=.ref C,data:=.fields #[.ref h.objs.size,.none,.none,.none,.bool ϊ,.none]}).Ns N mN :=
  let(o,es,ep,e,r):=hn;(o,es,ep,hL _ (hL _ e),r)
 have WK:((h.push {cls:=.type "tuple",data:=.seq rest.toArray}).push {cls:=.ref C,data:=.fields #[.ref h.objs.size,.none,.none,.none,.bool ϊ,.none]}).get? (h.objs.size+1)=Z {cls:=.ref C,data:=.fields #[.ref h.objs.size,.none,.none,.none,.bool ϊ,.none]}:=by heap_get
 have ak:(B.ref C::bm).contains (.ref C)=true:=by simp
 have T1:=T.keeps (h':=(h.push {cls:=.type "tuple",data:=.seq rest.toArray}).push {cls:=.ref C,data:=.fields #[.ref h.objs.size,.none,.none,.none,.bool ϊ,.none]}) λb o e=>hL _ (hL _ e)
 unfold isInstance
 repeat (first|with_reducible refine wpAny_loadPart_at WK ?_|(with_reducible refine wpAny_isSubtype_exc z ?_;rw[ak])|wp_step)
 show wpAny _ _ (typeLookup (.ref C) _) _ _ _;refine wpAny_typeLookup_tail z P T1 F.mroIs F.init.lookup ?_;rw[hi];refine Y6 (dO ?_);unfold bindSpecial;refine dO (ZD (T:="function") (_,Yi,V) ?_);rw[if_pos (by decide)]
 refine u7 (dO (E5 (hq _ (h.objs.size+1) (λb o hb=>hL _ (hL _ hb),Fq (Nat.le_succ _),h.objs.size,WK,Fq (qd _),?_)) (λr s' hr=>?_) λ_ _ x=>x))
 ·exact hL _ (Heap.get?_push_at U U)
 ·let(U,hQ):=hr
  wp_walk
  exact hQ
def ES(F:ExcBaseFacts ό newId LH bmB)(T:OwnTail h bmB bm){mN:Str->Option B}{rest:List B}{V:J}{oI:Obj}{Q:B->ϋ->Prop}
  (z:h.get? C=Z (excClassObj nm q C N bs bm pM sn sub ab col dd k0 k1 k2 k3 k5 newId)) (hn:h.Ns N mN) (hi:mN "__init__"=Z (.ref V)) (P:h.get? V=Z oI) (K:oI.cls=.type "function")
  (hq:∀h' e,Za h h' e (.ref C) rest->wpAny (model prog w) (A.under (.builtin "type.__call__" (.ref C::rest,[]))) (call (.ref V) (.ref e::rest)) (λr s'=>r=.none/\Q (.ref e) s') E (h',g,d,t,os)) (wA:rest.length<=px):
  wpAny (model prog w) A (call (.ref C) rest) Q E (h,g,d,t,os):=by
 have f1:=tc_lookup;have f2:=tc_bind (.ref C);have hT:((h,g,d,t,os):ϋ).TypeIs (.ref C) "type":=(_,z,U);refine wpAny_call (codeAny_of_tree ?_);show wpAny _ _ (callAny (.ref C) _) _ _ _
 repeat (any_goals (first|assumption|with_reducible refine wpAny_loadPart_at z ?_|wp_step))
 refine(U,?_);refine codeAny_call_builtin_at (Code.quiet_builtin _ (by decide +kernel)) entry_typeCall (wpAny_check_type_call_sub z (uL F T z hn hi P K (λh' e hm=>?_) wA))
 exact hq h' e hm
end
end PySem
namespace PySem
open Sem (wp)
open Builtin Builtin.ObjectAttr
inductive dM(h:Ev)(S:List Str)(bmB:List B):List B->Prop
 |base:dM h S bmB bmB
 |own{A:J}{c0:B}{dd:Option J}{cd:ClassData}{sl:Array (Option B)}{mA:Str->Option B}{tl:List B} :
   h.get? A=Z {cls:=c0,dict:=dd,data:=.cls cd,slots:=sl}->h.Ns cd.ns mA->(∀n∈S,mA n=Y)->dM h S bmB tl->dM h S bmB (.ref A::tl)
def dM.tail{h:Ev}{S:List Str}{bmB tl:List B}(q:("__init__":Str)∈S)(T:dM h S bmB tl):OwnTail h bmB tl:=by
 induction T with
 |base=>exact .base
 |own K z hn _ g=>exact .own K z (hn _ q) g
def dM.hasType{h:Ev}{S:List Str}{bmB tl:List B}(T:dM h S bmB tl){X:String}{b:Bool}(q:bmB.contains (.type X)=b):tl.contains (.type X)=b:=by
 induction T with
 |base=>exact q
 |own _ _ _ _ g=>rw[AH,g];rfl
def dM.refuse{h:Ev}{S:List Str}{bmB tl:List B}(T:dM h S bmB tl)(self:B)(g:Str):refuseLoop self g tl=refuseLoop self g bmB:=by
 induction T with
 |base=>rfl
 |own _ _ _ _ q=>rw[refuseLoop_ref,q]
section
variable{M:Model}{prog:Db}{w:Da}{A:Do}{E:B->ϋ->Prop}{h:Ev}{g:Array aa0}{d:Drawn}{t:Nat}{os:OsState}
variable{nm q:Str}{C N x:J}{bs bm bmB:List B}{sn:List Str}{sub:List B}{ab pM:Bool}{col:Option Bool}{dd:Option J}{k0 k1 k2 k3 k5:Option B}{ό newId sa owner:String}
 {mN mA:Str->Option B} {name:Str} {v:B} {S:List Str}
def CD{y:Option B}{Q:Option B->ϋ->Prop}(hs:name∈S)(T:dM h S bmB bm)(q:lookupAlong bmB name=pure y)(K:Q y (h,g,d,t,os)):wpAny M A (lookupAlong bm name) Q E (h,g,d,t,os):=by
 induction T with
 |base=>rw[q];exact u7 K
 |own V P hn _ z =>
  rw[lookupAlong_cons];refine dO (wpAny_classOwn_cls V P ?_);rw[hn _ hs];exact z
def c5{y:Option B}{Q:Option B->ϋ->Prop}(hs:name∈S)(P:h.get? C=Z (excClassObj nm q C N bs bm pM sn sub ab col dd k0 k1 k2 k3 k5 newId))(hn:h.Ns N mN)(T:dM h S bmB bm)(K:mroOf (.type ό)=pure bmB)
  (V:typeLookup (.type ό) name=pure y) (z:Q (match mN name with|some v=>Z v|none=>y) (h,g,d,t,os)):wpAny M A (typeLookup (.ref C) name) Q E (h,g,d,t,os):=by
 have wA:lookupAlong bmB name=pure y:=by rw[typeLookup_eq,K]at V;exact V
 rw[typeLookup_eq];refine dO (wpAny_mroOf_exc P ?_);rw[lookupAlong_cons];refine dO (wpAny_classOwn_exc P hn ?_);cases hv:mN name with
 |some v=>rw[hv]at z;exact u7 z
 |none=>rw[hv]at z;exact CD hs T wA z
def IQ{o:Obj}{z:B}{Q:Unit->ϋ->Prop}(K:StoreFacts ό bmB sa owner)(T:dM h S bmB bm)
  (hC:h.get? C=Z (excClassObj nm q C N bs bm O sn sub ab col dd k0 k1 k2 k3 k5 newId)) (hx:h.get? x=Z o) (hc:o.cls=.ref C) (V:Q () (h,g,d,t,os)):wpAny M A (checkBuiltinCall sa ([.ref x,z,v],[])) Q E (h,g,d,t,os):=by
 have P:(B.ref C::bm).contains (.type owner)=true:=by rw[AH,T.hasType K.hasOwner,Zm]
 have ha:=K.args (.ref x) z v;simp only[checkBuiltinCall,K.kind,K.split];refine dO ?_;unfold isInstance
 repeat (first|(with_reducible refine wpAny_loadPart_at hx ?_;rw[hc])|(with_reducible refine wpAny_isSubtype_exc hC ?_;rw[P])|wp_step)
 cases Yb:Manifest.signature? sa with
 |none=>exact u7 V
 |some sig =>
  simp only[argsOk,Yb]at ha;have h2:Bind.checkArgs sa sig ([.ref x,z,v],[])=pure ():=ha;show wpAny M A (Bind.checkArgs sa sig ([.ref x,z,v],[])) Q E _;rw[h2];exact u7 V
def zh{tk:Tok}{Q:Fin->ϋ->Prop}{ns:List Str}(SF:StoreFacts ό bmB sa owner)(T:dM h S bmB bm)(hs:name∈S)
  (hC:h.get? C=Z (excClassObj nm q C N bs bm O sn sub ab col dd k0 k1 k2 k3 k5 newId)) (hn:h.Ns N mN) (bb:mN name=Y) (hB:typeLookup (.type ό) name=pure Y) (bG:x≠C) (I:h.Inst x C mA)
  (hq:∀h' tk',h'.Inst x C (λy=>if y=name then Z v else mA y)->(∀b o,b≠x->(∀z dx,h.get? x=Z z->z.dict=Z dx->b≠dx)->h.get? b=Z o->h'.get? b=Z o) ->
   (∀z,h.get? x=Z z->∃K,h'.get? x=Z K/\K.cls=z.cls/\K.data=z.data/\K.slots=z.slots/\(∀dx,z.dict=Z dx->K.dict=Z dx)/\(z.dict=Y->K.dict=Z h.objs.size))->Q (.done (.ret .none)) (h',g,d,tk',os)) (hw:Within mA ns) (hsz:ns.length+1<=px):
  wpAny (model prog w) A (Builtin.«object.__setattr__» ([.ref x,.str name tk,v],[])) Q E (h,g,d,t,os):=by
 let(o,hx,hc,aD,hd):=I;have WE:=(T.refuse (.ref x) "__setattr__").trans (SF.passes (.ref x));unfold Builtin.«object.__setattr__»
 repeat (first|rw[refuse_eq]|(rw[refuseLoop_ref,WE])|(with_reducible refine wpAny_loadPart_at hx ?_;rw[hc])|with_reducible refine wpAny_mroOf_exc hC ?_|(with_reducible refine c5 hs hC hn T SF.mro hB ?_;rw[bb])|wp_step)
 obtain⟨a4,bc⟩|⟨dx,ah,av,a6⟩:=hd
 ·rw[a4,if_neg (by simp[typeHasDict])]
  split
  ·rename_i aL;cases aL
  split
  ·rename_i c aL;exact absurd aL (aD c)
  ·have a0:(h.push {cls:=.type "dict",data:=.dict #[]}).get? x=Z o:=hL _ hx;have ak:x≠h.objs.size:=AG (uj hx);refine dO (wpAny_alloc' ?_);refine dO (wpAny_update' a0 ?_);refine u7 ?_;have bj:((h.push {cls:=.type "dict",data:=.dict #[]}).update x λo=>{cls:=o.cls,dict:=Z h.objs.size,data:=o.data,slots:=o.slots}).get? h.objs.size=Z {cls:=.type "dict",data:=.dict #[]} :=
    (aa1 _ _ _ _ ak.symm).trans (Heap.get?_push_at U U)
   have a7:((h.push {cls:=.type "dict",data:=.dict #[]}).update x λo=>{cls:=o.cls,dict:=Z h.objs.size,data:=o.data,slots:=o.slots}).Ns h.objs.size (λ_=>Y) :=
    (_,#[],_,bj,U,λe he=>absurd he (by simp),λ_=>rfl)
   show wpAny _ _ (storeInDict h.objs.size (.str name tk) name v) _ _ _;unfold storeInDict newKeyGuard;refine dO (u7 (dO (wpAny_nsSet1 (Heap.Ns1.of_empty a7) λh' V P=>?_)))
   let(oD,bE,bF,aq,aG,aV):=V.count (Within.cons name v Within.nil);refine dO (wpAny_lookBehind aq (by rw[aG];exact pastItsLine_dict (u6 aV (by rw[mD,Zv,Y0];omega))) ?_)
   wp_walk
   have a3:h'.get? x=Z {cls:=o.cls,dict:=Z h.objs.size,data:=o.data,slots:=o.slots}:=?_;refine hq h' _ ({cls:=o.cls,dict:=Z h.objs.size,data:=o.data,slots:=o.slots},a3,hc,aD,.inr (h.objs.size,U,ak.symm,?_)) (λb ob br _ hb=>?_)
    (λz h₀=>by obtain rfl:o=z:=Option.some.inj (hx.symm.trans h₀);exact(_,a3,U,U,U,λdx e=>(by rw[a4]at e;cases e),λ_=>rfl))
   ·let(o',es,ep,e1,e2,e3,eu,e4):=V;exact(o',es,ep,e1,e2,e3,eu,λy=>by rw[e4 y];by_cases hy:y=name <;> simp[hy,bc])
   ·exact(P.2 b (AG (uj hb))).trans ((aa1 _ _ _ _ br).trans (hL _ hb))
   ·refine(P.2 x ak).trans (CT _ a0 ?_);have bo:=(Heap.get?_some_iff.mp hx).2;let(oc,od,a5,osl):=o;cases a5 <;> first|rfl|exact bo
 ·rw[ah];refine u7 ?_;show wpAny _ _ (storeInDict dx (.str name tk) name v) _ _ _;unfold storeInDict newKeyGuard;refine dO (u7 (dO (wpAny_nsSet1 a6 λh' V P=>?_)))
  let(oD,bE,bF,aq,aG,aV):=V.count (Within.cons name v hw);refine dO (wpAny_lookBehind aq (by rw[aG];exact pastItsLine_dict (u6 aV (by rw[mD];omega))) ?_)
  wp_walk
  refine hq h' _ (o,(P.2 x av.symm).trans hx,hc,aD,.inr (dx,ah,av,V)) (λb ob _ bD hb=>?_) (λz h₀=>(z,(P.2 x av.symm).trans h₀,U,U,U,λ_ e=>e,λe=>(by obtain rfl:o=z:=Option.some.inj (hx.symm.trans h₀);rw[ah]at e;cases e)))
  exact(P.2 b (bD o dx hx ah)).trans hb
def t9{Q:Unit->ϋ->Prop}{ns:List Str}(P:StoreFacts ό bmB sa owner)(T:dM h S bmB bm)(hs:name∈S)(ah:("__setattr__":Str)∈S)
  (hC:h.get? C=Z (excClassObj nm q C N bs bm O sn sub ab col dd k0 k1 k2 k3 k5 newId)) (hn:h.Ns N mN) (ak:mN "__setattr__"=Y) (aq:mN name=Y) (hB:typeLookup (.type ό) name=pure Y) (V:x≠C) (I:h.Inst x C mA)
  (hq:∀h' tk',h'.Inst x C (λy=>if y=name then Z v else mA y)->(∀b o,b≠x->(∀z dx,h.get? x=Z z->z.dict=Z dx->b≠dx)->h.get? b=Z o->h'.get? b=Z o) ->
   (∀z,h.get? x=Z z->∃K,h'.get? x=Z K/\K.cls=z.cls/\K.data=z.data/\K.slots=z.slots/\(∀dx,z.dict=Z dx->K.dict=Z dx)/\(z.dict=Y->K.dict=Z h.objs.size))->Q () (h',g,d,tk',os)) (hw:Within mA ns) (hsz:ns.length+1<=px):
  wpAny (model prog w) A (setAttr (.ref x) name v) Q E (h,g,d,t,os):=by
 let(o,hx,hc,_):=id I;have f3:=P.slot.bind (.ref x);unfold setAttr callSpecial? specialOf
 repeat (any_goals (first|assumption|(with_reducible refine wpAny_loadPart_at hx ?_;rw[hc])|(with_reducible refine c5 ah hC hn T P.mro P.slot.lookup ?_;rw[ak])|wp_step))
 refine codeAny_call_builtin P.slot.plain P.entry (IQ P T hC hx hc (zh P T hs hC hn aq hB V I (λh' tk' I' hk uo=>?_) hw hsz))
 repeat (any_goals (first|assumption|wp_step))
 exact hq h' tk' I' hk uo
end
end PySem
namespace PySem
open Sem (wp)
open Builtin Builtin.ObjectAttr
section
variable{prog:Db}{w:Da}{A:Do}{E:B->ϋ->Prop}{h:Ev}{g:Array aa0}{d:Drawn}{t:Nat}{os:OsState}
variable{nm q:Str}{C N x:J}{bs bm bmB:List B}{sn:List Str}{sub:List B}{ab pM:Bool}{col:Option Bool}{dd:Option J}{k0 k1 k2 k3 k5:Option B}{ό newId:String}
 {mN mA:Str->Option B} {name:Str} {v:B} {S:List Str} {o:Obj}
theorem yI{M:Model}{z:B}{Q:Unit->ϋ->Prop}(FB:ExcAttrBase ό bmB)(T:dM h S bmB bm)(V:h.get? C=Z (excClassObj nm q C N bs bm pM sn sub ab col dd k0 k1 k2 k3 k5 newId))
  (hx:h.get? x=Z o) (P:o.cls=.ref C) (K:Q () (h,g,d,t,os)):wpAny M A (checkBuiltinCall "BaseException.__getattribute__" ([.ref x,z],[])) Q E (h,g,d,t,os):=by
 have e1:builtinKind "BaseException.__getattribute__"=Z .slot:=by decide +kernel
 have e2:splitId "BaseException.__getattribute__"=Z ("BaseException","__getattribute__"):=by decide +kernel
 have e3:(B.ref C::bm).contains (.type "BaseException")=true:=by rw[AH,T.hasType FB.hasBase,Zm]
 have ha:=F.args_bexc_ga (.ref x) z;simp only[checkBuiltinCall,e1,e2];refine dO ?_;unfold isInstance
 repeat (first|(with_reducible refine wpAny_loadPart_at hx ?_;rw[P])|(with_reducible refine wpAny_isSubtype_exc V ?_;rw[e3])|wp_step)
 exact K
def Em{tk:Tok}{Q:Fin->ϋ->Prop}(FB:ExcAttrBase ό bmB)(T:dM h S bmB bm)(hs:name∈S)(hC:h.get? C=Z (excClassObj nm q C N bs bm O sn sub ab col dd k0 k1 k2 k3 k5 newId))(hn:h.Ns N mN)
  (P:mN name=Y) (hB:typeLookup (.type ό) name=pure Y) (I:h.Inst x C mA) (hv:mA name=Z v) (hh:handedOut v=pure v) (hq:Q (.done (.ret v)) (h,g,d,t,os)):
  wpAny (model prog w) A (Builtin.«object.__getattribute__» ([.ref x,.str name tk],[])) Q E (h,g,d,t,os):=by
 let(o,hx,hc,K,hd):=I;obtain⟨_,V⟩|⟨dx,ah,aq,z⟩:=hd
 ·rw[V name]at hv;cases hv
 unfold Builtin.«object.__getattribute__»
 repeat (first|(with_reducible refine wpAny_loadPart_at hx ?_;rw[hc])|(with_reducible refine c5 hs hC hn T FB.mro hB ?_;rw[P])|wp_step)
 split
 ·rename_i c ak;exact absurd ak (K c)
 unfold instanceDict
 repeat (first|(with_reducible refine wpAny_loadPart_at hx ?_;rw[hc])|with_reducible refine wpAny_loadPart_at hC ?_|wp_step)
 rw[ah]
 repeat (first|(with_reducible refine wpAny_nsGet z.ns ?_;rw[hv])|wp_step)
 exact hq
theorem En{expr:Bool}{Q:B->ϋ->Prop}(FB:ExcAttrBase ό bmB)(T:dM h S bmB bm)(hs:name∈S)(P:("__getattribute__":Str)∈S)(K:("__getattr__":Str)∈S)
  (V:h.get? C=Z (excClassObj nm q C N bs bm O sn sub ab col dd k0 k1 k2 k3 k5 newId)) (hn:h.Ns N mN) (z:∀n∈S,mN n=Y)
  (hB:typeLookup (.type ό) name=pure Y) (I:h.Inst x C mA) (hv:mA name=Z v) (hh:handedOut v=pure v) (hq:Q v (h,g,d,t+1,os)):
  wpAny (model prog w) A (getAttr (.ref x) name expr) Q E (h,g,d,t,os):=by
 let(o,hx,hc,_):=id I;have f3:=FB.ga.bind (.ref x);have b0:(expr&&onTheHeap (B.builtin "BaseException.__getattribute__"))=false:=by cases expr <;> rfl
 have b2:(B.builtin "BaseException.__getattribute__" == B.builtin "object.__getattribute__")=false:=by decide +kernel
 have b1:(onTheHeap (B.ref C)&&B.builtin "BaseException.__getattribute__" == B.builtin "object.__getattribute__")=false:=by rw[b2];rfl
 have n1:=z _ P;have n2:=z _ K;unfold getAttr getAttrBy
 repeat (any_goals (first|assumption|(with_reducible refine wpAny_loadPart_at hx ?_;rw[hc])|(with_reducible refine c5 P V hn T FB.mro FB.ga.lookup ?_;rw[n1])|(with_reducible refine c5 K V hn T FB.mro FB.noGetattr ?_;rw[n2])|wp_step))
 refine codeAny_call_builtin FB.ga.plain F.entry_bexc_ga (yI FB T V hx hc (Em FB T hs V hn (z _ hs) hB I hv hh ?_))
 repeat (any_goals (first|assumption|wp_step))
theorem EO{R:Result->ϋ->Prop}(z:bmB.contains (.type "object")=O)(T:dM h S bmB bm)(Q:h.get? C=Z (excClassObj nm q C N bs bm pM sn sub ab col dd k0 k1 k2 k3 k5 newId))
  (hx:h.get? x=Z o) (P:o.cls=.ref C) (hq:R (.ok (.ret (.ref C))) (h,g,d,t,os)):
  codeAny (model prog w) A (.call (.builtin "getset_descriptor.__get__") ([.builtin "object.__class__",.ref x,.ref C],[])) R (h,g,d,t,os):=by
 have K:((h,g,d,t,os):ϋ).TypeIs (.builtin "object.__class__") "getset_descriptor":=F.typeOf_object_class;have V:(B.ref C::bm).contains (.type (".".intercalate ("object.__class__".cutAt '.').dropLast))=true:=by
  rw[F.owner_object_class,AH,T.hasType z,Zm]
 refine codeAny_call_builtin F.slot_gs_get.plain F.entry_gs_get (F.slot_gs_get.check _ _ _ _ _ _ _ _ K (F.args_gs_get _ _ _) ?_)
 repeat (any_goals (first|assumption|(with_reducible refine wpAny_loadPart_at hx ?_;rw[P])|(with_reducible refine wpAny_isSubtype_exc Q ?_;rw[V])|wp_step))
 refine(Code.quiet_builtin _ (by decide +kernel),codeAny_builtin F.entry_object_class ?_)
 repeat (any_goals (first|assumption|(with_reducible refine wpAny_loadPart_at hx ?_;rw[P])|wp_step))
theorem Cv{tk:Tok}{Q:Fin->ϋ->Prop}(P:typeLookup (.type ό) "__class__"=pure (Z (.builtin "object.__class__")))(z:bmB.contains (.type "object")=O)(hs:("__class__":Str)∈S)(FB:ExcAttrBase ό bmB)(T:dM h S bmB bm)
  (hC:h.get? C=Z (excClassObj nm q C N bs bm pM sn sub ab col dd k0 k1 k2 k3 k5 newId)) (hn:h.Ns N mN) (K:∀n∈S,mN n=Y) (hx:h.get? x=Z o) (V:o.cls=.ref C) (hq:Q (.done (.ret (.ref C))) (h,g,d,t,os)):
  wpAny (model prog w) A (Builtin.«object.__getattribute__» ([.ref x,.str "__class__" tk],[])) Q E (h,g,d,t,os):=by
 have ah:((h,g,d,t,os):ϋ).TypeIs (.builtin "object.__class__") "getset_descriptor":=F.typeOf_object_class;have f5:=F.typeOf_object_class;have f6:=F.slot_gs_get.lookup;have f7:=F.slot_gs_set.lookup;have n1:=K _ hs
 repeat (any_goals (first|assumption|(with_reducible refine wpAny_loadPart_at hx ?_;rw[V])|(with_reducible refine c5 hs hC hn T FB.mro P ?_;rw[n1])|wp_step))
 refine EO z T hC hx V ?_
 repeat (any_goals (first|assumption|wp_step))
theorem IP{tk:Tok}{Q:B->ϋ->Prop}(ak:typeLookup (.type ό) "__class__"=pure (Z (.builtin "object.__class__")))(ah:bmB.contains (.type "object")=O)(hs:("__class__":Str)∈S)(P:("__getattribute__":Str)∈S)(K:("__getattr__":Str)∈S)(FB:ExcAttrBase ό bmB)(T:dM h S bmB bm)
  (V:h.get? C=Z (excClassObj nm q C N bs bm pM sn sub ab col dd k0 k1 k2 k3 k5 newId)) (hn:h.Ns N mN) (z:∀n∈S,mN n=Y) (hx:h.get? x=Z o) (hc:o.cls=.ref C) (hq:Q (.ref C) (h,g,d,t,os)):
  wpAny (model prog w) A (getAttrBy (.ref x) (.str "__class__" tk) ϊ) Q E (h,g,d,t,os):=by
 have f3:=FB.ga.bind (.ref x);have b2:(B.builtin "BaseException.__getattribute__" == B.builtin "object.__getattribute__")=false:=by decide +kernel
 have b1:(onTheHeap (B.ref C)&&B.builtin "BaseException.__getattribute__" == B.builtin "object.__getattribute__")=false:=by rw[b2];rfl
 have n1:=z _ P;have n2:=z _ K
 repeat (any_goals (first|assumption|(with_reducible refine wpAny_loadPart_at hx ?_;rw[hc])|(with_reducible refine c5 P V hn T FB.mro FB.ga.lookup ?_;rw[n1])|(with_reducible refine c5 K V hn T FB.mro FB.noGetattr ?_;rw[n2])|wp_step))
 refine codeAny_call_builtin FB.ga.plain F.entry_bexc_ga (yI FB T V hx hc (Cv ak ah hs FB T V hn z hx hc ?_))
 repeat (any_goals (first|assumption|wp_step))
def Cw{Q:Option B->ϋ->Prop}(ah:typeLookup (.type ό) "__class__"=pure (Z (.builtin "object.__class__")))(P:bmB.contains (.type "object")=O)(hs:("__class__":Str)∈S)(K:("__getattribute__":Str)∈S)(z:("__getattr__":Str)∈S)(FB:ExcAttrBase ό bmB)(T:dM h S bmB bm)
  (hC:h.get? C=Z (excClassObj nm q C N bs bm pM sn sub ab col dd k0 k1 k2 k3 k5 newId)) (hn:h.Ns N mN) (V:∀n∈S,mN n=Y) (hx:h.get? x=Z o) (hc:o.cls=.ref C) (hq:Q (Z (.ref C)) (h,g,d,t+1,os)):
  wpAny (model prog w) A (getAttr? (.ref x) "__class__") Q E (h,g,d,t,os):=by
 unfold getAttr? getAttrBy?
 repeat (any_goals (first|assumption|with_reducible apply IP ah P hs K z FB T hC hn V hx hc|wp_step))
end
end PySem
namespace PySem
open Sem (wp)
def xn(h:Ev)(e:J)(cls:B)(dx:Option J)(y:B):Prop :=
 ∃o vs g,h.get? e=Z o/\o.cls=cls/\o.dict=dx/\o.data=.fields vs/\vs[0]?=Z g/\vs[1]?=Z y
def jU(h:Ev)(e:J)(cls:B)(dx:Option J)(T:J)(fl:B):Prop :=
 T≠e/\xn h e cls dx (.ref T)/\∃oT ts,h.get? T=Z oT/\oT.data=.fields ts/\ts[3]?=Z fl
structure gI(fr ex:List J)(h h':Ev):Prop where
 keep:∀b o,h.get? b=Z o->b ∉ fr->b ∉ ex->h'.get? b=Z o
 slot:∀b o,h.get? b=Z o->b ∉ ex->∃sl,h'.get? b=Z {o with slots:=sl}
 there:∀b o,h.get? b=Z o->∃o',h'.get? b=Z o'
def gI.trans{fr ex g:List J}{h h1 h2:Ev}(a:gI fr ex h h1)(b:gI fr g h1 h2)(hs:∀b o,h.get? b=Z o->b∈g->b∈ex):gI fr ex h h2 where
 keep:=λc o e hf hx=>b.keep c o (a.keep c o e hf hx) hf λz=>hx (hs c o e z)
 slot:=λc o e hx=>by
  let(sl,K):=a.slot c o e hx;let(q,P):=b.slot c _ K λz=>hx (hs c o e z)
  exact(q,P)
 there:=λc o e=>let(o',K):=a.there c o e;b.there c o' K
def gI.mono{fr fr' ex ex':List J}{h h1:Ev}(a:gI fr ex h h1)(hf:∀b∈fr,b∈fr')(hx:∀b∈ex,b∈ex'):gI fr' ex' h h1 :=
 (λb o e n m=>a.keep b o e (λz=>n (hf b z)) λz=>m (hx b z),λb o e m=>a.slot b o e λz=>m (hx b z),a.there)
def gI.oo{fr ex:List J}{h h1 base:Ev}{l:List Env}(a:gI fr ex h h1)(hx:∀b o,b∈ex->h.get? b=Z o->∃vs,o.data=.fields vs)(hl:h.FunFrames base l):h1.FunFrames base l :=
 hl.of_keeps λb o e hn=>by
  let(sl,q):=a.slot b o e λz=>by let(vs,q):=hx b o z e;exact hn vs q
  exact(_,q,U)
def mI{h:Ev}{T i:Nat}{x:B}{oT:Obj}{ts:Array B}(hT:h.get? T=Z oT)(hd:oT.data=.fields ts):gI [] [T] h (h.update T (Zt (·.setIfInBounds i x))):=by
 have q:∀b,b≠T->(h.update T (Zt (·.setIfInBounds i x))).get? b=h.get? b:=λb g=>Cd _ _ (Ne.symm g)
 refine(λb o e _ n=>(q b λz=>n (by simp[z])).trans e,λb o e n=>(o.slots,(q b λz=>n (by simp[z])).trans e),λb o e=>?_)
 by_cases g:b=T
 ·rw[g];exact(_,CT _ hT (Y8 (YK hd _)))
 ·exact(o,(q b g).trans e)
section
variable{M:Model}{A:Do}{E:B->ϋ->Prop}{s:ϋ}
variable{base:Ev}{env:Env}{outer:List Env}{L e T:J}{cls:B}{dx:Option J}{Q:Unit->ϋ->Prop}
def Mb{y head:B}{Pa:Bool}(ak:A.frames=Z (env::outer))(hl:s.heap.FunFrames base (env::outer))(hf:env.frame=Z L)(hx:xn s.heap e cls dx y)
  (hq:∀h' T',s.heap.objs.size<=T'->jU h' e cls dx T' (rawInt L)->gI ((env::outer).filterMap (·.frame)) [e] s.heap h'->Q () {s with heap:=h'}):
  wpAny M A (do let a <- frameOf env;let pl <- entryPlaceOf L Pa;let b <- EntryCells.newEntry head a .none (rawInt L) .none pl;setField (.ref e) 1 b) Q E s:=by
 let(o,vs,a0,ho,hc,aq,hd,h0,h1):=hx;have hsz:1<vs.size:=(Zb.mp h1).1;have ah:e ∉ (env::outer).filterMap (·.frame):=λz=>by
  let(_,o',P,hn):=hl.mem z;rw[ho]at P;cases P;exact hn vs hd
 refine dO (wpAny_frameOf_fun ak hl hf λg hg=>?_)
 refine dO (wpAny_entryPlaceOf λpl K=>?_)
 unfold EntryCells.newEntry newFields;refine dO (Y9 ?_ (K.sizeOk5 _ _ _ _ _));have e1:g.get? e=Z o:=(hg.2.1 e ah).trans ho;have e2:=hL (h:=g) {cls:=.type "traceback",dict:=Y,data:=.fields ([head,.ref L,.none,rawInt L,.none]++(if pl.isEmpty then xU 6 B.none else pl)).toArray} e1
 have V:g.objs.size≠e:=ZA (uj e1);have d3:=YK hd (·.setIfInBounds 1 (B.ref g.objs.size));have e3:=CT (Zt (·.setIfInBounds 1 (B.ref g.objs.size))) e2 (Y8 d3);refine Zo e2 hd hsz (hq _ g.objs.size (ZS hg.1.symm) (V,(_,_,a0,e3,(Obj.cls_mapFields _ _).trans hc,?_,d3,by rw[Array.getElem?_setIfInBounds_ne (by decide)];exact h0,by simp[hsz]),?_) ?_)
 ·rw[<- aq];let(_,_,dt,_):=o;cases dt <;> rfl
 ·exact(_,_,(Cd _ _ (Ne.symm V)).trans (u0 g U),U,by first|(simp;done)|(obtain rfl |⟨_,_,_,_,_,_,_,rfl⟩:=K <;> simp))
 ·have kp:∀b ob,b≠e->g.get? b=Z ob->((g.push {cls:=.type "traceback",dict:=Y,data:=.fields ([head,.ref L,.none,rawInt L,.none]++(if pl.isEmpty then xU 6 B.none else pl)).toArray}).update e (Zt (·.setIfInBounds 1 (B.ref g.objs.size)))).get? b=Z ob :=
   λb ob hb q=>(Cd _ _ (Ne.symm hb)).trans (hL _ q)
  refine(λb ob q n m=>kp b ob (λz=>m (by simp[z])) ((hg.2.1 b n).trans q),λb ob q m=>?_,λb ob q=>?_)
  ·let(sl,q2):=hg.2.2 b ob q;exact(sl,kp b _ (λz=>m (by simp[z])) q2)
  ·by_cases hb:b=e
   ·rw[hb];exact(_,e3)
   ·let(sl,q2):=hg.2.2 b ob q;exact(_,kp b _ hb q2)
def jm{fl:B}(hx:jU s.heap e cls dx T fl)(P:∀h',jU h' e cls dx T .none->gI [] [T] s.heap h'->Q () {s with heap:=h'}):wpAny M A (setFlight (.ref e) Y) Q E s:=by
 let(z,(o,vs,a0,ho,V,K,hd,h0,h1),oT,ts,hT,g,h3):=hx;have q:3<ts.size:=(Zb.mp h3).1;unfold setFlight;refine dO (wpAny_field ho hd h1 ?_);rw[if_pos (show(B.ref T != B.none)=O from by simp)]
 refine Zo hT g q (P _ (z,(o,vs,a0,(Cd _ _ z).trans ho,V,K,hd,h0,h1),_,_,CT _ hT (Y8 (YK g _)),YK g _,by simp[q]) (mI hT g))
def ug(g:A.frames=Z (env::outer))(hl:s.heap.FunFrames base (env::outer))(hf:env.frame=Z L)(hx:xn s.heap e cls dx .none)
  (z:∀h' q,s.heap.objs.size<=q->jU h' e cls dx q (rawInt L)->gI ((env::outer).filterMap (·.frame)) [e] s.heap h'->Q () {s with heap:=h'}):wpAny M A (noteFrame (.ref e) env) Q E s:=by
 let(o,vs,V,ho,P,K,hd,h0,h1):=id hx;unfold noteFrame;simp only[hf];refine dO (wpAny_field ho hd h1 ?_);rw[if_neg (by decide)]
 exact Mb g hl hf hx z
def v7(V:A.frames=Z (env::outer))(hl:s.heap.FunFrames base (env::outer))(hf:env.frame=Z L)(hx:jU s.heap e cls dx T .none)
  (hq:∀h' K,s.heap.objs.size<=K->jU h' e cls dx K (rawInt L)->gI ((env::outer).filterMap (·.frame)) [e,T] s.heap h'->Q () {s with heap:=h'}):wpAny M A (noteFrame (.ref e) env) Q E s:=by
 let(aq,(o,vs,a0,ho,hc,ah,hd,h0,h1),oT,ts,hT,g,h3):=hx;unfold noteFrame;simp only[hf];refine dO (wpAny_field ho hd h1 ?_);rw[if_pos (show(B.ref T != B.none)=O from by simp)]
 refine dO (wpAny_field hT g h3 ?_);rw[if_neg (show ¬((B.none==rawInt L)=O)from by simp[rawInt])]
 refine dO (Zo hT g (Zb.mp h3).1 ?_);have k1:=mI (i:=3) (x:=B.none) hT g;have P:∀b ob,b ∈ [T]->s.heap.get? b=Z ob->∃ws,ob.data=.fields ws:=λb ob hb q=>by
  have ak:b=T:=by simpa using hb
  subst ak;rw[hT]at q;cases q;exact(ts,g)
 refine Mb (y:=.ref T) V (k1.oo P hl) hf (o,vs,a0,(Cd _ _ aq).trans ho,hc,ah,hd,h0,h1) λh' K sz al k2=>hq h' K ?_ al ?_
 ·have:(s.heap.update T (Zt (·.setIfInBounds 3 B.none))).objs.size=s.heap.objs.size:=by simp[Heap.update]
  exact u6 (ZS this.symm) sz
 ·exact(k1.mono (fr':=(env::outer).filterMap (·.frame)) (ex':=[e,T]) (λ_ z=>nomatch z) (λb z=>by simp at z;simp[z])).trans k2 λb ob _ z=>by simp at z;simp[z]
def wk(g:A.frames=Z (env::outer))(hl:s.heap.FunFrames base (env::outer))(hf:env.frame=Z L)(hx:xn s.heap e cls dx .none)
  (hq:∀h' T',s.heap.objs.size<=T'->jU h' e cls dx T' .none->gI ((env::outer).filterMap (·.frame)) [e] s.heap h'->Q () {s with heap:=h'}):wpAny M A (leaving env (.ref e)) Q E s:=by
 unfold leaving;refine dO (ug g hl hf hx λh1 V sz al k1=>jm al λh2 P k2=>hq h2 V sz P ?_)
 exact k1.trans (k2.mono (λ_ z=>nomatch z) λb z=>z) λb ob q z=>by
  have K:b=V:=by simpa using z
  subst K;exact absurd (wh (uj q) sz) (UP _)
def xM(g:A.frames=Z (env::outer))(hl:s.heap.FunFrames base (env::outer))(hf:env.frame=Z L)(hx:jU s.heap e cls dx T .none)
  (hq:∀h' T',s.heap.objs.size<=T'->jU h' e cls dx T' .none->gI ((env::outer).filterMap (·.frame)) [e,T] s.heap h'->Q () {s with heap:=h'}):wpAny M A (leaving env (.ref e)) Q E s:=by
 unfold leaving;refine dO (v7 g hl hf hx λh1 V sz al k1=>jm al λh2 P k2=>hq h2 V sz P ?_)
 exact k1.trans (k2.mono (λ_ z=>nomatch z) λb z=>z) λb ob q z=>by
  have K:b=V:=by simpa using z
  subst K;exact absurd (wh (uj q) sz) (UP _)
end
end PySem
namespace L2
open PySem PySem.Spec PyProof.Rows
abbrev bmV:List Value:=[.type "ValueError",.type "Exception",.type "BaseException",.type "object"]
abbrev xS(fn:List Str):List Str:="__setattr__" :: "__getattribute__" :: "__getattr__" :: "__class__" :: fn
structure cv(K:BT)(fn:List Str)(C:J)(bm:List B)(ini:Option J):Prop where
 all:∀h:Ev,K.In h->∃nm q N bs sn sub ab col dd k0 k1 k2 k3 k5 mN,h.get? C=Z (excClassObj nm q C N bs bm O sn sub ab col dd k0 k1 k2 k3 k5 "ValueError.__new__")/\h.Ns N mN /\
  (∀n∈xS fn,mN n=Y)/\mN "__init__"=ini.map B.ref/\dM h ("__init__" :: xS fn) bmV bm
 cl:∃cd,W.clsIn K C=Z cd/\cd.mro=.ref C::bm
 ty:W.typeIn K (.ref C)=Z (.type "type")
def va(K:BT)(S:List Str)(bmB:List B):List B->Bool
 |[]=>bmB == []
 |v::r=>(v::r)==bmB||match v with
  |.ref A=>(match K.lookup A with
   |some (_,_,.cls cd,_)=>W.nsOkIn K cd.ns&&S.all (λn=>W.nsIn K cd.ns n==Z Y)&&va K S bmB r
   |_=>ϊ)
  |_=>ϊ
theorem AZ{K:BT}{h:Ev}{S:List Str}{bmB:List B}(X:K.In h):∀{l:List B},va K S bmB l=O->dM h S bmB l
 |[],e=>by rw[<- beq_iff_eq.mp e];exact .base
 |v::r,e=>by
  unfold va at e;obtain q|q:=Bool.or_eq_true_iff.mp e
  ·rw[beq_iff_eq.mp q];exact .base
  ·split at q
   ·split at q
    ·rename_i ho;rw[tY,tY]at q;exact .own (X _ _ ho) (.of_isNs (W.isNs_of_in X q.1.1)) (λn hn=>W.nsMap_none_of_in X q.1.1 (beq_iff_eq.mp (AE.mp q.1.2 n hn))) (AZ X q.2)
    ·cases q
   ·cases q
def W4:Data->Option ClassData
 |.cls cd=>Z cd
 |_=>Y
def IM{d:Data}{cd:ClassData}(h:W4 d=Z cd):d=.cls cd:=by
 cases d <;> first|exact congrArg Data.cls (Option.some.inj h)|cases h
def Ji(K:BT)(fn:List Str)(C:J)(bm:List B)(ini:Option J)(sl:Array (Option B))(cd:ClassData):Bool :=
 cd.mro == .ref C::bm&&sl.size==6&&sl[4]? == Z (Z (.builtin "ValueError.__new__")) && !cd.hasDel&&cd.hasDict&&va K ("__init__" :: xS fn) bmV bm&&W.nsOkIn K cd.ns &&
  (xS fn).all (λn=>W.nsIn K cd.ns n==Z Y)&&W.nsIn K cd.ns "__init__" == Z (ini.map B.ref)
def jV(K:BT)(fn:List Str)(C:J)(bm:List B)(ini:Option J):Bool:=(K.lookup C).any λo=>o.cls == .type "type" && (W4 o.data).any (Ji K fn C bm ini o.slots)
def any_some{α:Type}{o:Option α}{f:α->Bool}(h:o.any f=O):∃a,o=Z a/\f a=true:=by
 cases o with
 |none=>cases h
 |some a=>exact(a,U,h)
def six{α:Type}{l:List α}(h:l.length=6):∃a b c d e f,l=[a,b,c,d,e,f]:=by
 cases l with
 |nil=>cases h
 |cons a l=>cases l with
  |nil=>cases h
  |cons b l=>cases l with
   |nil=>cases h
   |cons c l=>cases l with
    |nil=>cases h
    |cons d l=>cases l with
     |nil=>cases h
     |cons e l=>cases l with
      |nil=>cases h
      |cons f l=>exact(a,b,c,d,e,f,by rw[YX.mp (show l.length=0 by simpa using h)])
variable{mg:Str->Option B}
theorem Ed{K:BT}{h:Ev}{N:J}{n:Str}{v:B}(X:K.In h)(G:h.Ns N mg)(e:W.nsIn K N n=Z (Z v)):mg n=Z v:=by
 let(o,es,P,ho,hd,_,hf):=G;unfold W.nsIn at e
 split at e
 ·rename_i c d g z sl q
  have:=X _ _ q
  rw[ho]at this;cases this;cases hd
  split at e
  ·rename_i Q he;cases e;rw[<- hf];unfold nsFind findBy;rw[<- aa3,he];rfl
  ·split at e <;> cases e
 ·cases e
variable{C:J}{bm:List B}{ini:Option J}
theorem jA{K:BT}{fn:List Str}(q:jV K fn C bm ini=O):cv K fn C bm ini:=by
 unfold jV at q;let((cl,dd,da,sl),ho,q):=any_some q;rw[tY]at q;let(q0,q):=q;let(cd,z,q):=any_some q;have e0:cl=.type "type":=eq_of_beq q0;have e1:da=.cls cd:=IM z;subst e0 e1;unfold Ji at q;simp only[tY,beq_iff_eq,Bool.not_eq_true']at q;let((((((((hm,h6),h4),Q),V),ht),hok),P),g):=q;let(nm,bs,mro,ns,qn,hd,sn,sub,ab,col,del):=cd;dsimp only at hm Q hok g V P;subst hm Q V;let⟨l⟩:=sl;let(k0,k1,k2,k3,k4,k5,U):=six (l:=l) h6;obtain rfl:k4=Z (.builtin "ValueError.__new__"):=Option.some.inj h4;refine(λh X=>?_,(_,by unfold W.clsIn;rw[ho],U),by show(K.lookup _).map (·.cls)=_;rw[ho];rfl)
 refine(nm,qn,ns,bs,sn,sub,ab,col,dd,k0,k1,k2,k3,k5,_,X _ _ ho,.of_isNs (W.isNs_of_in X hok),λn hn=>W.nsMap_none_of_in X hok (by simpa using AE.mp P n hn),?_,AZ X ht)
 cases ini with
 |none=>exact W.nsMap_none_of_in X hok g
 |some f=>exact Ed X (.of_isNs (W.isNs_of_in X hok)) g
def _root_.PySem.dM.sub{h:Ev}{S g:List Str}{bmB tl:List B}(T:dM h S bmB tl)(hs:∀n∈g,n∈S):dM h g bmB tl:=by
 induction T with
 |base=>exact .base
 |own a b c _ q=>exact .own a b (λn hn=>c n (hs n hn)) q
def XAt(a C:J)(dx:Option J)(b:Bool)(h:Ev):Prop:=∃y,xn h a (.ref C) dx y/\(b=O->y=.none)
def XD(dx:J)(fs:List (Str×V))(h:Ev):Prop:=∃mA,h.Ns1 dx mA/\(∀f,lR (fs.lookup f) (mA f))/\PySem.Within mA (fs.map (·.1))
def ExH(H:Hp)(a C:J)(b:Bool)(fs:List (Str×V)):Prop:=(fs=[]/\H a=Z (.ext (XAt a C Y b)))\/∃dx,dx≠a/\H a=Z (.ext (XAt a C (Z dx) b))/\H dx=Z (.ext (XD dx fs))
variable{ex:List J}{φ:Ev->Prop}{o1:HO}{o2:HO}
section
variable{P:Db}{w:Da}{H:Hp}{h h':Ev}{a d:J}{dx:Option J}{b:Bool}{fs:List (Str×V)}
def XAt.ok(x:XAt a C dx b h):dm P w H h a (.ext (XAt a C dx b)):=by
 refine(x,?_,λh1 h2 (y,(o,vs,g,e,r),z) k=>(y,(o,vs,g,k o e,r),z))
 let(y,(o,vs,g,e,r),z):=x;exact(o,e)
def XD.ok(x:XD d fs h):dm P w H h d (.ext (XD d fs)):=by
 refine(x,?_,λh1 h2 (mA,(o,es,g,e,r),z) k=>(mA,(o,es,g,k o e,r),z))
 let(mA,(o,es,g,e,r),z):=x;exact(o,e)
def dm.at{o:HO}(x:dm P w H h a o):∃u,h.get? a=Z u:=by
 cases o with
 |lst xs=>let(_,_,_,_,e):=x;exact(_,e)
 |tup xs=>let(_,_,_,p):=x;let(o,e,_):=p.1;exact(o,e)
 |dK kvs=>let(_,_,_,_,o,_,_,e,_):=x;exact(o,e)
 |dT kvs=>let(_,_,_,_,o,_,_,e,_):=x;exact(o,e)
 |set S n=>let(o,_,_,_,e,_):=x;exact(o,e)
 |ins C dx fs=>let(_,_,_,e,_):=x;exact(_,e)
 |own y=>exact x
 |xd fs=>let(_,(o,_,_,e,_),_):=x;exact(o,e)
 |room g=>let(_,_,_,e):=x;exact(_,e)
 |rng lo hi=>let(_,_,_,e):=x;exact(_,e)
 |frz ob u=>let(e,_):=x;exact(_,e)
 |tbl ps=>exact(_,(show h.get? a=Z _ from x))
 |met f y=>exact(_,(show h.get? a=Z _ from x))
 |ext φ=>exact x.2.1
def HOk.no(x:HOk P w H h)(e:h.get? a=Y):H a=none:=by
 cases q:H a with
 |none=>rfl
 |some u =>
  let(v,z):=(x a u q).at;rw[e]at z;cases z
def HOk.BX{o:HO}(x:HOk P w H h)(k:∀b u,h.get? b=Z u->h'.get? b=Z u)(hp:h.get? a=Y)(new:dm P w (upd H a o) h' a o):HOk P w (upd H a o) h':=λb u e=>by
 have hn:=x.no hp;by_cases g:b=a
 ·subst g;rw[aC]at e;cases e;exact new
 ·rw[aw g]at e;exact(x b u e).d9 (λc v _ q=>k c v q) (λc q=>by rw[aw (aX q hn)];exact q) λc xs q=>by rw[aw (aX q hn)];exact q
def Un.BX{fs:List J}{o:HO}(k:∀b u,h.get? b=Z u->h'.get? b=Z u)(hp:h.get? a=Y)(hn:H a=Y):Un fs ex H (upd H a o) h h' where
 keep:=λb u q _ _ _=>k b u q
 slot:=λb u q _ _ _=>(u.slots,k b u q)
 free:=λb u q n _=>by rw[aw (λz=>by rw[z,hp]at q;cases q)];exact n
 there:=λb u q _=>(u,k b u q)
 su:=λb xs q=>by rw[aw (aX q hn)];exact q
 pO:=λb u xs q=>by rw[aw (aX q hn)];exact q
 sx:=λb ps q=>(#[],by rw[aw (aX q hn),q];simp)
theorem Inv.BX{X:Cx}{gd:List (J×Obj)}{σ:St}{s:ϋ}{o:HO}{t':Nat}(I:Inv X gd σ H s)(k:∀b u,s.heap.get? b=Z u->h'.get? b=Z u)(hp:s.heap.get? a=Y)(new:dm X.prog X.w (upd H a o) h' a o):
  Inv X gd σ (upd H a o) {s with heap:=h',toks:=t'}:=I.un (Un.BX k hp (I.hok.no hp)) (I.hok.BX k hp new)
def Rj(x:HOk P w H h)(ha:H a=Z (.ext φ))(hd:h.get? d=Y)(k:∀b u,b≠a->h.get? b=Z u->h'.get? b=Z u)
  (V:dm P w (upd (upd H d o1) a o2) h' d o1) (Q:dm P w (upd (upd H d o1) a o2) h' a o2):HOk P w (upd (upd H d o1) a o2) h':=λb u e=>by
 have hn:=x.no hd;have st:∀c v,H c=Z v->v ≠ .ext φ->upd (upd H d o1) a o2 c=Z v:=λc v q nv=>by
  rw[aw (λz=>by rw[z,ha]at q;cases q;exact nv U),aw (aX q hn)];exact q
 by_cases K:b=a
 ·subst K;rw[aC]at e;cases e;exact Q
 ·rw[aw K]at e;by_cases g:b=d
  ·subst g;rw[aC]at e;cases e;exact V
  ·rw[aw g]at e;refine(x b u e).d9 (λc v hc q=>k c v ?_ q) (λc q=>st c _ q λz=>nomatch z) λc xs q=>st c _ q λz=>nomatch z
   obtain z|z:=hc
   ·rw[z];exact K
   ·exact en z ha λz=>nomatch z
def Ri{l:List J}(x:HOk P w H h)(ha:H a=Z (.ext φ))(hd:h.get? d=Y)(k:∀b u,b≠a->h.get? b=Z u->h'.get? b=Z u)(g:∃u,h'.get? a=Z u):Un l ex H (upd (upd H d o1) a o2) h h':=by
 have hn:=x.no hd;have na:∀b,H b=Y->b≠a:=λb n z=>by rw[z,ha]at n;cases n
 have st:∀c v,H c=Z v->v ≠ .ext φ->upd (upd H d o1) a o2 c=Z v:=λc v q nv=>by
  rw[aw (λz=>by rw[z,ha]at q;cases q;exact nv U),aw (aX q hn)];exact q
 refine(λb u q n _ _=>k b u (na b n) q,λb u q n _ _=>(u.slots,k b u (na b n) q),λb u q n _=>?_,λb u q _=>?_,λb xs q=>st b _ q (λz=>nomatch z),λb u xs q=>st b _ q (λz=>nomatch z),λb ps q=>(#[],by rw[st b _ q (λz=>nomatch z)];simp))
 ·rw[aw (na b n),aw (λz=>by rw[z,hd]at q;cases q)];exact n
 ·by_cases K:b=a
  ·rw[K];exact g
  ·exact(u,k b u K q)
end
variable{mA:Str->Option B}{y:V}{u:B}{Q:B->ϋ->Prop}
section
variable{X:Cx}{gd:List (J×Obj)}{σ:St}{H:Hp}{s:ϋ}{a d:J}{fn:List Str}{dx:Option J}{b:Bool}{fs:List (Str×V)}{f:Str}{v:V}{A:Do}{E:B->ϋ->Prop}
def XAt.Wy{h:Ev}(x:XAt a C Y b h):h.Inst a C (λ_=>Y):=by
 let(y,(o,vs,K,e,q,hd,g,_),_):=x;exact(o,e,q,λc z=>(by rw[g]at z;cases z),.inl (hd,λ_=>rfl))
def XAt.Qr{h:Ev}(x:XAt a C (Z d) b h)(ne:d≠a)(n:h.Ns1 d mA):h.Inst a C mA:=by
 let(y,(o,vs,K,e,q,hd,g,_),_):=x;exact(o,e,q,λc z=>(by rw[g]at z;cases z),.inr (d,hd,ne,n))
def FOk(f:Str):Prop:=typeLookup (.type "ValueError") f=pure Y
def cv.ne{h:Ev}(c:cv X.K fn C bm ini)(I:Inv X gd σ H s)(e:H a=Z (.ext φ))(P:∀h,φ h->∃o vs,h.get? a=Z o/\o.data=.fields vs):a≠C:=by
 intro z;let(nm,q,N,bs,sn,sub,ab,col,dd,k0,k1,k2,k3,k5,mN,Q,_):=c.all s.heap I.kIn;let(o,vs,g,V):=P _ (I.hok a _ e).1;rw[z,Q]at g;cases g;cases V
def XAt.rec{h:Ev}(x:XAt a C dx b h):∃o vs,h.get? a=Z o/\o.data=.fields vs:=let(_,(o,vs,_,e,_,_,hd,_),_):=x;(o,vs,e,hd)
def Bf{fs:List (Str×V)}(r:∀g,lR (fs.lookup g) (mA g))(z:RelV y u)(g:Str):lR ((fA f y fs).lookup g) (if g=f then Z u else mA g):=by
 rw[m7];by_cases q:g=f
 ·rw[if_pos q,if_pos q];exact z
 ·rw[if_neg q,if_neg q];exact r g
def vv{fs:List (Str×V)}(wi:PySem.Within mA (fs.map (·.1))):PySem.Within (λg=>if g=f then Z u else mA g) ((fA f y fs).map (·.1)):=λg hg=>by
 by_cases q:g=f
 ·rw[q];exact(kH f y fs).1
 ·refine(kH f y fs).2 g (wi g λz=>hg ?_)
  show(if g=f then Z u else mA g)=Y
  rw[if_neg q];exact z
theorem JU{Q:Unit->ϋ->Prop}(I:Inv X gd σ H s)(e:H a=Z (.ext (XAt a C Y b)))(c:cv X.K fn C bm ini)(hf:f∈fn)(fo:FOk f)(ry:RelV y u)
  (h:∀s' d,H d=Y->d≠a->Inv X gd σ (upd (upd H d (.ext (XD d [(f,y)]))) a (.ext (XAt a C (Z d) b))) s'->Q () s'):wpAny (model X.prog X.w) A (setAttr (.ref a) f u) Q E s:=by
 have hx:XAt a C Y b s.heap:=(I.hok a _ e).1;have ah:=c.ne (h:=s.heap) I e λh x=>x.rec
 let(nm,q,N,bs,sn,sub,ab,col,dd,k0,k1,k2,k3,k5,mN,hC,hN,hS,_,T):=c.all s.heap I.kIn;let(P,g,dr,t,os):=s;have hp:P.get? P.objs.size=none:=Fq (qd _);have mem:∀n∈xS fn,n∈("__init__":Str)::xS fn:=λn hn=>aJ _ hn
 refine t9 (ns:=[]) F.store_ValueError (T.sub mem) (by simp[hf]) (by simp) hC hN (hS _ (by simp)) (hS f (by simp[hf])) fo ah hx.Wy (λh' tk' I' kp same=>?_) (λy hy=>absurd U hy) (by decide)
 let(y0,(o,vs,a0,e0,hc,hd,aq,z0,z1),zb):=hx;let(o1,e1,c1,av,_,_,d1):=same o e0;have d1:=d1 hd;let(o',e',_,_,LQ):=I'
 have:o'=o1:=Option.some.inj (e'.symm.trans e1)
 subst this;have ak:h'.Ns1 P.objs.size (λy=>if y=f then Z u else Y):=by
  obtain⟨z,_⟩|⟨d2,z,_,n2⟩:=LQ
  ·rw[d1]at z;cases z
  ·rw[d1]at z;cases z;exact n2
 have Yk:P.objs.size≠a:=λz=>by rw[<- z,hp]at e0;cases e0
 have V:∀b ob,b≠a->P.get? b=Z ob->h'.get? b=Z ob:=λb ob hb q=>kp b ob hb (λaD dx h1 h2=>by rw[e0]at h1;cases h1;rw[hd]at h2;cases h2) q
 have wi:=vv (f:=f) (y:=y) (u:=u) (fs:=[]) (mA:=λ_=>Y) (λg hg=>absurd U hg)
 have nX:XAt a C (Z P.objs.size) b h':=(y0,(o',vs,a0,e1,c1.trans hc,d1,av.trans aq,z0,z1),zb);have nD:XD P.objs.size [(f,y)] h':=(_,ak,Bf (fs:=[]) (λ_=>True.intro) ry,wi)
 exact h _ P.objs.size (I.hok.no hp) Yk (I.un (Ri I.hok e hp V (_,e1)) (Rj I.hok e hp V nD.ok nX.ok))
theorem JT{Q:Unit->ϋ->Prop}(I:Inv X gd σ H s)(e:H a=Z (.ext (XAt a C (Z d) b)))(ne:d≠a)(ed:H d=Z (.ext (XD d fs)))(c:cv X.K fn C bm ini)(hf:f∈fn)(fo:FOk f)(hl:fs.length<1000)(ry:RelV y u)
  (h:∀s',Inv X gd σ (upd H d (.ext (XD d (fA f y fs)))) s'->Q () s'):wpAny (model X.prog X.w) A (setAttr (.ref a) f u) Q E s:=by
 have hx:XAt a C (Z d) b s.heap:=(I.hok a _ e).1;obtain⟨mA,hn,r,wi⟩:XD d fs s.heap:=(I.hok d _ ed).1;have aq:=c.ne (h:=s.heap) I e λh x=>x.rec
 let(nm,q,N,bs,sn,sub,ab,col,dd,k0,k1,k2,k3,k5,mN,hC,hN,hS,_,T):=c.all s.heap I.kIn;let(hh,g,dr,t,os):=s;have mem:∀n∈xS fn,n∈("__init__":Str)::xS fn:=λn hn=>aJ _ hn
 refine t9 (ns:=fs.map (·.1)) F.store_ValueError (T.sub mem) (by simp[hf]) (by simp) hC hN (hS _ (by simp)) (hS f (by simp[hf])) fo aq (hx.Qr ne hn) (λh' tk' I' kp same=>?_) wi (by rw[gV,Y0];omega)
 let(y0,(o,vs,a0,e0,hc,hd,aG,z0,z1),zb):=hx;let(o1,e1,c1,ah,P,d0,_):=same o e0;have d1:=d0 d hd;clear d0;have oe:o1=o:=by
  let(q1,q2,q3,q4):=o1;let(p1,p2,p3,p4):=o;dsimp only at c1 ah P d1 hd;subst c1 ah P d1 hd;rfl
 subst oe;let(o',e',_,_,LQ):=I'
 have:o'=o1:=Option.some.inj (e'.symm.trans e1)
 subst this;have av:h'.Ns1 d (λy=>if y=f then Z u else mA y):=by
  obtain⟨z,_⟩|⟨d2,z,_,n2⟩:=LQ
  ·rw[d1]at z;cases z
  ·rw[d1]at z;cases z;exact n2
 have ak:∀b ob,b≠d->hh.get? b=Z ob->h'.get? b=Z ob:=λb ob hb q=>by
  by_cases V:b=a
  ·subst V;have q':hh.get? b=Z ob:=q;rw[e0]at q';cases q';exact e1
  ·exact kp b ob V (λaD dx h1 h2=>by rw[e0]at h1;cases h1;rw[hd]at h2;cases h2;exact hb) q
 have nD:XD d (fA f y fs) h':=(_,av,Bf r ry,vv wi);exact h _ (I.write (x:=d) (e:=d) (t':=tk') (by rw[ed];exact True.intro) (.inl U) ak (let(_,(o,_,_,e,_),_):=nD;(o,e)) nD.ok)
theorem Pc{bb:Bool}(I:Inv X gd σ H s)(e:ExH H a C b fs)(c:cv X.K fn C bm ini)(hf:f∈fn)(fo:FOk f)(l:fs.lookup f=Z v)
  (h:∀u s',Inv X gd σ H s'->RelV v u->Q u s'):wpAny (model X.prog X.w) A (getAttr (.ref a) f bb) Q E s:=by
 obtain⟨z,_⟩|⟨d,ne,e,ed⟩:=e
 ·rw[z]at l;cases l
 have hx:XAt a C (Z d) b s.heap:=(I.hok a _ e).1;obtain⟨mA,hn,r,wi⟩:XD d fs s.heap:=(I.hok d _ ed).1;let(nm,q,N,bs,sn,sub,ab,col,dd,k0,k1,k2,k3,k5,mN,hC,hN,V,_,T):=c.all s.heap I.kIn;let(u,P,ru):=lR.some_of (v:=v) (o:=mA f) (by rw[<- l];exact r f)
 have I':=I.tok (s.toks+1);let(hh,g,dr,t,os):=s;have mem:∀n∈xS fn,n∈("__init__":Str)::xS fn:=λn hn=>aJ _ hn
 exact En F.attrBase_ValueError (T.sub mem) (by simp[hf]) (by simp) (by simp) hC hN V fo (hx.Qr ne hn) P (W.handedOut_of (yy ru)) (h u _ I' ru)
end
def Vc(K:BT)(fn:List Str)(ta tv:TE)(f:Str):TS:=λD σ H=>tv σ H λy H1=>ta σ H1 λx g=>∃a C b bm ini,x=.ref a/\cv K fn C bm ini/\f∈fn/\FOk f /\
 ((g a=Z (.ext (XAt a C Y b))/\∀d,g d=Y->d≠a->D.nx σ (upd (upd g d (.ext (XD d [(f,y)]))) a (.ext (XAt a C (Z d) b)))) \/
  ∃d fs,d≠a/\g a=Z (.ext (XAt a C (Z d) b))/\g d=Z (.ext (XD d fs))/\fs.length<1000/\D.nx σ (upd g d (.ext (XD d (fA f y fs)))))
def Jy(K:BT)(fn:List Str)(ta:TE)(f:Str):TE:=λσ H Q=>ta σ H λx H1=>∃a C b bm ini fs v,x=.ref a/\ExH H1 a C b fs/\cv K fn C bm ini/\f∈fn/\FOk f/\fs.lookup f=Z v/\Q v H1
section
variable{X:Cx}{o e value:EQ}{f:Str}{pos pos':Pos}{ta tv:TE}{fn:List Str}
def N6(ha:PE X o ta)(hv:PE X value tv)(hs:‹swapsWith value (Z (.Attribute o f pos')) pos.line X.env=pure false›):PS X (.Assign [.Attribute o f pos'] value pos) (Vc X.K fn ta tv f):=by
 intro gd s σ H D I h;refine plainObj_wpAny_Assign_Attribute (thn (hv gd s σ H _ I h) λu s1 (y,H1,I1,ry,q)=>thn (ha gd s1 σ H1 _ I1 q) λov s2 P=>?_) hs
 let(x,H2,I2,rx,a,C,b,bm,ini,ex,c,hf,fo,g):=P;subst ex;obtain rfl:ov=B.ref a:=rx;obtain⟨Q,g⟩|⟨d,fs,ne,Q,e1,hl,g⟩:=g
 ·exact JU I2 Q c hf fo ry λs3 d z ne V=>(σ,_,V,g d z ne)
 ·exact JT I2 Q ne e1 c hf fo hl ry λs3 V=>(σ,_,V,g)
def Oz(he:PE X e ta)(P:‹attributeBase e f X.env (eval e X.env)=eval e X.env›):PE X (.Attribute e f pos) (Jy X.K fn ta f):=by
 intro gd s σ H Q I h;refine GL P (thn (he gd s σ H _ I h) λu s1 g=>?_)
 let(x,H1,I1,z,a,C,b,bm,ini,fs,v,ex,V,c,hf,fo,l,q):=g;subst ex;obtain rfl:u=B.ref a:=z;exact Pc I1 V c hf fo l λu' s2 I2 ru=>(v,H1,I2,ru,q)
end
inductive A3(C:J)(fsN:List Str)(vs:List V)(H:Hp)(Q:VK)(_:XK):Prop
 |mk(a ys:_)(h1:vs=.ref a::ys)(h2:ys.length=fsN.length)(h3:H a=Z (.ext (XAt a C Y O)))(h4:∀d,H d=Y->d≠a->Q .non (upd (upd H d (.ext (XD d (fsN.zip ys)))) a (.ext (XAt a C (Z d) O))))
def Dv(C:J)(fsN:List Str)(t:TA):TE:=λσ H Q=>t σ H λvs H1=>vs.length=fsN.length/\vs.length<=1000/\∀a d,H1 a=Y->H1 d=Y->d≠a->Q (.ref a) (upd (upd H1 d (.ext (XD d (fsN.zip vs)))) a (.ext (XAt a C (Z d) O)))
variable{h':Ev}{a:J}{d:J}{us:List B}
section
variable{X:Cx}{gd:List (J×Obj)}{σ:St}{H:Hp}{s:ϋ}{f:J}{k:Nat}{fd:Ch}{ps fn fsN:List Str}{x:Str}{p pos:Pos}{e:EQ}{es:List EQ}{t:TA}
def OW{args:List B}{h:Ev}{e:J}(m:Za h h' e (.ref C) args):XAt e C Y O h':=by
 let(t,he,_,_):=m.there;exact(.none,(_,_,_,he,U,U,U,U,U),λ_=>rfl)
def Xs{o:HO}(ne:d≠a):upd (upd (upd H a o) d o1) a o2=upd (upd H d o1) a o2:=by
 funext b
 by_cases h1:b=a
 ·rw[h1,aC,aC]
 ·rw[aw h1,aw h1];by_cases h2:b=d
  ·rw[h2,aC,aC]
  ·rw[aw h2,aw h2,aw h1]
theorem Hz{Q:VK}{vs:List V}(M:cv X.K fn C bm (Z f))(aG:W.isFn X.K (.ref f)=O)(F:aS X.prog X.w X.K X.mg X.base CX0 k f fd ps (A3 C fsN))(hr:bS (k+1) X.A)(hb:Binds X.K fd ps [])
  (I:Inv X gd σ H s) (r:Vals vs us) (hl:vs.length=fsN.length) (hz:vs.length<=1000) (h:∀a d,H a=Y->H d=Y->d≠a->Q (.ref a) (upd (upd H d (.ext (XD d (fsN.zip vs)))) a (.ext (XAt a C (Z d) O)))):
  XV X (call (.ref C) us) (EP X gd σ Q) X.xe s:=by
 let(nm,q,N,bs,sn,sub,ab,col,dd,k0,k1,k2,k3,k5,mN,hC,hN,hS,hi,T):=M.all s.heap I.kIn;let(oI,av,aV):=kf.mp (show(X.K.lookup f).map (·.cls)=Z (.type "function")from beq_iff_eq.mp aG);have aL:=I.kIn f oI av;have a0:us.length<=1000:=by rw[<- r.length];exact hz
 have mk:∀h' e,Za s.heap h' e (.ref C) us->Inv X gd σ (upd H e (.ext (XAt e C Y O))) {s with heap:=h'}:=λh' e m=>I.BX (t':=s.toks) m.keeps m.new (OW m).ok
 have hn:∀h' e,Za s.heap h' e (.ref C) us->H e=none:=λh' e m=>I.hok.no m.new
 have aq:=hr.make C us [];have e1:∀h' e,Za s.heap h' e (.ref C) us->CW X.prog X.w X.K X.mg X.base (X.A.under (.builtin "type.__call__" (.ref C::us,[]))) X.stack {s with heap:=h'} (upd H e (.ext (XAt e C Y O))):=λh' e m=>(mk h' e m).L9.make C us []
 let(hh,g,dr,tk,os):=s;refine ES PySem.F.excBase_ValueError (dM.tail (by simp) T) hC hN hi aL aV (λh' e m=>?_) (by rw[Y0];omega)
 have ah:A3 C fsN (.ref e::vs) (upd H e (.ext (XAt e C Y O))) (λv H2=>v=.non/\Q (.ref e) H2) E0:=(e,vs,U,hl,aC,λd z ne=>(U,by
  rw[Xs ne];have z':H d=none:=by rw[aw ne]at z;exact z
  exact h e d (hn h' e m) z' ne))
 have r2:Vals (V.ref e::vs) (B.ref e::us):=.cons U r;have aD:(B.ref e::us ++ []).length=ps.length:=by
  rw[qp,<- r2.length];exact F.len _ _ _ _ ah
 have ak:=hb (h',g,dr,tk,os) (B.ref e::us) (mk h' e m).kIn aD;rw[qp]at ak;refine wpAny_call (codeAny_mono (F.run _ X.stack _ _ (B.ref e::us,[]) (B.ref e::us) _ _ E0 aq (e1 h' e m) ak r2 ah) λr s' P=>?_)
 cases r with
 |error e=>exact False.elim P
 |ok fl =>
  cases fl with
  |ret u =>
   let(v,H',I3,rv,ev,q3):=(mk h' e m).after P;subst ev;exact(rv,(V.ref e,H',I3,U,q3))
  |next=>exact False.elim P
  |brk=>exact False.elim P
  |cont=>exact False.elim P
theorem K6(M:cv X.K fn C bm (Z f))(z:W.isFn X.K (.ref f)=O)(kp:W.keepIn X.K (.ref C)=O)(F:aS X.prog X.w X.K X.mg X.base CX0 k f fd ps (A3 C fsN))(hr:bS (k+1) X.A)(hg:Gl X x)(hm:X.mg x=Z (.ref C))(hb:Binds X.K fd ps [])
  (ha:PA X (e::es) t) (P:AS x:=by decide) (he:‹AC X e es›) (g:‹AM X pos es›):
  PE X (.Call (.Name x p) (e::es) [] pos) (Dv C fsN t):=by
 intro gd s σ H Q I h;refine Je (nV I hg hm ?_ P);refine W.callWith_K (h₀:=X.base) I.ok.mod.kin kp (thn (ha pos gd s σ H _ I h) λus s1 (vs,H1,V,r,hl,hz,q)=>(V.kIn,?_)) he g
 exact Hz M z F hr hb V r hl hz q
end
section
variable{X:Cx}{gd:List (J×Obj)}{σ:St}{H:Hp}{s:ϋ}{C':J}{fn:List Str}{bm':List B}{wx:Option J}{fs:List (Str×V)}{b:Bool}{A:Do}{E:B->ϋ->Prop}
def Iz:typeLookup (.type "ValueError") "__class__"=pure (Z (.builtin "object.__class__")):=by rw[typeLookup_type,builtinLookup_eq_fast];kernel_rfl
theorem B6{K:BT}(c:cv K fn C bm ini):W.KitX K (.ref a) (.ref C) (λh=>∃o,h.get? a=Z o/\o.cls=.ref C) where
 ty:=λM h X (o,e,V)=>by
  intro A' Q' E' s' k q;unfold typeOf;refine dO (wpAny_loadPart (k _ _ e) (u7 ?_))
  first
   | (rw[V];exact q)
   | (show Q' o.cls s';rw[V];exact q)
 it:=λM h X _=>by
  let(nm,q,N,bs,sn,sub,ab,col,dd,k0,k1,k2,k3,k5,mN,P,_):=c.all h X;intro A' Q' E' s' k q;unfold isType loadHead;exact dO (wpAny_loadPart (k _ _ P) (u7 q))
 ne:=λh tp dd its n sl X ah=>by
  let(nm,q,N,bs,sn,sub,ab,col,dd',k0,k1,k2,k3,k5,mN,P,_):=c.all h X;refine E3.mpr λq=>?_
  have e:C=tp:=B.ref.inj (beq_iff_eq.mp q);subst e;have z:B.type "type"=B.type "tuple":=congrArg Obj.cls (Option.some.inj (P.symm.trans ah));exact absurd z (by decide)
 ca:=λ{prog w A E Q s} X (o,e,V) hq=>by
  let(nm,q,N,bs,sn,sub,ab,col,dd,k0,k1,k2,k3,k5,mN,P,hN,hS,hi,T):=c.all s.heap X;let(hh,g,dr,tk,os):=s;have mem:∀n∈xS fn,n∈("__init__":Str)::xS fn:=λn hn=>aJ _ hn
  exact Cw Iz (by decide) (by simp) (by simp) (by simp) F.attrBase_ValueError (T.sub mem) P hN hS e V hq
theorem Gm{K:BT}(c:cv K fn C bm ini)(q:cv K fn C' bm' wx):W.kitOne K (.ref C) (.ref C')=Z ((B.ref C::bm).contains (.ref C')):=by
 unfold W.kitOne;let(cd,h1,h2):=c.cl;let(P,g,_):=q.cl
 split
 ·rename_i z;rw[beq_iff_eq.mp z];simp
 ·unfold W.kitCls W.subIn W.mroIn;simp[h1,g,q.ty,h2]
theorem Lz{K:BT}{T:String}(c:cv K fn C bm ini)(hT:W.kitMeta T=O):W.kitOne K (.ref C) (.type T)=Z (bm.contains (.type T)):=by
 unfold W.kitOne;let(cd,h1,h2):=c.cl;rw[if_neg (by intro z;exact nomatch(beq_iff_eq.mp z))]
 unfold W.kitCls W.subIn W.mroIn;simp only[hT,if_true,h1,Option.bind_some,h2,List.isEmpty_cons,Bool.false_eq_true,if_false,AH];rfl
theorem ExH.cls{h:Ev}{P:Db}{w:Da}(e:ExH H a C b fs)(ok:HOk P w H h):∃o,h.get? a=Z o/\o.cls=.ref C:=by
 have go:∀dx,H a=Z (.ext (XAt a C dx b))->∃o,h.get? a=Z o/\o.cls=.ref C:=λdx e=>by
  let(y,(o,vs,z,q,g,_),_):=(ok a _ e).1;exact(o,q,g)
 obtain⟨_,e⟩|⟨d,_,e,_⟩:=e
 ·exact go _ e
 ·exact go _ e
theorem TV{c:B}{r:Bool}(I:Inv X gd σ H s)(e:ExH H a C b fs)(q:cv X.K fn C bm ini)(g:W.kitOne X.K (.ref C) c=Z r)(h:∀tk,Q (.bool r) {s with toks:=tk}):wpAny (model X.prog X.w) A (call (.builtin "isinstance") [.ref a,c]) Q E s :=
 W.kia_one (B6 q) I.kIn (e.cls I.hok) g (λz=>nomatch z) h
end
end L2
namespace PySem
open Sem (wp)
section
variable{M:Model}{A:Do}{E:B->ϋ->Prop}{env:Env}
variable{nm q nm' q':Str}{C N C' N':J}{bs bm bs' bm':List B}{pM WQ:Bool}{sn sn':List Str}{sub U9:List B}{ab ab':Bool}{col W2:Option Bool}{dd dd':Option J}{k0 k1 k2 k3 k5 j0 j1 j2 j3 j5:Option B}{newId S5:String}
def RN{s:ϋ}{x:Sem B}{Q:Flow->ϋ->Prop}(hh:A.handled=Y)
  (h:wpAny M A x (λv z=>∃e K C nm q N bs bm pM sn sub ab col dd k0 k1 k2 k3 k5 newId,v=.ref e/\z.heap.get? C=Z (excClassObj nm q C N bs bm pM sn sub ab col dd k0 k1 k2 k3 k5 newId)/\bm.contains (.type "BaseException")=O /\
   z.heap.get? e=Z K/\K.cls=.ref C/\(∃vs,K.data=.fields vs/\vs[1]?=Z .none)/\E (.ref e) z) E s):wpAny M A (raiseStmt env (Z x) Y) Q E s:=by
 unfold raiseStmt;refine dO (E5 h (λv z P=>?_) λ_ _ x=>x)
 let(e,K,C,nm,q,N,bs,bm,pM,sn,sub,ab,col,dd,k0,k1,k2,k3,k5,newId,U,hC,hb,he,Cg,(vs,hd,h1),hE):=P;have V:(B.ref C::bm).contains (.type "BaseException")=true:=by rw[AH,hb,Zm]
 let(hp,g,d,tk,os):=z;let(c0,d0,da,sl):=K;dsimp only at Cg hd;subst Cg hd
 repeat (first|with_reducible refine wpAny_loadPart_at he ?_|with_reducible refine wpAny_loadPart_at hC ?_|(with_reducible refine wpAny_isSubtype_exc hC ?_;rw[V])|wp_step)
 rw[h1]
 repeat (first|with_reducible refine wpAny_raiseNew_none hh hE|wp_step)
def S9{h:Ev}{g:Array aa0}{d:Drawn}{t:Nat}{os:OsState}{e:J}{oe:Obj}{Q:Bool->ϋ->Prop}
  (hC:h.get? C=Z (excClassObj nm q C N bs bm pM sn sub ab col dd k0 k1 k2 k3 k5 newId)) (z:h.get? C'=Z (excClassObj nm' q' C' N' bs' bm' WQ sn' U9 ab' W2 dd' j0 j1 j2 j3 j5 S5)) (he:h.get? e=Z oe) (Cg:oe.cls=.ref C)
  (hb:bm'.contains (.type "BaseException")=O) (P:Q ((B.ref C::bm).contains (.ref C')) (h,g,d,t,os)):wpAny M A (excMatches (.ref e) (.ref C')) Q E (h,g,d,t,os):=by
 have V:(B.ref C'::bm').contains (.type "BaseException")=true:=by rw[AH,hb,Zm]
 have f:=tc_notTuple;unfold excMatches
 repeat (first|(with_reducible refine wpAny_loadPart_at he ?_;rw[Cg])|with_reducible refine wpAny_loadPart_at z ?_|(with_reducible refine wpAny_isSubtype_exc z ?_;rw[V])|wp_step)
 all_goals(cases K:(B.ref C::bm).contains (.ref C') <;>(rw[K]at P;first|exact wpAny_isSubtype_exc hC (by rw[K];exact P)|(refine wpAny_isSubtype_exc hC ?_;rw[K];repeat (first|exact P|wp_step))))
end
end PySem
namespace L2
open PySem PySem.Spec PyProof.Rows
def CX1(P:Db)(w:Da):CXT:=λouter H s E e s'=>∃a C dx T H',e=.ref a/\s'.os=s.os/\AllBare s'.gens/\Un (frs outer) [] H H' s.heap s'.heap/\HOk P w H' s'.heap /\
 H' a=Z (.ext (XAt a C dx ϊ))/\jU s'.heap a (.ref C) dx T .none/\H' T=Y/\s.heap.get? T=Y/\E (.ref C) (Z a) H'
variable{φ:Ev->Prop}
section
variable{P:Db}{w:Da}{H₀ H H':Hp}{h₀ h h':Ev}{fs fr ex:List J}{a C T:J}{dx:Option J}{fl:B}
def Un.qX(u:Un fs [] H₀ H h₀ h)(k:gI fr ex h h')(hex:∀b∈ex,(∃φ,H b=Z (.ext φ))\/h₀.get? b=Y)(Q:∀b∈fr,b∈fs\/h₀.get? b=Y)(hH:∀b,H' b=H b\/∃φ K,H b=Z (.ext φ)/\H' b=Z (.ext K)):Un fs [] H₀ H' h₀ h':=by
 have nx:∀b o,h₀.get? b=Z o->H b=Y->b ∉ ex:=λb o e n z=>by
  obtain⟨φ,y⟩|y:=hex b z
  ·rw[n]at y;cases y
  ·rw[e]at y;cases y
 have st:∀b o,H b=Z o->(∀φ,o ≠ .ext φ)->H' b=Z o:=λb o e n=>by
  obtain z |⟨φ,K,z,_⟩:=hH b
  ·rw[z];exact e
  ·rw[e]at z;cases z;exact absurd U (n φ)
 refine(λb o e n q hx=>?_,λb o e n q hx=>?_,λb o e n hx=>?_,λb o e hx=>?_,λb xs e=>st b _ (u.su b xs e) (λ_ z=>nomatch z),λb o xs e=>st b _ (u.pO b o xs e) (λ_ z=>nomatch z),λb ps e=>?_)
 ·refine k.keep b o (u.keep b o e n q hx) (λz=>?_) (nx b o e (u.free b o e n hx))
  obtain y|y:=Q b z
  ·exact q y
  ·rw[e]at y;cases y
 ·let(sl,g):=u.slot b o e n q hx;let(P,e2):=k.slot b _ g (nx b o e (u.free b o e n hx));exact(P,e2)
 ·have V:=u.free b o e n hx;obtain z |⟨φ,K,z,_⟩:=hH b
  ·rw[z];exact V
  ·rw[V]at z;cases z
 ·let(o',g):=u.there b o e hx;exact k.there b o' g
 ·let(more,g):=u.sx b ps e;exact(more,st b _ g (λ_ z=>nomatch z))
def HOk.qX(ok:HOk P w H h)(k:gI fr ex h h')(g:∀b∈fr,H b=Y)(hex:∀b∈ex,b=a\/H b=Y)(ha:H a=Z (.ext φ))(Q:∀b,b≠a->H' b=H b)(new:∀o,H' a=Z o->dm P w H' h' a o)
  (ah:∃V,H' a=Z (.ext V)):HOk P w H' h':=λc o e=>by
 by_cases K:c=a
 ·subst K;exact new o e
 ·rw[Q c K]at e;have st:∀b v,H b=Z v->(∀φ,v ≠ .ext φ)->H' b=Z v:=λb v q n=>by
   rw[Q b (λz=>by rw[z,ha]at q;cases q;exact n φ U)];exact q
  have go:∀b u v,H b=Z v->b≠a->h.get? b=Z u->h'.get? b=Z u:=λb u v q na r=>k.keep b u r (λz=>by rw[g b z]at q;cases q) λz=>by
   obtain y|y:=hex b z
   ·exact na y
   ·rw[y]at q;cases q
  refine(ok c o e).d9 (λb u hb r=>?_) (λb q=>st b _ q (λ_ z=>nomatch z)) λb xs q=>st b _ q (λ_ z=>nomatch z)
  obtain y|y:=hb
  ·rw[y]at r ⊢;exact go c u o e K r
  ·exact go b u _ y (en y ha λz=>nomatch z) r
def _root_.PySem.jU.at(x:jU h a (.ref C) dx T fl):XAt a C dx ϊ h:=(_,x.2.1,λz=>nomatch z)
end
variable{P:Db}{mg:Str->Option B}{base:Ev}{N:List Str}{qual:Str}{scope:Scope}{A:Do}{outer:List Env}{H₀:Hp}{e:EQ}{te:TE}
section
variable{X:Cx}{gd:List (J×Obj)}{σ:St}{H:Hp}{s:ϋ}{a C T:J}{dx:Option J}{E:XK}{fn:List Str}
def rV(X:Cx)(Es:St->XK):Prop:=∀(gd:List (J×Obj))(σ:St)(H:Hp)(s:ϋ)(a C:J)(dx:Option J),Inv X gd σ H s->H a=Z (.ext (XAt a C dx O))->Es σ (.ref C) (Z a) (upd H a (.ext (XAt a C dx ϊ)))->X.xe (.ref a) s
def gZ(CX:CXT)(X:Cx)(Es:St->XK):Prop:=∀(gd:List (J×Obj))(σ:St)(H:Hp)(s:ϋ)(e:B)(s':ϋ),Inv X gd σ H s->CX X.stack H s (Es σ) e s'->X.xe e s'
def Jo{q:Ev->Prop}(e:H a=Z (.ext φ))(b:J):upd H a (.ext q) b=H b\/∃φ g,H b=Z (.ext φ)/\upd H a (.ext q) b=Z (.ext g):=by
 by_cases z:b=a
 ·rw[z];exact .inr (φ,q,e,aC)
 ·exact .inl (aw z)
theorem vK{w:Da}{K:BT}{f:J}{cd:B}{s₀:ϋ}:rV (pQ (CX1 P w) P w K mg base N qual scope f cd A outer s₀ H₀ E) (λ_=>E):=by
 intro gd σ H s a C dx I e hE;obtain⟨y,hx,V⟩:XAt a C dx O s.heap:=(I.hok a _ e).1;rw[V rfl]at hx;refine wk (A:=A.deeper (envOfC qual scope s₀.heap.objs.size f cd)) (env:=envOfC qual scope s₀.heap.objs.size f cd) (outer:=outer) (base:=base) I.ok.frames I.stack U hx λh' T sz al Q=>?_
 have lt:∀b o,s₀.heap.get? b=Z o->b<s₀.heap.objs.size:=λb o q=>uj q
 refine(a,C,dx,T,upd H a (.ext (XAt a C dx ϊ)),U,I.os,I.bare,?_,?_,aC,al,?_,Fq (u6 I.sz sz),hE)
 ·refine Un.qX (fr:=frs (envOfC qual scope s₀.heap.objs.size f cd::outer)) I.base Q (λb g=>?_) (λb g=>?_) (Jo e)
  ·rw[aB.mp g];exact .inl (_,e)
  ·obtain z|z:=fH.mp (I.sD b g)
   ·exact .inr (by rw[z];exact Fq (qd _))
   ·exact .inl z
 ·exact HOk.qX (a:=a) I.hok Q (λb g=>I.nK b g) (λb g=>.inl (aB.mp g)) e (λb g=>aw g) (λo q=>by rw[aC]at q;cases q;exact al.at.ok) (_,aC)
 ·rw[aw al.1];exact I.hok.fresh sz
theorem vV{w:Da}{K:BT}{f:J}{cd:B}{s₀:ϋ}:gZ (CX1 P w) (pQ (CX1 P w) P w K mg base N qual scope f cd A outer s₀ H₀ E) (λ_=>E):=by
 intro gd σ H s e s' I hx;let(a,C,dx,T,H',U,ak,hg,un,hok,V,al,hT,aq,hE):=hx;have g:=I.CA (ch:=[]) ak un hok hg (λb z=>nomatch z)
 refine xM (A:=A.deeper (envOfC qual scope s₀.heap.objs.size f cd)) (env:=envOfC qual scope s₀.heap.objs.size f cd) (outer:=outer) (base:=base) g.ok.frames g.stack U al λh' T' sz ah kx=>?_
 have av:s₀.heap.get? T=none:=by
  cases q:s₀.heap.get? T with
  |none=>rfl
  |some o =>
   let(o',z):=I.base.there T o q (λz=>nomatch z)
   rw[aq]at z;cases z
 refine(a,C,dx,T',H',U,g.os,g.bare,?_,?_,V,ah,g.hok.fresh sz,Fq (u6 g.sz sz),hE)
 ·refine Un.qX (fr:=frs (envOfC qual scope s₀.heap.objs.size f cd::outer)) g.base kx (λb Q=>?_) (λb Q=>?_) (λb=>.inl U)
  ·obtain z|z:=fH.mp Q
   ·rw[z];exact .inl (_,V)
   ·rw[aB.mp z];exact .inr av
  ·obtain z|z:=fH.mp (g.sD b Q)
   ·exact .inr (by rw[z];exact Fq (qd _))
   ·exact .inl z
 ·refine HOk.qX (a:=a) g.hok kx (λb Q=>g.nK b Q) (λb Q=>?_) V (λb Q=>rfl) (λo q=>by rw[V]at q;cases q;exact ah.at.ok) (_,V)
  obtain z|z:=fH.mp Q
  ·exact .inl z
  ·rw[aB.mp z];exact .inr hT
def Dt(K:BT)(fn:List Str)(Es:St->XK)(te:TE):TS:=λ_ σ H=>te σ H λv H1=>∃a C bm ini dx,v=.ref a/\cv K fn C bm ini/\H1 a=Z (.ext (XAt a C dx O))/\Es σ (.ref C) (Z a) (upd H1 a (.ext (XAt a C dx ϊ)))
def KO{Es:St->XK}(hc:X.calm=O)(hx:rV X Es)(he:PE X e te):PS X (.Raise (Z e) Y pos) (Dt X.K fn Es te):=by
 intro gd s σ H D I h;rw[arm_exec_Raise];refine dO (wpAny_standAt (RN (I.ok.hd hc) (dO (thn (he gd s σ H _ I h) λv s1 Q=>?_))))
 let(x,H1,V,rx,a,C,bm,ini,dx,ex,c,ea,q):=Q;refine dO (wpAny_standAt (u7 ?_));subst ex;obtain rfl:v=B.ref a:=rx;let(nm,q',N,bs,sn,sub,ab,col,dd,k0,k1,k2,k3,k5,mN,hC,hN,hS,hi,T):=c.all s1.heap V.kIn;let(y,(o,vs,a0,e1,P,ah,z,_,hy),g):=(V.hok a _ ea).1;rw[g rfl]at hy;exact(a,o,C,nm,q',N,bs,bm,O,sn,sub,ab,col,dd,k0,k1,k2,k3,k5,_,U,hC,T.hasType (by decide),e1,P,(vs,z,hy),hx gd σ H1 s1 a C dx V ea q)
end
abbrev Cx.inX(X:Cx)(a:J):Cx:={X with A:=X.A.mark (Z (.ref a)),calm:=ϊ,xe:=λ_ _=>False}
theorem Cx.Ok.inX{X:Cx}(ok:X.Ok)(a:J):(X.inX a).Ok :=
 (ok.mod,ok.kind,ok.glob,ok.blt,ok.above,ok.inj,ok.has,ok.cab,(λz=>nomatch z),ok.frames,ok.stk,ok.exf,ok.bs,ok.bsz,ok.Ee,ok.IF,ok.oo,ok.frf)
variable{M:Model}{E:B->ϋ->Prop}{i:Nat}{x:Str}
section
variable{X:Cx}{gd:List (J×Obj)}{σ:St}{H:Hp}{s:ϋ}{a:J}
theorem Inv.inX(I:Inv X gd σ H s)(a:J):Inv (X.inX a) gd σ H s:=(I.ok.inX a,I.os,I.bare,I.base,I.loc,I.cell,I.free,I.iL,I.pin,I.hok,I.len)
def Inv.D8(ok:X.Ok)(I:Inv (X.inX a) gd σ H s):Inv X gd σ H s:=(ok,I.os,I.bare,I.base,I.loc,I.cell,I.free,I.iL,I.pin,I.hok,I.len)
theorem SP.D8(ok:X.Ok){D:Ends}{f:Flow}{s':ϋ}(h:SP (X.inX a) gd D f s'):SP X gd D f s':=by
 cases f with
 |next=>let(g,H',I,q):=h;exact(g,H',I.D8 ok,q)
 |brk=>let(g,H',I,q):=h;exact(g,H',I.D8 ok,q)
 |cont=>let(g,H',I,q):=h;exact(g,H',I.D8 ok,q)
 |ret u=>let(v,g,H',I,r,q):=h;exact(v,g,H',I.D8 ok,r,q)
abbrev Cx.uM(X:Cx)(pn:List (J×Obj))(xe:B->ϋ->Prop):Cx:={X with pn:=pn,xe:=xe}
theorem Cx.Ok.uM{X:Cx}(ok:X.Ok)(pn:List (J×Obj))(xe:B->ϋ->Prop):(X.uM pn xe).Ok :=
 (ok.mod,ok.kind,ok.glob,ok.blt,ok.above,ok.inj,ok.has,ok.cab,ok.hd,ok.frames,ok.stk,ok.exf,ok.bs,ok.bsz,ok.Ee,ok.IF,ok.oo,ok.frf)
theorem Inv.uM(I:Inv X gd σ H s)(xe:B->ϋ->Prop):Inv (X.uM (X.pn++gd) xe) [] σ H s:=(I.ok.uM _ _,I.os,I.bare,I.base,I.loc,I.cell,I.free,I.iL,λp hp=>I.pin p (by rw[qp]at hp;exact hp),I.hok,I.len)
def Inv.tZ{xe:B->ϋ->Prop}{pins':List (J×Obj)}(ok:X.Ok)(I:Inv (X.uM (X.pn++gd) xe) pins' σ H s):Inv X gd σ H s:=(ok,I.os,I.bare,I.base,I.loc,I.cell,I.free,I.iL,λp hp=>I.pin p (ot _ hp),I.hok,I.len)
theorem SP.tZ{xe:B->ϋ->Prop}(ok:X.Ok){D:Ends}{f:Flow}{s':ϋ}(h:SP (X.uM (X.pn++gd) xe) [] D f s'):SP X gd D f s':=by
 cases f with
 |next=>let(g,H',I,q):=h;exact(g,H',I.tZ ok,q)
 |brk=>let(g,H',I,q):=h;exact(g,H',I.tZ ok,q)
 |cont=>let(g,H',I,q):=h;exact(g,H',I.tZ ok,q)
 |ret u=>let(v,g,H',I,r,q):=h;exact(v,g,H',I.tZ ok,r,q)
structure Tb(X:Cx)(gd:List (J×Obj))(H:Hp)(T:J):Prop where
 n:H T=Y
 l:T≠X.env.locals
 z:X.s₀.heap.objs.size<=T
 c:∀x c,X.env.cells.lookup x=Z c->c≠T
 p:∀p∈X.pn++gd,p.1≠T
def Tb.of{T:J}(I:Inv X gd σ H s)(h:s.heap.objs.size<=T):Tb X gd H T where
 n:=I.hok.fresh h
 l:=ZA (wh I.lt h)
 z:=u6 I.sz h
 c:=λx c e z=>by
  let(v,o,ho,_):=I.cell x c e;rw[z]at ho;exact absurd (wh (uj ho) h) (UP _)
 p:=λp hp z=>by
  have e:=(I.pin p hp).1;rw[z]at e;exact absurd (wh (uj e) h) (UP _)
def nT{Q:Unit->ϋ->Prop}(I:Inv X gd σ H s)(hN:X.N.Nodup)(hi:X.N[i]?=Z x)(hk:BC X x)
  (h:∀s',Inv X gd (σ.set i Y) H s'->Q () s'):wpAny M A (do bindName X.env x .none;unbindBehindTheSuite X.env x pos) Q E s:=by
 let(m,hn,hl):=id I.loc;have Cg:(X.env.scope.kind == .class ||(X.env.scope.kind == .module&&X.env.locals != X.env.globals))=false:=by rw[I.ok.kind];rfl
 have cne:=I.cne;refine wpAny_nameGoes_keeps hk hn Cg λh' v P hs=>?_
 have sb:∀b o,X.s₀.heap.get? b=Z o->h'.get? b=s.heap.get? b:=λb o e=>hs.2 b (AG (wh (uj e) I.ok.above))
 let(oL,_,_,ah,_):=id hn;refine h _ (I.ok,I.os,I.bare,(λb o e n hb hx=>(sb b o e).trans (I.base.keep b o e n hb hx),λb o e n hb hx=>?_,I.base.free,λb o e hx=>?_,I.base.su,I.base.pO,I.base.sx),(_,P,λj y v' K g e3=>?_),λy c e=>?_,I.free,I.iL,λp hp=>?_,λb ob e=>?_,by simpa using I.len)
 ·let(sl,K):=I.base.slot b o e n hb hx;exact(sl,(sb b o e).trans K)
 ·let(o',K):=I.base.there b o e hx;exact(o',(sb b o e).trans K)
 ·by_cases V:j=i
  ·subst V;rw[List.getElem?_set]at g
   split at g
   ·split at g <;> cases g
   ·rename_i z;exact absurd U z
  ·rw[ui (Ne.symm V)]at g;let(u',r',q):=hl j y v' K g e3;refine(u',r',?_);obtain⟨k,e⟩|⟨k,c,e,z⟩:=q
   ·refine .inl (k,?_)
    have:y≠x:=λe=>V (v8 hN K (e▸hi))
    simp[this,e]
   ·exact .inr (k,c,e,z.sameBut hs (cne y c e))
 ·let(w',z):=I.cell y c e;exact(w',z.sameBut hs (cne y c e))
 ·let(e,n,ne,nf,d):=I.pin p hp;exact((hs.2 p.1 ne).trans e,n,ne,nf,d)
 ·refine(I.hok b ob e).d9 (λc w' hc q=>(hs.2 c ?_).trans q) (λ_ q=>q) λ_ _ q=>q
  intro z;obtain y|y:=hc
  ·rw[<- y,z,I.free]at e;cases e
  ·rw[z,I.free]at y;cases y
end
abbrev TH:=J->J->TS
def PH(X:Cx)(hs:List ExceptHandler)(th:TH):Prop:=∀(gd:List (J×Obj))(s:ϋ)(σ:St)(H:Hp)(D:Ends)(a C T:J)(dx:Option J),Inv X gd σ H s->H a=Z (.ext (XAt a C dx ϊ))->jU s.heap a (.ref C) dx T .none->Tb X gd H T ->
 th a C D σ H->XV X (handleBy (.ref a) X.env hs) (SP X gd D) X.xe s
def LR:TH:=λ_ _ _ _ _=>False
def WW(K:BT)(fn:List Str)(C':J)(ts:TS)(tr:TH):TH:=λa C D σ H=>∃bm ini,cv K fn C bm ini/\((B.ref C::bm).contains (.ref C')=O->ts D σ H)/\((B.ref C::bm).contains (.ref C')=ϊ->tr a C D σ H)
def Ends.go(D:Ends)(i:Nat):Ends:={nx:=λσ H=>D.nx (σ.set i Y) H,rt:=D.rt,bk:=λσ H=>D.bk (σ.set i Y) H,ct:=λσ H=>D.ct (σ.set i Y) H}
def hAs(K:BT)(fn:List Str)(C':J)(i:Nat)(ts:TS)(tr:TH):TH:=λa C D σ H=>∃bm ini,cv K fn C bm ini/\((B.ref C::bm).contains (.ref C')=O->ts (D.go i) (σ.set i (Z (.ref a))) H)/\((B.ref C::bm).contains (.ref C')=ϊ->tr a C D σ H)
variable{hs:List ExceptHandler}{gd:List (J×Obj)}{s:ϋ}{H:Hp}{a:J}{C:J}{dx:Option J}{bm:List B}{ini:Option J}{R:Result->ϋ->Prop}{body:List Fk}
section
variable{X:Cx}{fn:List Str}{C':J}{bm':List B}{wx:Option J}{n:Str}{p pos:Pos}{b0:Fk}{p8:List Fk}{rest:List ExceptHandler}{ts:TS}{tr:TH}
def K3:PH X hs LR:=λ_ _ _ _ _ _ _ _ _ _ _ _ _ h=>h.elim
def FY{σ:St}(hg:Gl X x)(hm:X.mg x=Z (.ref C'))(c':cv X.K fn C' bm' wx)(z:AS x)
  (I:Inv X gd σ H s) (ea:H a=Z (.ext (XAt a C dx ϊ))) (c:cv X.K fn C bm ini) (h:R (.ok (if(B.ref C::bm).contains (.ref C')then .brk else .next)) s):
  codeAny (model X.prog X.w) (X.A.mark (Z (.ref a))) (.handlers (.ref a) [.ExceptHandler (Z (.Name x p)) Y [] pos] X.env) R s:=by
 refine codeAny_handlers_test (nV (X:=X.inX a) (I.inX a) hg hm ?_ z);let(nm,q,N,bs,sn,sub,ab,col,dd,k0,k1,k2,k3,k5,mN,hC,_):=c.all s.heap I.kIn;let(nm',q',N',bs',sn',U9,ab',W2,dd',j0,j1,j2,j3,j5,V,Q,_,_,_,T'):=c'.all s.heap I.kIn;let(y,(o,vs,a0,e1,P,_),_):=(I.hok a _ ea).1;let(hh,g,dr,tk,os):=s;exact S9 hC Q e1 P (T'.hasType (by decide)) h
def yA{σ:St}{T:J}{Q:Unit->ϋ->Prop}(I:Inv X gd σ H s)(q:H a=Z (.ext (XAt a C dx ϊ)))(al:jU s.heap a (.ref C) dx T .none)(tb:Tb X gd H T)
  (h:∀s',Inv X gd σ H s'->Q () s'):wpAny M A (setFlight (.ref a) Y) Q E s :=
 jm al λh' _ k=>h _ (I.turned (it:=T) (t':=s.toks) (λb o g e=>k.keep b o e (λz=>nomatch z) (λz=>g (aB.mp z))) tb.n tb.l (.inr tb.z) tb.c tb.p)
def SS(hg:Gl X x)(hm:X.mg x=Z (.ref C'))(c':cv X.K fn C' bm' wx)(g:∀a,PSs (X.inX a) (b0::p8) ts)(hr:PH X rest tr)(P:AS x:=by decide):
  PH X (.ExceptHandler (Z (.Name x p)) Y (b0::p8) pos::rest) (WW X.K fn C' ts tr):=by
 intro gd s σ H D a C T dx I Q al tb h;let(bm,ini,c,h1,h2):=h;refine wpAny_handleBy_cons (FY hg hm c' P I Q c ?_) (by intro q;cases q)
 cases V:(B.ref C::bm).contains (.ref C')with
 |true =>
  show codeAny _ _ _ _ _;refine codeAny_handlers_suite (yA I Q al tb λs1 I1=>?_)
  exact E5 (g a gd s1 σ H D (I1.inX a) (h1 V)) (λf s2 q=>q.D8 I.ok) λ_ _ z=>False.elim z
 |false=>exact hr gd s σ H D a C T dx I Q al tb (h2 V)
def V0(V:X.N.Nodup)(hi:X.N[i]?=Z n)(Q:BC X n)(hg:Gl X x)(hm:X.mg x=Z (.ref C'))(c':cv X.K fn C' bm' wx)(ah:∀a,PSs (X.inX a) (b0::p8) ts)(hr:PH X rest tr)(ak:AS x:=by decide):
  PH X (.ExceptHandler (Z (.Name x p)) (Z n) (b0::p8) pos::rest) (hAs X.K fn C' i ts tr):=by
 intro gd s σ H D a C T dx I ea al tb h;let(bm,ini,c,h1,h2):=h;refine wpAny_handleBy_cons (FY hg hm c' ak I ea c ?_) (by intro q;cases q)
 cases hz:(B.ref C::bm).contains (.ref C')with
 |true =>
  show codeAny _ _ _ _ _;refine codeAny_handlers_suite_as (yA I ea al tb λs1 I1=>?_)
  refine km I1 V hi (.inl Q) (show RelV (.ref a) (B.ref a)from U) (λs2 I2=>?_) (.inr Q)
  refine E5 (ah a gd s2 _ H (D.go i) (I2.inX a) (h1 hz)) (λf s3 q=>?_) λ_ _ z=>False.elim z
  have q:=q.D8 I.ok;cases f with
  |next=>let(g,H',ύ,q):=q;exact nT ύ V hi Q λs4 P=>(_,H',P,q)
  |brk=>let(g,H',ύ,q):=q;exact nT ύ V hi Q λs4 P=>(_,H',P,q)
  |cont=>let(g,H',ύ,q):=q;exact nT ύ V hi Q λs4 P=>(_,H',P,q)
  |ret u=>let(v,g,H',ύ,r,q):=q;exact nT ύ V hi Q λs4 P=>(v,_,H',P,r,q)
 |false=>exact hr gd s σ H D a C T dx I ea al tb (h2 hz)
def U5(th:TH)(tb:(St->XK)->TS):TS:=λD σ H=>tb (λg cls q H'=>∃a C,cls=.ref C/\q=Z a/\th a C D g H') D σ H
def Sk{th:TH}{tb:(St->XK)->TS}{h0:ExceptHandler}(K:X.stack=X.env::X.outer)(hf:X.env.frame=Z X.env.locals)
  (g:∀(Es:St->XK)(pn:List (J×Obj))(xe:B->ϋ->Prop),gZ (CX1 X.prog X.w) (X.uM pn xe) Es->rV (X.uM pn xe) Es->PSs (X.uM pn xe) body (tb Es)) (hh:PH X (h0::hs) th):PS X (.Try body (h0::hs) [] [] pos) (U5 th tb):=by
 intro gd s σ H D I h;refine wpAny_Try_except (E5 (g _ (X.pn++gd) (λe aG=>XV X (noteFrame e X.env) (λ_ s₂=>XV X (setFlight e Y) (λ_ aD=>XV X (handleBy e X.env (h0::hs)) (SP X gd D) X.xe aD) X.xe s₂) X.xe aG) ?_ ?_ [] s σ H D (I.uM _) h) (λf s1 q=>?_) λe s1 q=>q)
 ·intro pins' P H1 s1 e s2 I1 hx;let(a,C,dx,T,H',U,aV,hg,un,hok,ea,al,hT,a0,a',C',ec,eo,hE):=hx;cases ec;cases eo;have ύ:=I1.tZ I.ok;have J2:=ύ.CA (ch:=[]) aV un hok hg (λb z=>nomatch z)
  have V:=J2.stack;rw[K]at V;refine v7 (base:=X.base) (L:=X.env.locals) (by rw[<- K];exact J2.ok.frames) V hf al λh3 T3 Q ak k3=>?_
  refine jm ak λh4 ah k4=>?_
  have kx:gI ((X.env::X.outer).filterMap (·.frame)) [a,T] s2.heap h4:=k3.trans (k4.mono (λ_ z=>nomatch z) λb z=>z) λb ob q z=>by
   rw[aB.mp z]at q;exact absurd (wh (uj q) Q) (UP _)
  have aq:Un (frs X.stack) [] H1 H' s1.heap h4:=Un.qX un kx (λb g=>by
   obtain z|z:=fH.mp g
   ·rw[z];exact .inl (_,ea)
   ·rw[aB.mp z];exact .inr a0) (λb g=>.inl (by rw[K];exact g)) (λb=>.inl U)
  have av:HOk X.prog X.w H' h4:=by
   refine HOk.qX (a:=a) J2.hok kx (λb g=>J2.nK b (by rw[K];exact g)) (λb g=>?_) ea (λb g=>rfl) (λo q=>by rw[ea]at q;cases q;exact ah.at.ok) (_,ea)
   obtain z|z:=fH.mp g
   ·exact .inl z
   ·rw[aB.mp z];exact .inr hT
  have J4:Inv X gd P H' {s2 with heap:=h4}:=ύ.CA (s':={s2 with heap:=h4}) (ch:=[]) aV aq av hg (λb z=>nomatch z)
  exact hh gd _ P H' D a C T3 dx J4 ea ah (Tb.of J2 Q) hE
 ·intro pins' P H1 s1 a C dx I1 ea hx;let(a',C',ec,eo,hE):=hx;cases ec;cases eo;have ύ:=I1.tZ I.ok;obtain⟨y,aL,hy⟩:XAt a C dx O s1.heap:=(ύ.hok a _ ea).1;rw[hy rfl]at aL;have V:=ύ.stack;rw[K]at V;refine ug (base:=X.base) (L:=X.env.locals) (by rw[<- K];exact ύ.ok.frames) V hf aL λh3 T3 Q ak k3=>?_
  refine jm ak λh4 ah k4=>?_
  have kx:gI ((X.env::X.outer).filterMap (·.frame)) [a] s1.heap h4:=k3.trans (k4.mono (λ_ z=>nomatch z) λb z=>z) λb ob q z=>by
   rw[aB.mp z]at q;exact absurd (wh (uj q) Q) (UP _)
  have aq:Un (frs X.stack) [] H1 (upd H1 a (.ext (XAt a C dx ϊ))) s1.heap h4:=Un.qX Un.refl kx (λb g=>by
   rw[aB.mp g];exact .inl (_,ea)) (λb g=>.inl (by rw[K];exact g)) (Jo ea)
  have av:HOk X.prog X.w (upd H1 a (.ext (XAt a C dx ϊ))) h4:=HOk.qX (a:=a) ύ.hok kx (λb g=>ύ.nK b (by rw[K];exact g)) (λb g=>.inl (aB.mp g)) ea (λb g=>aw g) (λo q=>by rw[aC]at q;cases q;exact ah.at.ok) (_,aC)
  have J4:Inv X gd P (upd H1 a (.ext (XAt a C dx ϊ))) {s1 with heap:=h4}:=ύ.CA (s':={s1 with heap:=h4}) (ch:=[]) U aq av ύ.bare (λb z=>nomatch z)
  have tb:=Tb.of ύ Q;exact hh gd _ P _ D a C T3 dx J4 aC ah (by rw[aw ak.1];exact tb.n,tb.l,tb.z,tb.c,tb.p) hE
 ·have q:=q.tZ I.ok;cases f with
  |next=>exact wpAny_execs_nil q
  |brk=>exact q
  |cont=>exact q
  |ret u=>exact q
end
def sA(sp:Sp)(Es:St->XK)(t:TA):TE:=λσ H Q=>t σ H λvs H1=>sp vs H1 Q (Es σ)
variable{st:Fk}
section
variable{X:Cx}{CX:CXT}{k:Nat}{f:J}{fd:Ch}{ps:List Str}{sp:Sp}{Es:St->XK}{p pos:Pos}{es:List EQ}{t:TA}
theorem qQ(F:aS X.prog X.w X.K X.mg X.base CX k f fd ps sp)(hr:bS k X.A)(hg:Gl X x)(hm:X.mg x=Z (.ref f))(hk:W.keepIn X.K (.ref f)=O)(hb:Binds X.K fd ps [])(hx:gZ CX X Es)
  (ha:PA X (e::es) t) (ah:AS x:=by decide) (he:‹AC X e es›) (V:‹AM X pos es›):
  PE X (.Call (.Name x p) (e::es) [] pos) (sA sp Es t):=by
 intro gd s σ H Q I h;refine Je (nV I hg hm ?_ ah);refine W.callWith_K (h₀:=X.base) I.ok.mod.kin hk (thn (ha pos gd s σ H _ I h) λus s1 (vs,H1,P,r,q)=>(P.kIn,?_)) he V
 have hl:(us ++ []).length=ps.length:=by rw[qp,<- r.length];exact F.len _ _ _ _ q
 have z:=hb s1 us P.kIn hl;rw[qp]at z;refine wpAny_call (codeAny_mono (F.run X.A X.stack s1 H1 (us,[]) us vs Q (Es σ) hr P.L9 z r q) λr s' g=>?_)
 cases r with
 |error e=>exact hx gd σ H1 s1 e s' P g
 |ok fl =>
  cases fl with
  |ret u=>exact P.after g
  |next=>exact False.elim g
  |brk=>exact False.elim g
  |cont=>exact False.elim g
theorem Fun.okX{w:Da}{K:BT}{f:J}{k:Nat}(F:Fun K x qual st f fd)(S:aE N ps (au st))(len:∀vs H Q E,sp vs H Q E->vs.length=ps.length)
  (z:∀(cdv:B)(A:Do)(outer:List Env)(s:ϋ)(H:Hp)(vs:List V)(Q:VK)(E:XK),bS k (A.deeper (envOfC qual (au st) s.heap.objs.size f cdv))->sp vs H Q E ->
   ∃t,PSs (pQ (CX1 P w) P w K mg base N qual (au st) f cdv A outer s H E) (cA st) t/\t {nx:=λ_ H'=>Q .non H',rt:=Q} (start N vs) H):aS P w K mg base (CX1 P w) (k+1) f fd ps sp:=by
 let(oc,od,kV,doc,pm,an,cdv,ct,osl,U,lk,q):=F.ex;exact QM lk q S len λA outer s H vs Q E hr g=>z cdv A outer s H vs Q E hr g
end
def len0{P:List B->Prop}(h:P [])(us:List B)(e:us.length=0):P us:=by rw[YX.mp e];exact h
def Wq{P:List B->Prop}(h:∀a,P [a])(us:List B)(e:us.length=1):P us:=by
 cases us with
 |nil=>cases e
 |cons a r=>exact len0 (P:=λr=>P (a::r)) (h a) r (Nat.succ.inj e)
def Wo{P:List B->Prop}(h:∀a b,P [a,b])(us:List B)(e:us.length=2):P us:=by
 cases us with
 |nil=>cases e
 |cons a r=>exact Wq (P:=λr=>P (a::r)) (h a) r (Nat.succ.inj e)
def Wn{P:List B->Prop}(h:∀a b c,P [a,b,c])(us:List B)(e:us.length=3):P us:=by
 cases us with
 |nil=>cases e
 |cons a r=>exact Wo (P:=λr=>P (a::r)) (h a) r (Nat.succ.inj e)
def X3{P:List B->Prop}(h:∀a b c d,P [a,b,c,d])(us:List B)(e:us.length=4):P us:=by
 cases us with
 |nil=>cases e
 |cons a r=>exact Wn (P:=λr=>P (a::r)) (h a) r (Nat.succ.inj e)
def X2{P:List B->Prop}(h:∀a b c d e,P [a,b,c,d,e])(us:List B)(e:us.length=5):P us:=by
 cases us with
 |nil=>cases e
 |cons a r=>exact X3 (P:=λr=>P (a::r)) (h a) r (Nat.succ.inj e)
set_option genInjectivity true in
inductive T where
 |n|b (x:Bool)|i (x:Int)|s (x:Str)|t (xs:List T)|l (xs:List T)|d (ks:List (Key×T))|jy|z (ns:List Int)|ty (x:String)|k (ws:List Str)|q|fd (o:Obj) (vs:List (Key×V)) (ks:List (Key×T))|xc (C:J) (ns:List Str) (ts:List T)|rm (u:Int)|ob (C:J) (ns:List Str) (ts:List T)|dp (a:J) (ks:List (Key×T))|lp (a:J) (xs:List T)|zl (xs:List T)|rf (a:J)|om (a C:J) (ns:List Str) (ts:List T)
abbrev Dl:=List (J×J)
def FzL(K:BT)(H:Hp)(a:J)(xs:List V):Prop:=(∃o,H a=Z (.frz o (.lst xs))) \/
  ∃(o:Obj)(its:Array B)(n:Nat),K.lookup a=Z o/\o.cls=.type "list" /\ o.dict=Y/\o.data=.seq its n/\its.size<=px/\Vals xs its.toList
variable{xs:List V}
theorem FzL.sq{K:BT}(h:FzL K H a xs):SqL K H a xs:=by
 obtain h|h:=h
 ·exact .inl (.inr h)
 ·exact .inr h
def Yz(a C dx:J)(h:Ev):Prop:=h.get? a=Z (W.instObj C dx)
inductive ObH(H:Hp)(a C:J)(fs:List (Str×V)):Prop
 |mk(dx:_)(h1:dx≠a)(h2:H a=Z (.ext (Yz a C dx)))(h3:H dx=Z (.ext (XD dx fs)))
mutual
inductive aI(K:BT)(dl:Dl)(H:Hp):V->T->List J->Prop where
 |n:aI K dl H .non .n []
 |b(x:Bool):aI K dl H (.bl x) (.b x) []
 |i(x:Int):aI K dl H (.int x) (.i x) []
 |s(x:Str):aI K dl H (.str x) (.s x) []
 |ty(x:String):aI K dl H (.ty x) (.ty x) []
 |t{a:J}{vs:List V}{ts:List T}{F:List J}:H a=Z (.tup vs)->aA K dl H vs ts F->aI K dl H (.ref a) (.t ts) F
 |l{a:J}{vs:List V}{ts:List T}{F:List J}:H a=Z (.lst vs)->aA K dl H vs ts F->aI K dl H (.ref a) (.l ts) (a::F)
 |d{a:J}{vs:List (Key×V)}{ts:List (Key×T)}{F:List J}:H a=Z (.dK vs)->gY K dl H vs ts F->aI K dl H (.ref a) (.d ts) (a::F)
 |x{a l:J}:(a,l)∈dl->aI K dl H (.ref a) .jy []
 |z{a:J}{ns:List Int}:FzL K H a (ns.map V.int)->aI K dl H (.ref a) (.z ns) []
 |q{a:J}{xs:List V}:H a=Z (.lst xs)->aI K dl H (.ref a) .q []
 |fd{a:J}{o:Obj}{vs:List (Key×V)}{ts:List (Key×T)}:H a=Z (.frz o (.dK vs))->gY K dl H vs ts []->aI K dl H (.ref a) (.fd o vs ts) []
 |k{a:J}{ws:List Str}:(∀H':Hp,SqT K H' a (ws.map V.str))->aI K dl H (.ref a) (.k ws) []
 |e{a C:J}{b:Bool}{ns:List Str}{vs:List V}{ts:List T}:ExH H a C b (ns.zip vs)->aA K dl H vs ts []->aI K dl H (.ref a) (.xc C ns ts) []
 |rm{a:J}{x u:Int}:H a=Z (.room x)->x<=u->aI K dl H (.ref a) (.rm u) []
 |ob{a C:J}{ns:List Str}{vs:List V}{ts:List T}:ObH H a C (ns.zip vs)->aA K dl H vs ts []->aI K dl H (.ref a) (.ob C ns ts) []
 |dp{a:J}{vs:List (Key×V)}{ts:List (Key×T)}{F:List J}:H a=Z (.dK vs)->gY K dl H vs ts F->aI K dl H (.ref a) (.dp a ts) (a::F)
 |lp{a:J}{vs:List V}{ts:List T}{F:List J}:H a=Z (.lst vs)->aA K dl H vs ts F->aI K dl H (.ref a) (.lp a ts) (a::F)
 |zl{a:J}{o:Obj}{vs:List V}{ts:List T}:H a=Z (.frz o (.lst vs))->aA K dl H vs ts []->aI K dl H (.ref a) (.zl ts) []
 |rf(a:J):aI K dl H (.ref a) (.rf a) []
 |om{a C dx:J}{ns:List Str}{vs:List V}{ts:List T}{F:List J}:H a=Z (.ins C dx (ns.zip vs))->H dx=Z (.own a)->ns.length=ts.length->aA K dl H vs ts F->aI K dl H (.ref a) (.om a C ns ts) (a::dx::F)
inductive aA(K:BT)(dl:Dl)(H:Hp):List V->List T->List J->Prop where
 |nil:aA K dl H [] [] []
 |cons{v:V}{x:T}{vs:List V}{ts:List T}{F G:List J}:aI K dl H v x F->aA K dl H vs ts G->aA K dl H (v::vs) (x::ts) (F++G)
inductive gY(K:BT)(dl:Dl)(H:Hp):List (Key×V)->List (Key×T)->List J->Prop where
 |nil:gY K dl H [] [] []
 |cons{k:Key}{v:V}{x:T}{vs:List (Key×V)}{ts:List (Key×T)}{F G:List J}:aI K dl H v x F->gY K dl H vs ts G->gY K dl H ((k,v)::vs) ((k,x)::ts) (F++G)
end
def HO.mt:HO->Bool
 |.lst _=>O
 |.dK _=>O
 |.ins _ _ _=>O
 |.own _=>O
 |_=>ϊ
inductive gH(H:Hp)(b:J):Prop
 |mk(o:_)(h1:H b=Z o)(h2:o.mt=O)
def gH.no{b:J}(h:gH H b)(e:H b=Y):False:=by
 let(_,h,_):=h;rw[e]at h;cases h
structure TF(H H':Hp):Prop where
 t:∀a vs,H a=Z (.tup vs)->H' a=Z (.tup vs)
 f:∀a o u,H a=Z (.frz o u)->H' a=Z (.frz o u)
 x:∀a φ,H a=Z (.ext φ)->H' a=Z (.ext φ)
 q:∀a xs,H a=Z (.lst xs)->∃ys,H' a=Z (.lst ys)
 r:∀a x,H a=Z (.room x)->∃y,y<=x/\H' a=Z (.room y)
variable{H':Hp}
def ObH.tf{fs:List (Str×V)}(h:ObH H a C fs)(k:TF H H'):ObH H' a C fs:=by
 let(d,h1,h2,h3):=h;exact(d,h1,k.x _ _ h2,k.x _ _ h3)
def ExH.tf{b:Bool}{fs:List (Str×V)}(h:ExH H a C b fs)(k:TF H H'):ExH H' a C b fs:=by
 obtain⟨h1,h2⟩|⟨d,h1,h2,h3⟩:=h
 ·exact .inl (h1,k.x _ _ h2)
 ·exact .inr (d,h1,k.x _ _ h2,k.x _ _ h3)
theorem FzL.tf{K:BT}{vs:List V}(h:FzL K H a vs)(k:TF H H'):FzL K H' a vs:=by
 obtain⟨o,h⟩|h:=h
 ·exact .inl (o,k.f _ _ _ h)
 ·exact .inr h
def cT{α:Type}{p:α->Prop}:∀b∈([]:List α),p b:=λ_ h=>absurd h U3
variable{dl:Dl}
theorem aI.d9{K:BT}{Q:Dl}(k:TF H H')(hd:∀p∈dl,p∈Q){v:V}{t:T}{F:List J}(h:aI K dl H v t F):(∀b∈F,∀o,H b=Z o->H' b=Z o)->aI K Q H' v t F :=
 aI.rec (motive_2:=λv t F _=>(∀b∈F,∀o,H b=Z o->H' b=Z o)->aA K Q H' v t F) (motive_3:=λv t F _=>(∀b∈F,∀o,H b=Z o->H' b=Z o)->gY K Q H' v t F)
  (λ_=>.n) (λx _=>.b x) (λx _=>.i x) (λx _=>.s x) (λx _=>.ty x) (λh _ g q=>.t (k.t _ _ h) (g q))
  (λh _ g q=>.l (q _ di _ h) (g λb P=>q b (aJ _ P))) (λh _ g q=>.d (q _ di _ h) (g λb P=>q b (aJ _ P)))
  (λh _=>.x (hd _ h)) (λh _=>.z (h.tf k)) (λh _=>Exists.elim (k.q _ _ h) λ_ e=>.q e) (λh _ g _=>.fd (k.f _ _ _ h) (g cT)) (λh _=>.k h) (λh _ g _=>.e (h.tf k) (g cT))
  (λh hx _=>Exists.elim (k.r _ _ h) λ_ e=>.rm e.2 (Y2 e.1 hx)) (λh _ g _=>.ob (h.tf k) (g cT)) (λh _ g q=>.dp (q _ di _ h) (g λb P=>q b (aJ _ P))) (λh _ g q=>.lp (q _ di _ h) (g λb P=>q b (aJ _ P))) (λh _ g _=>.zl (k.f _ _ _ h) (g cT)) (λa _=>.rf a) (λh1 h2 h3 _ g q=>.om (q _ di _ h1) (q _ (aJ _ di) _ h2) h3 (g λb P=>q b (aJ _ (aJ _ P))))
  (λ_=>.nil) (λ_ _ i1 i2 q=>.cons (i1 λb P=>q b (ot _ P)) (i2 λb P=>q b (mu _ P)))
  (λ_=>.nil) (λ_ _ i1 i2 q=>.cons (i1 λb P=>q b (ot _ P)) (i2 λb P=>q b (mu _ P))) h
@[elab_as_elim]
theorem aA.ind{K:BT}{M:List V->List T->List J->Prop}(nil:M [] [] [])(cons:∀v x vs ts F G,aI K dl H v x F->aA K dl H vs ts G->M vs ts G->M (v::vs) (x::ts) (F++G)){vs:List V}{ts:List T}{F:List J}(h:aA K dl H vs ts F):M vs ts F :=
 aA.rec (motive_1:=λ_ _ _ _=>True) (motive_3:=λ_ _ _ _=>True) trivial (λ_=>trivial) (λ_=>trivial) (λ_=>trivial) (λ_=>trivial) (λ_ _ _=>trivial) (λ_ _ _=>trivial) (λ_ _ _=>trivial)
  (λ_=>trivial) (λ_=>trivial) (λ_=>trivial) (λ_ _ _=>trivial) (λ_=>trivial) (λ_ _ _=>trivial) (λ_ _=>trivial) (λ_ _ _=>trivial) (λ_ _ _=>trivial) (λ_ _ _=>trivial) (λ_ _ _=>trivial) (λ_=>trivial) (λ_ _ _ _ _=>trivial) nil (λh r _ g=>cons _ _ _ _ _ _ h r g) trivial (λ_ _ _ _=>trivial) h
@[elab_as_elim]
theorem gY.ind{K:BT}{M:List (Key×V)->List (Key×T)->List J->Prop}(nil:M [] [] [])(cons:∀k v x vs ts F G,aI K dl H v x F->gY K dl H vs ts G->M vs ts G->M ((k,v)::vs) ((k,x)::ts) (F++G)){vs:List (Key×V)}{ts:List (Key×T)}{F:List J}(h:gY K dl H vs ts F):M vs ts F :=
 gY.rec (motive_1:=λ_ _ _ _=>True) (motive_2:=λ_ _ _ _=>True) trivial (λ_=>trivial) (λ_=>trivial) (λ_=>trivial) (λ_=>trivial) (λ_ _ _=>trivial) (λ_ _ _=>trivial) (λ_ _ _=>trivial)
  (λ_=>trivial) (λ_=>trivial) (λ_=>trivial) (λ_ _ _=>trivial) (λ_=>trivial) (λ_ _ _=>trivial) (λ_ _=>trivial) (λ_ _ _=>trivial) (λ_ _ _=>trivial) (λ_ _ _=>trivial) (λ_ _ _=>trivial) (λ_=>trivial) (λ_ _ _ _ _=>trivial) trivial (λ_ _ _ _=>trivial) nil (λh r _ g=>cons _ _ _ _ _ _ _ h r g) h
theorem aA.d9{K:BT}{dl g:Dl}{H H':Hp}(k:TF H H')(hd:∀p∈dl,p∈g){vs:List V}{ts:List T}{F:List J}(h:aA K dl H vs ts F):(∀b∈F,∀o,H b=Z o->H' b=Z o)->aA K g H' vs ts F :=
 h.ind (λ_=>.nil) (λ_ _ _ _ _ _ h _ P q=>.cons (h.d9 k hd λb z=>q b (ot _ z)) (P λb z=>q b (mu _ z)))
variable{G:List J}
def sv{F:List J}(h:∀b∈F,gH H b)(r:∀b∈G,gH H b):∀b∈F++G,gH H b:=λb g=>(lS.mp g).elim (h b) (r b)
theorem aI.there{K:BT}{v:V}{t:T}{F:List J}(h:aI K dl H v t F):∀b∈F,gH H b :=
 aI.rec
  cT (λ_=>cT) (λ_=>cT) (λ_=>cT) (λ_=>cT) (λ_ _ g=>g)
  (λh _ g b q=>(fH.mp q).elim (λe=>by rw[e];exact(_,h,U)) (g b)) (λh _ g b q=>(fH.mp q).elim (λe=>by rw[e];exact(_,h,U)) (g b))
  (λ_=>cT) (λ_=>cT) (λ_=>cT) (λ_ _ _=>cT) (λ_=>cT) (λ_ _ _=>cT)
  (λ_ _=>cT) (λ_ _ _=>cT) (λh _ g b q=>(fH.mp q).elim (λe=>by rw[e];exact(_,h,U)) (g b)) (λh _ g b q=>(fH.mp q).elim (λe=>by rw[e];exact(_,h,U)) (g b)) (λ_ _ _=>cT) (λ_=>cT) (λh1 h2 _ _ g b q=>(fH.mp q).elim (λe=>by rw[e];exact(_,h1,U)) λq=>(fH.mp q).elim (λe=>by rw[e];exact(_,h2,U)) (g b))
  cT (λ_ _ P z=>sv P z) cT (λ_ _ P z=>sv P z) h
theorem aA.there{K:BT}{dl:Dl}{H:Hp}{vs:List V}{ts:List T}{F:List J}(h:aA K dl H vs ts F):∀b∈F,gH H b:=h.ind cT (λ_ _ _ _ _ _ h _ g=>sv h.there g)
def Nd(dl:Dl)(b:J):Prop:=∀p∈dl,b≠p.1/\b≠p.2
def Dls(dl:Dl)(H:Hp):Prop:=∀p∈dl,sj H p.1 p.2
def Dls.nd(D:Dls dl H){b:J}{o:HO}(h:H b=Z o)(h1:∀xs,o ≠ .lst xs)(h2:∀ks,o ≠ .dK ks):Nd dl b:=λp hp=>by
 let(s,n,ls,Q):=D p hp;exact(en h Q.hd (h2 _),en h Q.hl (h1 _))
def Dls.nd0(D:Dls dl H){b:J}(h:H b=Y):Nd dl b:=λp hp=>by
 let(s,n,ls,Q):=D p hp;exact((aX Q.hd h).symm,(aX Q.hl h).symm)
def NR(o:HO):Prop:=∀x,o ≠ .room x
structure Evo(dl:Dl)(H H':Hp):Prop where
 k:∀b o,H b=Z o->Nd dl b->NR o->H' b=Z o
 d:Dls dl H'
 r:∀a x,H a=Z (.room x)->∃y,y<=x/\H' a=Z (.room y)
def NR.of{b:J}{o:HO}(h:gH H b)(e:H b=Z o):NR o:=λx z=>by
 let(_,h,m):=h;rw[e,z]at h;cases h;cases m
def Evo.refl(D:Dls dl H):Evo dl H H:=(λ_ _ h _ _=>h,D,λ_ x h=>(x,Zc _,h))
variable{H1:Hp}
def Evo.trans{g:Hp}(a:Evo dl H H1)(b:Evo dl H1 g):Evo dl H g:=(λc o h n r=>b.k c o (a.k c o h n r) n r,b.d,λc x h=>let(y,K,e):=a.r c x h;let(z,q,P):=b.r c y e;(z,Y2 q K,P))
def Evo.tf(e:Evo dl H H')(D:Dls dl H):TF H H' :=
 (λa vs h=>e.k a _ h (D.nd h (λ_ z=>nomatch z) λ_ z=>nomatch z) (λ_ z=>nomatch z),λa o u h=>e.k a _ h (D.nd h (λ_ z=>nomatch z) λ_ z=>nomatch z) (λ_ z=>nomatch z),λa φ h=>e.k a _ h (D.nd h (λ_ z=>nomatch z) λ_ z=>nomatch z) (λ_ z=>nomatch z),λa xs h=>(by
  by_cases hn:Nd dl a
  ·exact(xs,e.k a _ h hn (λ_ z=>nomatch z))
  ·obtain⟨p,hp,z⟩:∃p∈dl,¬(a≠p.1/\a≠p.2):=Classical.byContradiction λc=>hn λp hp=>Classical.byContradiction λz=>c (p,hp,z)
   let(s,n,ls,Q):=D p hp;let(s',K,ls',q):=e.d p hp;have h1:=en h Q.hd (λz=>nomatch z)
   have h2:=Classical.byContradiction λg=>z (h1,g)
   exact(_,by rw[h2];exact q.hl)),e.r)
theorem Evo.new{p:J}{o:HO}(e:Evo dl H H1)(hp:H1 p=Y):Evo dl H (upd H1 p o) :=
 (λc u h n r=>by rw[aw (aX (e.k c u h n r) hp)];exact e.k c u h n r,λq K=>(e.d q K).new hp,λc x h=>let(y,z,g):=e.r c x h;(y,z,by rw[aw (aX g hp)];exact g))
def Evo.free(e:Evo dl H H'){p:J}(hp:H' p=Y):H p=none:=by
 cases q:H p with
 |none=>rfl
 |some o =>
  by_cases hn:NR o
  ·rw[e.k p o q (e.d.nd0 hp) hn]at hp;cases hp
  ·obtain⟨x,hx⟩:∃x,o=.room x:=Classical.byContradiction λc=>hn λx z=>c (x,z)
   subst hx;let(y,_,g):=e.r p x q;rw[g]at hp;cases hp
structure Rp(K:BT)(dl:Dl)(H:Hp)(v:V)(t:T)(F:List J):Prop where
 r:aI K dl H v t F
 n:∀b∈F,Nd dl b
structure Rps(K:BT)(dl:Dl)(H:Hp)(vs:List V)(ts:List T)(F:List J):Prop where
 r:aA K dl H vs ts F
 n:∀b∈F,Nd dl b
theorem Rp.evo{K:BT}{v:V}{t:T}{F:List J}(h:Rp K dl H v t F)(D:Dls dl H)(e:Evo dl H H'):Rp K dl H' v t F :=
 (h.r.d9 (e.tf D) (λ_ q=>q) λb g o q=>e.k b o q (h.n b g) (.of (h.r.there b g) q),h.n)
theorem Rps.evo{K:BT}{v:List V}{t:List T}{F:List J}(h:Rps K dl H v t F)(D:Dls dl H)(e:Evo dl H H'):Rps K dl H' v t F :=
 (h.r.d9 (e.tf D) (λ_ q=>q) λb g o q=>e.k b o q (h.n b g) (.of (h.r.there b g) q),h.n)
inductive Sl where
 |no|o (t:T)|r (t:T)
abbrev Sq:=List Sl
def Sl.get:Sl->Option T
 |.no=>Y
 |.o t=>Z t
 |.r t=>Z t
structure RdR(K:BT)(dl:Dl)(H:Hp)(σ:St)(q:Sq):Prop where
 d:Dls dl H
 g:∀(i:Nat)(x:Sl)(t:T),q[i]?=Z x->x.get=Z t->∃v F,σ[i]?=Z (Z v)/\Rp K dl H v t F
theorem RdR.evo{K:BT}{dl:Dl}{H H':Hp}{σ:St}{q:Sq}(h:RdR K dl H σ q)(e:Evo dl H H'):RdR K dl H' σ q :=
 (e.d,λi x t h1 h2=>let(v,F,h3,h4):=h.g i x t h1 h2;(v,F,h3,h4.evo h.d e))
abbrev QE:=Sq->(T->Prop)->Prop
abbrev QT:=Sq->(Bool->Prop)->Prop
abbrev QA:=Sq->(List T->Prop)->Prop
def jz(K:BT)(te:TE)(tq:QE):Prop:=∀(dl:Dl)(H:Hp)(σ:St)(q:Sq)(Q:T->Prop)(R:V->Hp->Prop),RdR K dl H σ q->tq q Q ->
 (∀v t F H',Evo dl H H'->Rp K dl H' v t F->Q t->R v H')->te σ H R
def kN(K:BT)(te:TE)(tq:QE):Prop:=∀(dl:Dl)(H:Hp)(σ:St)(q:Sq)(Q:T->Prop)(R:V->Hp->Prop),RdR K dl H σ q->tq q Q ->
 (∀v t F H',Evo dl H H'->Rp K dl H' v t F->(∀b∈F,H b=Y)->F.Nodup->Q t->R v H')->te σ H R
def pS(K:BT)(te:TT)(tq:QT):Prop:=∀(dl:Dl)(H:Hp)(σ:St)(q:Sq)(Q:Bool->Prop)(R:Bool->Hp->Prop),RdR K dl H σ q->tq q Q ->
 (∀b H',Evo dl H H'->Q b->R b H')->te σ H R
def Ay(K:BT)(n:Nat)(te:TA)(tq:QA):Prop:=∀(dl:Dl)(H:Hp)(σ:St)(q:Sq)(Q:List T->Prop)(R:List V->Hp->Prop),RdR K dl H σ q->tq q Q ->
 (∀vs ts F H',Evo dl H H'->Rps K dl H' vs ts F->vs.length=n->Q ts->R vs H')->te σ H R
def Xk(K:BT)(n:Nat)(te:TA)(tq:QA):Prop:=∀(dl:Dl)(H:Hp)(σ:St)(q:Sq)(Q:List T->Prop)(R:List V->Hp->Prop),RdR K dl H σ q->tq q Q ->
 (∀vs ts F H',Evo dl H H'->Rps K dl H' vs ts F->vs.length=n->(∀b∈F,H b=Y)->F.Nodup->Q ts->R vs H')->te σ H R
structure QPE(X:Cx)(K:BT)(e:EQ)(te:TE)(tq:QE):Prop where
 h:PE X e te
 s:jz K te tq
structure QPF(X:Cx)(K:BT)(e:EQ)(te:TE)(tq:QE):Prop where
 h:PE X e te
 s:kN K te tq
structure QPT(X:Cx)(K:BT)(e:EQ)(te:TT)(tq:QT):Prop where
 h:PT X e te
 s:pS K te tq
structure QPW(X:Cx)(K:BT)(e:EQ)(te:TT)(tq:QT):Prop where
 h:PW X e te
 s:pS K te tq
structure QPA(X:Cx)(K:BT)(es:List EQ)(te:TA)(tq:QA):Prop where
 h:PA X es te
 s:Ay K es.length te tq
structure AA(X:Cx)(K:BT)(es:List EQ)(te:TA)(tq:QA):Prop where
 h:PA X es te
 s:Xk K es.length te tq
section
variable{X:Cx}{K:BT}{a b:EQ}{ta tb:TE}{qa qb qe:QE}{pos:Pos}
def ZB(h:QPF X K e te qe):QPE X K e te qe:=(h.h,λdl H σ q Q R rd g k=>h.s dl H σ q Q R rd g λv t F H' e r _ _ z=>k v t F H' e r z)
mutual
def T.im:T->Bool
 |.t xs=>T.ims xs
 |.l _=>ϊ
 |.d _=>ϊ
 |.dp _ _=>ϊ
 |.lp _ _=>ϊ
 |.om _ _ _ _=>ϊ
 |_=>O
def T.ims:List T->Bool
 |[]=>O
 |x::r=>x.im&&T.ims r
end
def z7{F:List J}{x y:Bool}(h:x=O->F=[])(r:y=O->G=[])(q:(x&&y)=O):F++G=[]:=by rw[h (tY _ _▸q).1,r (tY _ _▸q).2];rfl
theorem aI.im{dl:Dl}{H:Hp}{v:V}{t:T}{F:List J}(h:aI K dl H v t F):t.im=O->F=[] :=
 aI.rec (motive_3:=λ_ _ _ _=>True)
  (λ_=>rfl) (λ_ _=>rfl) (λ_ _=>rfl) (λ_ _=>rfl) (λ_ _=>rfl) (λ_ _ g=>g) (λ_ _ _ h=>absurd h r8) (λ_ _ _ h=>absurd h r8)
  (λ_ _=>rfl) (λ_ _=>rfl) (λ_ _=>rfl) (λ_ _ _ _=>rfl) (λ_ _=>rfl) (λ_ _ _ _=>rfl) (λ_ _ _=>rfl) (λ_ _ _ _=>rfl) (λ_ _ _ h=>absurd h r8) (λ_ _ _ h=>absurd h r8) (λ_ _ _ _=>rfl) (λ_ _=>rfl) (λ_ _ _ _ _ h=>absurd h r8) (λ_=>rfl) (λ_ _ z q=>z7 z q) trivial (λ_ _ _ _=>trivial) h
theorem aA.im{dl:Dl}{H:Hp}{v:List V}{t:List T}{F:List J}(h:aA K dl H v t F):T.ims t=O->F=[]:=h.ind (λ_=>rfl) (λ_ _ _ _ _ _ h _ g=>z7 h.im g)
inductive Ex2{α:Type}(p:α->Prop)(Q:α->Prop):Prop
 |mk(x:α)(h:p x)(k:Q x)
inductive Ex3{α β:Type}(p:α->Prop)(g:α->β)(Q:β->Prop):Prop
 |mk(x:α)(h:p x)(k:Q (g x))
inductive Ex4{α β:Type}(p r:α->Prop)(g:α->β)(Q:β->Prop):Prop
 |mk(x:α)(h:p x)(h2:r x)(k:Q (g x))
def on1(ts:List T)(P:T->Prop):Prop:=match ts with|[t]=>P t|_=>False
def on1.inv{ts:List T}{P:T->Prop}(h:on1 ts P):∃t,ts=[t]/\P t:=by
 cases ts with
 |nil=>exact h.elim
 |cons t r=>cases r with
  |nil=>exact(t,U,h)
  |cons=>exact h.elim
def on2(ts:List T)(P:T->T->Prop):Prop:=match ts with|[t,u]=>P t u|_=>False
def on2.inv{ts:List T}{P:T->T->Prop}(h:on2 ts P):∃t u,ts=[t,u]/\P t u:=by
 cases ts with
 |nil=>exact h.elim
 |cons t r=>cases r with
  |nil=>exact h.elim
  |cons u r=>cases r with
   |nil=>exact(t,u,U,h)
   |cons=>exact h.elim
def qIm(qe:QE):QE:=λq Q=>qe q λt=>t.im=O/\Q t
theorem XL(h:QPE X K e te qe):QPF X K e te (qIm qe):=(h.h,λdl H σ q Q R rd V k=>h.s dl H σ q _ R rd V λv t F H' e r (P,g)=>by
 have f:=r.r.im P;subst f;exact k v t [] H' e r (λ_ z=>nomatch z) mE g)
def mm(i:Nat):QE:=λq Q=>match q[i]? with
 |some (.o t)=>Q t
 |some (.r t)=>Q t
 |_=>False
def Nn(i:Nat):jz K (bX i) (mm i):=by
 intro dl H σ q Q R rd z k;unfold mm at z
 split at z
 ·rename_i t e;let(v,F,h1,h2):=rd.g i _ t e U;exact(v,h1,k v t F H (.refl rd.d) h2 z)
 ·rename_i t e;let(v,F,h1,h2):=rd.g i _ t e U;exact(v,h1,k v t F H (.refl rd.d) h2 z)
 ·exact z.elim
def qv(i:Nat){pos:Pos}(q:‹X.N[i]?=Z x›)(hv:Vis X.env.scope x:=by first|exact Or.inl rfl|exact Or.inr (Or.inl U)|exact Or.inr (Or.inr U))(hd:AS x:=by decide)
  (g:(x ==("__classdict__":Str))=false:=by decide):QPE X K (.Name x pos) (bX i) (mm i):=(zD q hv hd g,Nn i)
def qC(t:T):QE:=λ_ Q=>Q t
def ua{v:V}{t:T}(h:∀dl H,aI K dl H v t []):kN K (tC v) (qC t):=λdl H σ q Q R rd g k=>k v t [] H (.refl rd.d) (h dl H,λ_ z=>nomatch z) (λ_ z=>nomatch z) mE g
def bT{i j pos}:QPF X K (.Constant (.int i) j pos) (tC (.int i)) (qC (.i i)):=(b8,ua λ_ _=>.i i)
def iK{b j pos}:QPF X K (.Constant (.bool b) j pos) (tC (.bl b)) (qC (.b b)):=(V2,ua λ_ _=>.b b)
def vM{j pos}:QPF X K (.Constant .none j pos) (tC .non) (qC .n):=(SV,ua λ_ _=>.n)
def ay{x j pos}:QPF X K (.Constant (.str x) j pos) (tC (.str x)) (qC (.s x)):=(gF,ua λ_ _=>.s x)
def PZ{n:String}(hg:Gl X x)(hm:X.mg x=Y)(hv:bootBuiltins x=Z (.type n))(hn:x ≠ "__name__":=by decide)(hd:AS x:=by decide):QPF X K (.Name x pos) (tC (.ty n)) (qC (.ty n)) :=
 (F8 hg hm hv U hn hd,ua λ_ _=>.ty n)
def Bl{y:Str}(hg:Gl X x)(hm:∃t,X.mg x=Z (.str y t))(hd:AS x:=by decide):QPF X K (.Name x pos) (tC (.str y)) (qC (.s y)):=(K9 hg hm hd,ua λ_ _=>.s y)
def Bm{y:Int}(hg:Gl X x)(hm:∃t,X.mg x=Z (.int y t))(hd:AS x:=by decide):QPF X K (.Name x pos) (tC (.int y)) (qC (.i y)):=(La hg hm hd,ua λ_ _=>.i y)
theorem ph{dl:Dl}{H:Hp}:∀(ws:List Str),aA K dl H (ws.map V.str) (ws.map T.s) []
 |[]=>.nil
 |w::r=>.cons (.s w) (ph r)
theorem vJ{dl:Dl}{H:Hp}:∀(ws:List Int),aA K dl H (ws.map V.int) (ws.map T.i) []
 |[]=>.nil
 |w::r=>.cons (.i w) (vJ r)
def Kr{y:J}{ws:List Str}(hg:Gl X x)(hm:X.mg x=Z (.ref y))(g:∀H,SqT K H y (ws.map V.str))(hd:AS x:=by decide):QPF X K (.Name x pos) (tC (.ref y)) (qC (.k ws)) :=
 (vU hg hm hd,ua λdl H=>.k g)
abbrev Q2:=T->T->(T->Prop)->Prop
def UJ(K:BT)(r:R2)(rq:Q2):Prop:=∀(dl:Dl)(H:Hp)(x y:V)(t u:T)(F G:List J)(Q:T->Prop)(R:V->Hp->Prop),Dls dl H->Rp K dl H x t F->Rp K dl H y u G->rq t u Q ->
 (∀v z F' H',Evo dl H H'->Rp K dl H' v z F'->Q z->R v H')->r x y H R
def gX(K:BT)(r:R2)(rq:Q2):Prop:=∀(dl:Dl)(H:Hp)(x y:V)(t u:T)(F G:List J)(Q:T->Prop)(R:V->Hp->Prop),Dls dl H->Rp K dl H x t F->Rp K dl H y u G->rq t u Q ->
 (∀v z F' H',Evo dl H H'->Rp K dl H' v z F'->(∀b∈F',H b=Y)->F'.Nodup->Q z->R v H')->r x y H R
variable{rq:Q2}
def gX.w{r:R2}(h:gX K r rq):UJ K r rq:=λdl H x y t u F G Q R d a b q k=>h dl H x y t u F G Q R d a b q λv z F' H' e r _ _ g=>k v z F' H' e r g
def qOp(rq:Q2)(qa qb:QE):QE:=λq Q=>qa q λt=>qb q λu=>rq t u Q
def JL{r:R2}(ho:UJ K r rq)(ha:jz K ta qa)(hb:jz K tb qb):jz K (tOp r ta tb) (qOp rq qa qb):=by
 intro dl H σ q Q R rd hq k;exact ha dl H σ q _ _ rd hq λv t F H1 e1 r1 P=>(hb dl H1 σ q _ _ (rd.evo e1) P λw u G H2 V r2 g=>(ho dl H2 v w t u F G Q R V.d (r1.evo e1.d V) r2 g λv' z F' H3 e3 r3 hz=>k v' z F' H3 ((e1.trans V).trans e3) r3 hz))
def FF{r:R2}(ho:gX K r rq)(ha:jz K ta qa)(hb:jz K tb qb):kN K (tOp r ta tb) (qOp rq qa qb):=by
 intro dl H σ q Q R rd hq k;exact ha dl H σ q _ _ rd hq λv t F H1 P r1 ah=>(hb dl H1 σ q _ _ (rd.evo P) ah λw u G H2 g r2 V=>(ho dl H2 v w t u F G Q R g.d (r1.evo P.d g) r2 V λv' z F' H3 e3 r3 f3 n3 hz=>k v' z F' H3 ((P.trans g).trans e3) r3 (λb hb=>(P.trans g).free (f3 b hb)) n3 hz))
def zt{op:Operator}{r:R2}(ho:OpR X (binaryOp op) r)(hs:gX K r rq)(ha:QPE X K a ta qa)(g:QPE X K b tb qb):QPF X K (.BinOp a op b pos) (tOp r ta tb) (qOp rq qa qb):=(fC ho ha.h g.h,FF hs ha.s g.s)
end
end L2
namespace L2
open PySem PySem.Spec PyProof.Rows
variable{x:Str}{a:J}{C:J}{ns:List Str}{i:Nat}{G:List J}
section
variable{X:Cx}{K:BT}{dl:Dl}{H:Hp}{v:V}{F:List J}
def YA(K:BT)(dl:Dl)(H:Hp)(v:V)(F:List J):T->Prop
 |.n=>v=.non/\F=[]
 |.b x=>v=.bl x/\F=[]
 |.i x=>v=.int x/\F=[]
 |.s x=>v=.str x/\F=[]
 |.ty x=>v=.ty x
 |.t ts=>∃a vs,v=.ref a/\H a=Z (.tup vs)/\aA K dl H vs ts F
 |.l ts=>∃a vs G,v=.ref a/\F=a::G/\H a=Z (.lst vs)/\aA K dl H vs ts G
 |.d ts=>∃a vs G,v=.ref a/\F=a::G/\H a=Z (.dK vs)/\gY K dl H vs ts G
 |.jy=>∃a l,v=.ref a/\(a,l)∈dl/\F=[]
 |.z ns=>∃a,v=.ref a/\FzL K H a (ns.map V.int)/\F=[]
 |.k ws=>∃a,v=.ref a/\(∀H',SqT K H' a (ws.map V.str))/\F=[]
 |.xc C ns ts=>∃a b vs,v=.ref a/\F=[]/\ExH H a C b (ns.zip vs)/\aA K dl H vs ts []
 |.q=>True
 |.fd _ _ _=>True
 |.rm u=>∃a x,v=.ref a/\H a=Z (.room x)/\x<=u/\F=[]
 |.ob C ns ts=>∃a vs,v=.ref a/\F=[]/\ObH H a C (ns.zip vs)/\aA K dl H vs ts []
 |.dp a ts=>∃vs G,v=.ref a/\F=a::G/\H a=Z (.dK vs)/\gY K dl H vs ts G
 |.lp a ts=>∃vs G,v=.ref a/\F=a::G/\H a=Z (.lst vs)/\aA K dl H vs ts G
 |.zl ts=>∃a o vs,v=.ref a/\F=[]/\H a=Z (.frz o (.lst vs))/\aA K dl H vs ts []
 |.rf a=>v=.ref a/\F=[]
 |.om a C ns ts=>∃dx vs G,v=.ref a/\F=a::dx::G/\H a=Z (.ins C dx (ns.zip vs))/\H dx=Z (.own a)/\ns.length=ts.length/\aA K dl H vs ts G
def aI.inv{t:T}(h:aI K dl H v t F):YA K dl H v F t :=
 aI.rec (motive_2:=λ_ _ _ _=>True) (motive_3:=λ_ _ _ _=>True) (U,U) (λ_=>(U,U)) (λ_=>(U,U)) (λ_=>(U,U)) (λ_=>rfl)
  (λh r _=>(_,_,U,h,r)) (λh r _=>(_,_,_,U,U,h,r)) (λh r _=>(_,_,_,U,U,h,r)) (λh=>(_,_,U,h,U)) (λh=>(_,U,h,U)) (λ_=>trivial) (λ_ _ _=>trivial) (λh=>(_,U,h,U)) (λh r _=>(_,_,_,U,U,h,r)) (λh hx=>(_,_,U,h,hx,U)) (λh r _=>(_,_,U,U,h,r)) (λh r _=>(_,_,U,U,h,r)) (λh r _=>(_,_,U,U,h,r)) (λh r _=>(_,_,_,U,U,h,r)) (λ_=>(U,U)) (λh1 h2 h3 r _=>(_,_,_,U,U,h1,h2,h3,r))
  trivial (λ_ _ _ _=>trivial) trivial (λ_ _ _ _=>trivial) h
theorem aI.int{x:Int}(h:aI K dl H v (.i x) F):v=.int x/\F=[]:=h.inv
theorem aI.str(h:aI K dl H v (.s x) F):v=.str x/\F=[]:=h.inv
theorem aI.bl{x:Bool}(h:aI K dl H v (.b x) F):v=.bl x/\F=[]:=h.inv
theorem aI.non(h:aI K dl H v .n F):v=.non/\F=[]:=h.inv
def aI.tyy{x:String}(h:aI K dl H v (.ty x) F):v=.ty x:=h.inv
theorem aI.tup{ts:List T}(h:aI K dl H v (.t ts) F):∃a vs,v=.ref a/\H a=Z (.tup vs)/\aA K dl H vs ts F:=h.inv
theorem aI.lst{ts:List T}(h:aI K dl H v (.l ts) F):∃a vs G,v=.ref a/\F=a::G/\H a=Z (.lst vs)/\aA K dl H vs ts G:=h.inv
def aI.dic{ts:List (Key×T)}(h:aI K dl H v (.d ts) F):∃a vs G,v=.ref a/\F=a::G/\H a=Z (.dK vs)/\gY K dl H vs ts G:=h.inv
def aI.dpp{ts:List (Key×T)}(h:aI K dl H v (.dp a ts) F):∃vs G,v=.ref a/\F=a::G/\H a=Z (.dK vs)/\gY K dl H vs ts G:=h.inv
def aI.lpp{ts:List T}(h:aI K dl H v (.lp a ts) F):∃vs G,v=.ref a/\F=a::G/\H a=Z (.lst vs)/\aA K dl H vs ts G:=h.inv
def aI.zls{ts:List T}(h:aI K dl H v (.zl ts) F):∃a o vs,v=.ref a/\F=[]/\H a=Z (.frz o (.lst vs))/\aA K dl H vs ts []:=h.inv
def aI.omm{ts:List T}(h:aI K dl H v (.om a C ns ts) F):∃dx vs G,v=.ref a/\F=a::dx::G/\H a=Z (.ins C dx (ns.zip vs))/\H dx=Z (.own a)/\ns.length=ts.length/\aA K dl H vs ts G:=h.inv
def aI.dea(h:aI K dl H v .jy F):∃a l,v=.ref a/\(a,l)∈dl/\F=[]:=h.inv
def aI.scr{ns:List Int}(h:aI K dl H v (.z ns) F):∃a,v=.ref a/\FzL K H a (ns.map V.int)/\F=[]:=h.inv
def aI.kst{ws:List Str}(h:aI K dl H v (.k ws) F):∃a,v=.ref a/\(∀H',SqT K H' a (ws.map V.str))/\F=[]:=h.inv
def aA.len{vs:List V}{ts:List T}{F:List J}(h:aA K dl H vs ts F):vs.length=ts.length:=h.ind U λ_ _ _ _ _ _ _ _ g=>congrArg (· + 1) g
def gY.len{vs:List (Key×V)}{ts:List (Key×T)}{F:List J}(h:gY K dl H vs ts F):vs.length=ts.length:=h.ind U λ_ _ _ _ _ _ _ _ _ g=>congrArg (· + 1) g
def aA.Ui{vs:List V}{ts:List T}{F:List J}{t:T}(h:aA K dl H vs ts F)(e:ts[i]?=Z t):∃v G,vs[i]?=Z v/\aI K dl H v t G/\G.Sublist F :=
 h.ind (λ_ _ e=>nomatch e) (λv x vs ts F G h _ g i t e=>by
  cases i with
  |zero=>cases e;exact(v,F,U,h,List.sublist_append_left _ _)
  |succ i =>
   let(w,q,h1,h2,h3):=g i t e;exact(w,q,h1,h2,h3.trans (ZF _ _))) i t e
def aA.get{vs:List V}{ts:List T}{F:List J}{t:T}(h:aA K dl H vs ts F)(e:ts[i]?=Z t):∃v G,vs[i]?=Z v/\aI K dl H v t G/\∀b∈G,b∈F :=
 Exists.elim (h.Ui e) λv z=>Exists.elim z λG z=>(v,G,z.1,z.2.1,λ_ g=>z.2.2.subset g)
def aA.append{vs ws:List V}{ts us:List T}{F:List J}(h:aA K dl H vs ts F)(h2:aA K dl H ws us G):aA K dl H (vs++ws) (ts++us) (F++G) :=
 h.ind h2 λ_ _ _ _ _ _ h _ g=>by rw[AI];exact .cons h g
def aA.lC{vs:List V}{ts:List T}(h:aA K dl H vs ts F):vs=[] ↔ ts=[]:=by
 cases h with
 |nil=>simp
 |cons _ _=>simp
theorem aA.drop:∀{vs:List V}{ts:List T}{F:List J}(n:Nat),aA K dl H vs ts F->∃G,aA K dl H (vs.drop n) (ts.drop n) G/\G.Sublist F
 |_,_,F,0,h=>(F,h,List.Sublist.refl _)
 |_,_,_,_+1,.nil=>([],.nil,List.Sublist.refl _)
 |_,_,_,n+1,.cons h r=>by
  let(G,h1,h2):=aA.drop n r;exact(G,h1,h2.trans (ZF _ _))
theorem aA.take:∀{vs:List V}{ts:List T}{F:List J}(n:Nat),aA K dl H vs ts F->∃G,aA K dl H (vs.take n) (ts.take n) G/\G.Sublist F
 |_,_,F,0,h=>([],.nil,List.nil_sublist _)
 |_,_,_,_+1,.nil=>([],.nil,List.Sublist.refl _)
 |_,_,_,n+1,.cons h r=>by
  let(G,h1,h2):=aA.take n r;exact(_,.cons h h1,h2.append_left _)
def Rp.sub{t:T}{F:List J}(r:aI K dl H v t G)(n:∀b∈F,Nd dl b)(h:∀b∈G,b∈F):Rp K dl H v t G:=(r,λb g=>n b (h b g))
def Rp.c{t:T}(r:aI K dl H v t []):Rp K dl H v t []:=(r,λ_ z=>nomatch z)
theorem Rps.tup{vs:List V}{ts:List T}{p:J}(h:Rps K dl H vs ts F)(D:Dls dl H)(hp:H p=Y):Rp K dl (upd H p (.tup vs)) (.ref p) (.t ts) F :=
 have h2:=h.evo D ((Evo.refl D).new hp)
 (.t aC h2.r,h2.n)
theorem Rps.lst{vs:List V}{ts:List T}{p:J}(h:Rps K dl H vs ts F)(D:Dls dl H)(hp:H p=Y):Rp K dl (upd H p (.lst vs)) (.ref p) (.l ts) (p::F) :=
 have h2:=h.evo D ((Evo.refl D).new hp)
 (.l aC h2.r,λb g=>by
  obtain e|g:=fH.mp g
  ·rw[e];exact D.nd0 hp
  ·exact h2.n b g)
theorem Rps.fresh{vs:List V}{ts:List T}{p:J}(h:Rps K dl H vs ts F)(hp:H p=Y)(hn:F.Nodup):(p::F).Nodup:=xh.mpr (λz=>(h.r.there p z).no hp,hn)
def qII(C:Int->Int->Prop)(g:Int->Int->T):Q2:=λt u Q=>match t with
 |.i a=>match u with|.i b=>C a b/\Q (g a b)|_=>False
 |_=>False
def Vb{C:Int->Int->Prop}{g:Int->Int->V}{g':Int->Int->T}(hg:∀a b dl H,aI K dl H (g a b) (g' a b) []):gX K (rI C g) (qII C g'):=by
 intro dl H x y t u F G Q R D r1 P q k;unfold qII at q
 split at q
 ·split at q
  ·let(U,U):=r1.r.int;let(U,U):=P.r.int;exact(_,_,U,U,q.1,k _ _ [] H (.refl D) (.c (hg _ _ _ _)) (λ_ z=>nomatch z) mE q.2)
  ·exact q.elim
 ·exact q.elim
def qI0(g:Int->Int->T):Q2:=λt u Q=>match t with
 |.i a=>match u with|.i b=>Q (g a b)|_=>False
 |_=>False
def mH{g:Int->Int->V}{g':Int->Int->T}(hg:∀a b dl H,aI K dl H (g a b) (g' a b) []):gX K (rI0 g) (qI0 g'):=by
 intro dl H x y t u F G Q R D r1 P q k;unfold qI0 at q
 split at q
 ·split at q
  ·let(U,U):=r1.r.int;let(U,U):=P.r.int;exact(_,_,U,U,k _ _ [] H (.refl D) (.c (hg _ _ _ _)) (λ_ z=>nomatch z) mE q)
  ·exact q.elim
 ·exact q.elim
def OG:OpR X (binaryOp .Add) (λx y H Q=>∃a b xs ys,x=.ref a/\y=.ref b/\SqT X.K H a xs/\SqT X.K H b ys/\xs.length+ys.length<=px /\
  (xs=[]->Q (.ref b) H)/\(xs ≠ []->ys=[]->Q (.ref a) H)/\(xs ≠ []->ys ≠ []->∀p,H p=Y->Q (.ref p) (upd H p (.tup (xs++ys))))):=by
 intro gd s σ H x y v u Q I rx V h;let(a,b,xs,ys,U,U,ha,hb,hz,q0,q1,q2):=h;by_cases hx:xs=[]
 ·cases rx;cases V;let(its,r1,p1,_):=I.tuple ha;let(gR,r2,p2,_):=I.tuple hb;have e:=r1.lC.mpr hx;subst e;let((cls,dd,data,sl),ho,hc,n,hd):=id p1;let((Yp,P,data2,q),g,z,n2,hd2):=id p2;subst hc hd z hd2;exact concat_meets (_,ho,U) (_,g,U) noFill_tuple_add seq_tuple_add PySem.F.slot_tuple_add PySem.F.entry_tuple_add (PySem.F.args_tuple_add_2 _ _)
   (tuple_addW0 a b ([]).toArray gR.toArray n n2 dd P sl q (by simp)) (ho,g,(.ref b,H,I,U,q0 hx))
 ·exact OH gd s σ H _ _ v u Q I rx V (a,b,xs,ys,U,U,ha,hb,hx,hz,q1 hx,q2 hx)
def Kb(K:BT):R2:=λx y H Q=>rI0 (λi j=>.int (i+j)) x y H Q\/(∃i j,x=.str i/\y=.str j/\i.length+j.length<=px/\Q (.str (i++j)) H)\/Vr x y H Q \/
 (∃a b xs ys,x=.ref a/\y=.ref b/\SqT K H a xs/\SqT K H b ys/\xs.length+ys.length<=px /\
  (xs=[]->Q (.ref b) H)/\(xs ≠ []->ys=[]->Q (.ref a) H)/\(xs ≠ []->ys ≠ []->∀p,H p=Y->Q (.ref p) (upd H p (.tup (xs++ys)))))
def OI(g:X.K=K):OpR X (binaryOp .Add) (Kb K):=by subst g;exact sU.or (Ea.or (S0.or OG))
def HF:Q2:=λt u Q=>match t with
 |.i a=>match u with|.i b=>Q (.i (a+b))|_=>False
 |.s a=>match u with|.s b=>a.length+b.length<=px/\Q (.s (a++b))|_=>False
 |.l a=>match u with|.l b=>a.length+b.length<=px/\T.ims a=O/\T.ims b=O/\Q (.l (a++b))|_=>False
 |.t a=>match u with|.t b=>a.length+b.length<=px/\T.ims a=O/\T.ims b=O/\Q (.t (a++b))|_=>False
 |_=>False
def Nx:gX K (Kb K) HF:=by
 intro dl H x y t u F G Q R D P q g k;have no:∀b,b∈([])->H b=none:=λ_ z=>nomatch z
 cases t with
 |i a =>
  dsimp only[HF]at g
  split at g
  ·let(U,U):=P.r.int;let(U,U):=q.r.int;exact .inl (_,_,U,U,k _ _ [] H (.refl D) (.c (.i _)) no mE g)
  ·exact g.elim
 |s a =>
  dsimp only[HF]at g
  split at g
  ·let(U,U):=P.r.str;let(U,U):=q.r.str;exact .inr (.inl (_,_,U,U,g.1,k _ _ [] H (.refl D) (.c (.s _)) no mE g.2))
  ·exact g.elim
 |l a =>
  dsimp only[HF]at g
  split at g
  ·let(a,vs,F1,U,U,h1,s1):=P.r.lst;let(b,ws,G1,U,U,h2,s2):=q.r.lst;obtain rfl:=s1.im g.2.1;obtain rfl:=s2.im g.2.2.1;refine .inr (.inr (.inl (a,b,vs,ws,U,U,h1,h2,by rw[s1.len,s2.len];exact g.1,λp hp=>?_)))
   have rs:Rps K dl H (vs++ws) _ ([] ++ []):=(s1.append s2,λc hc=>nomatch hc)
   exact k _ _ _ _ ((Evo.refl D).new hp) (rs.lst D hp) (λb hb=>by rw[aB.mp hb];exact hp) (by simp) g.2.2.2
  ·exact g.elim
 |t a =>
  dsimp only[HF]at g
  split at g
  ·let(a,vs,U,h1,s1):=P.r.tup;let(b,ws,U,h2,s2):=q.r.tup;obtain rfl:=s1.im g.2.1;obtain rfl:=s2.im g.2.2.1;refine .inr (.inr (.inr (a,b,vs,ws,U,U,SqT.of h1,SqT.of h2,by rw[s1.len,s2.len];exact g.1,λe=>?_,λe1 e2=>?_,λ_ _ p hp=>?_)))
   ·refine k _ _ [] H (.refl D) q no mE ?_;have z:=s1.lC.mp e;subst z;exact g.2.2.2
   ·refine k _ _ [] H (.refl D) P no mE ?_;have z:=s2.lC.mp e2;subst z;have V:=g.2.2.2;rw[qp]at V;exact V
   ·have rs:Rps K dl H (vs++ws) _ ([] ++ []):=(s1.append s2,λc hc=>nomatch hc)
    exact k _ _ _ _ ((Evo.refl D).new hp) (rs.tup D hp) no mE g.2.2.2
  ·exact g.elim
 |_=>exact g.elim
def N3:Q2:=λt u Q=>match t with
 |.i a=>match u with|.i b=>MZ a b/\Q (.i (a*b))|_=>False
 |.s a=>match u with|.i b=>0<=b/\b<=1000/\a.length<=1000/\Q (.s (pf a b.toNat))|_=>False
 |_=>False
def J8:R2:=λx y H Q=>rI MZ (λi j=>.int (i*j)) x y H Q\/(∃z n,x=.str z/\y=.int n/\0<=n/\n<=1000/\z.length<=1000/\Q (.str (pf z n.toNat)) H)
def OE:OpR X (binaryOp .Mult) J8:=pE.or D9
def Nu:gX K J8 N3:=by
 intro dl H x y t u F G Q R D P q g k;cases t with
 |i a =>
  dsimp only[N3]at g
  split at g
  ·let(U,U):=P.r.int;let(U,U):=q.r.int;exact .inl (_,_,U,U,g.1,k _ _ [] H (.refl D) (.c (.i _)) (λ_ z=>nomatch z) mE g.2)
  ·exact g.elim
 |s a =>
  dsimp only[N3]at g
  split at g
  ·let(U,U):=P.r.str;let(U,U):=q.r.int;exact .inr (_,_,U,U,g.1,g.2.1,g.2.2.1,k _ _ [] H (.refl D) (.c (.s _)) (λ_ z=>nomatch z) mE g.2.2.2)
  ·exact g.elim
 |_=>exact g.elim
end
section
variable{X:Cx}{K:BT}{a b:EQ}{ta tb:TE}{qa qb:QE}{pos:Pos}
def az(ha:QPE X K a ta qa)(g:QPE X K b tb qb)(q:‹X.K=K›):QPF X K (.BinOp a .Add b pos) (tOp (Kb K) ta tb) (qOp HF qa qb):=zt (OI q) Nx ha g
def pj(ha:QPE X K a ta qa)(g:QPE X K b tb qb):QPF X K (.BinOp a .Sub b pos) (tOp (rI0 λi j=>.int (i - j)) ta tb) (qOp (qI0 λi j=>.i (i - j)) qa qb):=zt Ld (mH λ_ _ _ _=>.i _) ha g
def Ko(ha:QPE X K a ta qa)(g:QPE X K b tb qb):QPF X K (.BinOp a .Mult b pos) (tOp J8 ta tb) (qOp N3 qa qb):=zt OE Nu ha g
def RX(ha:QPE X K a ta qa)(g:QPE X K b tb qb):QPF X K (.BinOp a .Mod b pos) (tOp (rI (λ_ j=>0<j) λi j=>.int (i % j)) ta tb) (qOp (qII (λ_ j=>0<j) λi j=>.i (i % j)) qa qb):=zt lz (Vb λ_ _ _ _=>.i _) ha g
end
variable{dl:Dl}{H:Hp}{op:CmpOp}{rq:Q2}{j:Nat}
section
variable{X:Cx}{K:BT}{a b c e:EQ}{es rest:List EQ}{ta tb te:TE}{qa qb qe:QE}{tA tB:TT}{qA qB:QT}{tl:TA}{ql:QA}{pos:Pos}
def T.v:T->V
 |.n=>.non|.b x=>.bl x|.i x=>.int x|.s x=>.str x|_=>.ty ""
def T.fl:T->Bool
 |.n=>O|.b _=>O|.i _=>O|.s _=>O|_=>ϊ
theorem aI.v{dl:Dl}{H:Hp}{v:V}{t:T}{F:List J}(h:aI K dl H v t F)(f:t.fl=O):v=t.v/\F=[]:=by
 cases h <;> first|exact(U,U)|exact absurd (f) r8
def qEq:Q2:=λt u Q=>(t.fl&&u.fl&&Nz t.v u.v)=O/\Q (.b (decide (t.v=u.v)))
def qNe:Q2:=λt u Q=>(t.fl&&u.fl&&Nz t.v u.v)=O/\Q (.b (!decide (t.v=u.v)))
def RG:gX K rEq qEq:=by
 intro dl H x y t u F G Q R D P q g k;let(h,g):=g;rw[tY,tY]at h;let(U,U):=P.r.v h.1.1;let(U,U):=q.r.v h.1.2;exact(h.2,k _ _ [] H (.refl D) (.c (.b _)) (λ_ z=>nomatch z) mE g)
def eT:gX K rNe qNe:=by
 intro dl H x y t u F G Q R D P q g k;let(h,g):=g;rw[tY,tY]at h;let(U,U):=P.r.v h.1.1;let(U,U):=q.r.v h.1.2;exact(h.2,k _ _ [] H (.refl D) (.c (.b _)) (λ_ z=>nomatch z) mE g)
def VJ(neg:Bool):Q2:=λt u Q=>match u with
 |.n=>Q (.b (match t with|.n=>!neg|_=>neg))
 |_=>False
def aI.XY{v:V}{t:T}{F:List J}(h:aI K dl H v t F):(!decide (v=.non))=match(generalizing:=false) t with|.n=>!true|_=>true:=by cases h <;> rfl
def A6:gX K (λx y H Q=>y=.non/\Q (.bl (!decide (x=.non))) H) (VJ O):=by
 intro dl H x y t u F G Q R D P q g k;unfold VJ at g
 split at g
 ·let(U,U):=q.r.non;refine(U,k _ _ [] H (.refl D) (.c (.b _)) (λ_ z=>nomatch z) mE ?_)
  rw[P.r.XY];exact g
 ·exact g.elim
def inT(x:T)(xs:List T):Bool:=xs.any λy=>eqV y.v x.v
def fls(xs:List T):Bool:=xs.all T.fl
theorem aA.vs{dl:Dl}{H:Hp}{vs:List V}{ts:List T}{F:List J}(h:aA K dl H vs ts F):fls ts=O->vs=ts.map T.v/\F=[] :=
 h.ind (λ_=>(U,U)) λ_ _ _ _ _ _ h _ g f=>by
  have f:(_&&_)=true:=f;rw[tY]at f;let(U,U):=h.v f.1;let(U,U):=g f.2;exact(U,U)
def wD{ts:List T}(f:fls ts=O):(ts.map T.v).all jK=true:=by
 rw[AE];intro x hx;let(t,g,U):=Jf.mp hx
 have:=AE.mp f t g
 cases t <;> first|rfl|exact absurd this r8
def Pj{t:T}(f:t.fl=O):jK t.v=true:=by cases t <;> first|rfl|exact absurd f r8
def NL(K:BT)(neg:Bool):R2:=λx y H Q=>rIn K neg x y H Q\/∃i j,x=.str i/\y=.str j/\Q (.bl (if neg then !(!(Builtin.Str.occurrences j i 0 j.length 1).isEmpty)else !(Builtin.Str.occurrences j i 0 j.length 1).isEmpty)) H
def pF(g:X.K=K):OpR X (compareOp .In) (NL K ϊ):=by subst g;exact HQ.or HN
def sT(g:X.K=K):OpR X (compareOp .NotIn) (NL K O):=by subst g;exact zH.or zG
def qIn(neg:Bool):Q2:=λt u Q=>match u with
 |.l xs=>(t.fl&&fls xs)=O/\Q (.b (if neg then !inT t xs else inT t xs))
 |.t xs=>(t.fl&&fls xs)=O/\Q (.b (if neg then !inT t xs else inT t xs))
 |.k ws=>match t with
  |.s y=>Q (.b (if neg then !inT (.s y) (ws.map T.s)else inT (.s y) (ws.map T.s)))
  |_=>False
 |.s z=>match t with
  |.s y=>Q (.b (if neg then !(!(Builtin.Str.occurrences z y 0 z.length 1).isEmpty)else !(Builtin.Str.occurrences z y 0 z.length 1).isEmpty))
  |_=>False
 |_=>False
def jW{neg:Bool}:gX K (NL K neg) (qIn neg):=by
 intro dl H x y t u F G Q R D P q g k;have go:∀xs p vs,y=.ref p->(SqL K H p vs\/SqT K H p vs)->(∃G,aA K dl H vs xs G)->(t.fl&&fls xs)=O/\Q (.b (if neg then !inT t xs else inT t xs))->NL K neg x y H R:=by
  rintro xs p vs rfl hs ⟨G,rs⟩ ⟨f,g⟩
  rw[tY]at f;let(U,U):=P.r.v f.1;let(U,_):=rs.vs f.2;refine .inl (p,_,U,hs,Pj f.1,wD f.2,k _ (.b _) [] H (.refl D) (.c (.b _)) (λ_ z=>nomatch z) mE ?_)
  have e:inV t.v (xs.map T.v)=inT t xs:=by unfold inV inT;rw[ZU];rfl
  rw[e];exact g
 cases u with
 |l xs =>
  let(p,vs,G,U,_,h1,h2):=q.r.lst;exact go _ p vs U (.inl (SqL.of h1)) (_,h2) g
 |t xs =>
  let(p,vs,U,h1,h2):=q.r.tup;exact go _ p vs U (.inr (SqT.of h1)) (_,h2) g
 |k ws =>
  dsimp only[qIn]at g
  split at g
  ·let(p,U,h1,_):=q.r.kst;refine go _ p _ U (.inr (h1 H)) (_,ph _) (?_,g);rw[tY];refine(U,?_);unfold fls;rw[ZC,AE];exact λ_ _=>rfl
  ·exact g.elim
 |s z =>
  dsimp only[qIn]at g
  split at g
  ·let(U,U):=P.r.str;let(U,U):=q.r.str;exact .inr (_,_,U,U,k _ _ [] H (.refl D) (.c (.b _)) (λ_ z=>nomatch z) mE g)
  ·exact g.elim
 |_=>exact g.elim
def cI{r:R2}(ho:OpR X (compareOp op) r)(hs:gX K r rq)(hm:behindInMarks op b=ϊ)(ha:QPE X K a ta qa)(g:QPE X K b tb qb):QPF X K (.Compare a [op] [b] pos) (tOp r ta tb) (qOp rq qa qb) :=
 (OB ho ha.h g.h hm,FF hs ha.s g.s)
def jE(qe:QE):QT:=λq Q=>qe q λt=>match t with
 |.b x=>Q x
 |_=>False
def JI(h:jz K te qe):pS K (A0 te) (jE qe):=by
 intro dl H σ q Q R rd z k;refine h dl H σ q _ _ rd z λv t F H' e r g=>?_
 split at g
 ·let(U,U):=r.r.bl;exact(_,U,k _ H' e g)
 ·exact g.elim
def bQ{r:R2}(ho:OpR X (compareOp op) r)(hs:gX K r rq)(hm:behindInMarks op b=ϊ)(ha:QPE X K a ta qa)(g:QPE X K b tb qb):QPT X K (.Compare a [op] [b] pos) (A0 (tOp r ta tb)) (jE (qOp rq qa qb)) :=
 (nQ ho ha.h g.h hm,JI (JL hs.w ha.s g.s))
def Ku(qe:QE):QT:=λq Q=>qe q λt=>match t with
 |.b x=>Q x
 |.n=>Q ϊ
 |.i x=>Q (x != 0)
 |.s x=>x.length<=px/\Q ((x.length:Int) != 0)
 |.l xs=>Q (!xs.isEmpty)
 |.t xs=>Q (!xs.isEmpty)
 |.d xs=>Q (!xs.isEmpty)
 |_=>False
def Np(h:jz K te qe):pS K (λσ H Q=>te σ H λx H'=>∃k,PD K x H' k/\Q k H') (Ku qe):=by
 intro dl H σ q Q R rd z k;refine h dl H σ q _ _ rd z λv t F H' e r g=>?_
 have emp:∀{α β:Type}{xs:List α}{ys:List β},xs.length=ys.length->(!xs.isEmpty) = !ys.isEmpty:=λ{α β xs ys} h=>by
  cases xs <;> cases ys <;> first|rfl|(simp at h)
 cases t with
 |b x =>
  let(U,U):=r.r.bl;exact(_,U,k _ H' e g)
 |n =>
  let(U,U):=r.r.non;exact(_,U,k _ H' e g)
 |i x =>
  let(U,U):=r.r.int;exact(_,U,k _ H' e g)
 |s x =>
  let(U,U):=r.r.str;exact(_,(g.1,U),k _ H' e g.2)
 |l xs =>
  let(p,vs,G,U,_,h1,h2):=r.r.lst;exact(_,.inl (vs,SqL.of h1,U),k _ H' e (by rw[emp h2.len];exact g))
 |t xs =>
  let(p,vs,U,h1,h2):=r.r.tup;exact(_,.inr (.inl (vs,SqT.of h1,U)),k _ H' e (by rw[emp h2.len];exact g))
 |d xs =>
  let(p,vs,G,U,_,h1,h2):=r.r.dic;exact(_,.inr (.inr (vs,h1,U)),k _ H' e (by rw[emp h2.len];exact g))
 |_=>exact g.elim
def bp(h:QPE X K e te qe)(he:∀whole,isTrue e X.env whole=(do let v <- whole;standAt e.pos;holding [v] (truthy v)):=by intro _;rfl)(g:‹X.K=K›):
  QPT X K e (λσ H Q=>te σ H λx H'=>∃k,PD K x H' k/\Q k H') (Ku qe):=(by subst g;exact KN h.h he,Np h.s)
def Kw(t:QT):QT:=λq Q=>t q λc=>Q (!c)
def DU(t u:QT):QT:=λq Q=>t q λc=>if c=O then u q Q else Q ϊ
def qOr(t u:QT):QT:=λq Q=>t q λc=>if c=O then Q O else u q Q
def Nt(h:pS K tA qA):pS K (Rq tA) (Kw qA):=λdl H σ q _ R rd z k=>h dl H σ q _ _ rd z λb H' e g=>k _ H' e g
def Nw(h:pS K tA qA)(h2:pS K tB qB):pS K (Rx tA tB) (DU qA qB):=λdl H σ q Q R rd P k=>h dl H σ q _ _ rd P λb H' e g=>by
 cases b with
 |false=>exact k _ H' e g
 |true=>exact h2 dl H' σ q Q R (rd.evo e) g λc H2 V z=>k c H2 (e.trans V) z
def RE(h:pS K tA qA)(h2:pS K tB qB):pS K (tOr tA tB) (qOr qA qB):=λdl H σ q Q R rd P k=>h dl H σ q _ _ rd P λb H' e g=>by
 cases b with
 |true=>exact k _ H' e g
 |false=>exact h2 dl H' σ q Q R (rd.evo e) g λc H2 V z=>k c H2 (e.trans V) z
def fw(h:QPT X K a tA qA):QPT X K (.UnaryOp .Not a pos) (Rq tA) (Kw qA):=(Sj h.h,Nt h.s)
def i6(h:QPT X K a tA qA):QPW X K (.BoolOp .And [a] pos) tA qA:=(FR h.h,h.s)
def k9(h:QPT X K a tA qA):QPW X K (.BoolOp .Or [a] pos) tA qA:=(Sf h.h,h.s)
def j8(h:QPT X K a tA qA)(h2:QPW X K (.BoolOp .And (b::rest) pos) tB qB):QPW X K (.BoolOp .And (a::b::rest) pos) (Rx tA tB) (DU qA qB):=(KH h.h h2.h,Nw h.s h2.s)
def kB(h:QPT X K a tA qA)(h2:QPW X K (.BoolOp .Or (b::rest) pos) tB qB):QPW X K (.BoolOp .Or (a::b::rest) pos) (tOr tA tB) (qOr qA qB):=(VT h.h h2.h,RE h.s h2.s)
theorem QPW.pt(h:QPW X K e tA qA):QPT X K e tA qA:=(h.h.pt,h.s)
def P8(qa qb:QE):QE:=λq Q=>qa q λt=>match t with
 |.b c=>if c=O then qb q Q else Q (.b ϊ)
 |_=>False
def VF(qa qb:QE):QE:=λq Q=>qa q λt=>match t with
 |.b c=>if c=O then Q (.b O)else qb q Q
 |_=>False
def JS(h:jz K ta qa)(h2:kN K tb qb):kN K (JA ta tb) (P8 qa qb):=λdl H σ q Q R rd hq k=>h dl H σ q _ _ rd hq λv t F H' e r g=>by
 split at g
 ·rename_i c;let(U,U):=r.r.bl;refine(c,U,?_);cases c with
  |false=>exact k _ _ [] H' e r (λ_ z=>nomatch z) mE g
  |true=>exact h2 dl H' σ q Q R (rd.evo e) g λw u G H2 e2 P f2 V z=>k w u G H2 (e.trans e2) P (λb hb=>e.free (f2 b hb)) V z
 ·exact g.elim
def Nr(h:jz K ta qa)(h2:kN K tb qb):kN K (Ro ta tb) (VF qa qb):=λdl H σ q Q R rd hq k=>h dl H σ q _ _ rd hq λv t F H' e r g=>by
 split at g
 ·rename_i c;let(U,U):=r.r.bl;refine(c,U,?_);cases c with
  |true=>exact k _ _ [] H' e r (λ_ z=>nomatch z) mE g
  |false=>exact h2 dl H' σ q Q R (rd.evo e) g λw u G H2 e2 P f2 V z=>k w u G H2 (e.trans e2) P (λb hb=>e.free (f2 b hb)) V z
 ·exact g.elim
def sO{op}(h:QPF X K a ta qa):QPF X K (.BoolOp op [a] pos) ta qa:=(SU h.h,h.s)
def vN(ha:QPE X K a ta qa)(g:QPF X K (.BoolOp .And (b::rest) pos) tb qb):QPF X K (.BoolOp .And (a::b::rest) pos) (JA ta tb) (P8 qa qb):=(SW ha.h g.h,JS ha.s g.s)
def Vz(ha:QPE X K a ta qa)(g:QPF X K (.BoolOp .Or (b::rest) pos) tb qb):QPF X K (.BoolOp .Or (a::b::rest) pos) (Ro ta tb) (VF qa qb):=(V1 ha.h g.h,Nr ha.s g.s)
def qIf(t:QT)(qa qb:QE):QE:=λq Q=>t q λc=>if c=O then qa q Q else qb q Q
def P0(hc:QPT X K c tA qA)(ha:QPF X K a ta qa)(g:QPF X K b tb qb):QPF X K (.IfExp c a b pos) (tIf tA ta tb) (qIf qA qa qb):=(K8 hc.h ha.h g.h,λdl H σ q Q R rd hq k=>hc.s dl H σ q _ _ rd hq λd H' e hz=>by
 cases d with
 |true=>exact ha.s dl H' σ q Q R (rd.evo e) hz λw u G H2 e2 P f2 V z=>k w u G H2 (e.trans e2) P (λb g=>e.free (f2 b g)) V z
 |false=>exact g.s dl H' σ q Q R (rd.evo e) hz λw u G H2 e2 P f2 V z=>k w u G H2 (e.trans e2) P (λb g=>e.free (f2 b g)) V z)
def ij(ha:QPE X K a ta qa):QPF X K (.UnaryOp .USub a pos) (tUn (rU λi=>.int (-i)) ta) (λq Q=>qa q λt=>match t with|.i x=>Q (.i (-x))|_=>False):=(FZ zf ha.h,λdl H σ q Q R rd P k=>ha.s dl H σ q _ _ rd P λv t F H' e r g=>by
 split at g
 ·let(U,U):=r.r.int;exact(_,U,k _ _ [] H' e (.c (.i _)) (λ_ z=>nomatch z) mE g)
 ·exact g.elim)
def R5:QA:=λ_ Q=>Q []
def KA(qa:QE)(ql:QA):QA:=λq Q=>qa q λt=>ql q λts=>Q (t::ts)
def aF:AA X K [] f9 R5:=(dW,λdl H σ q Q R rd g k=>k [] [] [] H (.refl rd.d) (.nil,λ_ z=>nomatch z) U (λ_ z=>nomatch z) mE g)
def AA.w(h:AA X K es tl ql):QPA X K es tl ql:=(h.h,λdl H σ q Q R rd g k=>h.s dl H σ q Q R rd g λvs ts F H' e r l _ _ z=>k vs ts F H' e r l z)
theorem Rps.cons{dl:Dl}{H:Hp}{v:V}{t:T}{vs:List V}{ts:List T}{F G:List J}(h:Rp K dl H v t F)(r:Rps K dl H vs ts G):Rps K dl H (v::vs) (t::ts) (F++G):=(.cons h.r r.r,λb g=>(lS.mp g).elim (h.n b) (r.n b))
def ae(ha:QPE X K e te qe)(hr:QPA X K es tl ql)(hs:‹AC X e es›):QPA X K (e::es) (bP te tl) (KA qe ql) :=
 (bh ha.h hr.h hs,λdl H σ q Q R rd hq k=>ha.s dl H σ q _ _ rd hq λv t F H1 g r1 hz=>hr.s dl H1 σ q _ _ (rd.evo g) hz λvs ts G H2 P V l2 z=>k _ _ _ H2 (g.trans P) (.cons (r1.evo g.d P) V) (by simp[l2]) z)
def ai(ha:QPF X K e te qe)(hr:AA X K es tl ql)(hs:‹AC X e es›):AA X K (e::es) (bP te tl) (KA qe ql) :=
 (bh ha.h hr.h hs,λdl H σ q Q R rd hq k=>ha.s dl H σ q _ _ rd hq λv t F H1 g r1 f1 n1 hz=>hr.s dl H1 σ q _ _ (rd.evo g) hz λvs ts G H2 e2 r2 l2 f2 n2 z =>
  k _ _ _ H2 (g.trans e2) (.cons (r1.evo g.d e2) r2) (by simp[l2]) (λb P=>(lS.mp P).elim (f1 b) λP=>g.free (f2 b P)) (ya.mpr (n1,n2,λx hx y hy V=>by
   subst V;exact(r1.r.there x hx).no (f2 x hy))) z)
def XJ(ql:QA):QE:=λq Q=>ql q λts=>Q (.t ts)
def XO(ql:QA):QE:=λq Q=>ql q λts=>Q (.l ts)
def bt{P}(h:AA X K es tl ql)(hz:es.length<=1000:=by decide):QPF X K (.Tuple es P pos) (Jv tl) (XJ ql):=(D4 h.h,λdl H σ q Q R rd hq k=>h.s dl H σ q _ _ rd hq λvs ts F H1 g V l1 f1 n1 z =>
 (xj (bq (by lia)),λp hp=>k _ _ F _ (g.new hp) (V.tup g.d hp) f1 n1 z))
def aZ(h:AA X K es tl ql)(hz:es.length<=1000:=by decide):QPF X K (.List es pos) (Rr tl) (XO ql):=(K7 h.h,λdl H σ q Q R rd hq k=>h.s dl H σ q _ _ rd hq λvs ts F H1 P V l1 f1 n1 z =>
 (xj (bq (by omega)),λp hp=>k _ _ (p::F) _ (P.new hp) (V.lst P.d hp) (λb g=>by
  obtain e|g:=fH.mp g
  ·rw[e];exact P.free hp
  ·exact f1 b g) (V.fresh hp n1) z))
def dq{ws:List Str}(h:strsOf es=Z ws)(hl:‹es.length=ws.length›):AA X K es (λ_ H Q=>Q (ws.map V.str) H) (λ_ Q=>Q (ws.map T.s)) :=
 (OD h,λdl H σ q Q R rd g k=>k _ _ [] H (.refl rd.d) (ph ws,λ_ z=>nomatch z) (by rw[gV];exact hl.symm) (λ_ z=>nomatch z) mE g)
def qIx:Q2:=λt u Q=>match u with
 |.i k=>match t with
  |.l xs=>Ex2 (λx=>atI xs k=Z x) Q
  |.t xs=>Ex2 (λx=>atI xs k=Z x) Q
  |.z ns=>Ex3 (λx=>atI ns k=Z x) (λx=>(.i x)) Q
  |.zl xs=>Ex2 (λx=>atI xs k=Z x) Q
  |.s z=>z.length<=px/\Ex3 (λc=>atI z.cps.toList k=Z c) (λc=>(.s ⟨#[c]⟩)) Q
  |_=>False
 |_=>False
def rR{α β:Type}{xs:List α}{ys:List β}{k:Int}{x:α}(h:atI xs k=Z x)(hl:xs.length=ys.length):∃j:Nat,xs[j]?=Z x/\ixN ys.length k=Z j:=by
 unfold atI at h;cases e:ixN xs.length k with
 |none=>rw[e]at h;cases h
 |some j=>rw[e]at h;exact(j,h,by rw[<- hl];exact e)
def pR{α:Type}{xs:List α}{k:Int}{x:α}(h:ixN xs.length k=Z j)(hx:xs[j]?=Z x):atI xs k=Z x:=by unfold atI;rw[h];exact hx
def RF:UJ K (rIx K) qIx:=by
 intro dl H x y t u F G Q R D q r2 g k;unfold qIx at g
 split at g
 ·rename_i k0;let(U,U):=r2.r.int;cases t with
  |l xs =>
   let(p,vs,G,U,U,h1,h2):=q.r.lst;let(z,P,g):=g;let(j,hj,hi):=rR P h2.len.symm;let(v,G',hv,rv,hs):=h2.get hj;exact .inl (p,vs,k0,v,U,U,SqL.of h1,pR hi hv,k v z G' H (.refl D) (Rp.sub rv q.n λb hb=>aJ _ (hs b hb)) g)
  |t xs =>
   let(p,vs,U,h1,h2):=q.r.tup;let(z,P,g):=g;let(j,hj,hi):=rR P h2.len.symm;let(v,G',hv,rv,hs):=h2.get hj;exact .inr (.inl (p,vs,k0,v,U,U,SqT.of h1,pR hi hv,k v z G' H (.refl D) (Rp.sub rv q.n hs) g))
  |z ns =>
   let(p,U,h1,_):=q.r.scr;let(z,P,g):=g;refine .inl (p,_,k0,.int z,U,U,h1.sq,?_,k _ _ [] H (.refl D) (.c (.i _)) g);let(j,hj,hi):=rR (ys:=(_:List Int).map V.int) P (by rw[gV])
   exact pR hi (by rw[ti,hj];rfl)
  |zl xs =>
   let(p,o,vs,U,U,h1,h2):=q.r.zls;let(z,P,g):=g;let(j,hj,hi):=rR P h2.len.symm;let(v,G',hv,rv,hs):=h2.get hj;exact .inl (p,vs,k0,v,U,U,.inl (.inr (o,h1)),pR hi hv,k v z G' H (.refl D) (Rp.sub rv q.n hs) g)
  |s z =>
   let(U,U):=q.r.str;let(hl,c,hc,g):=g;exact .inr (.inr (_,k0,c,U,U,hl,hc,k _ _ [] H (.refl D) (.c (.s _)) g))
  |_=>exact g.elim
 ·exact g.elim
def bw(ha:QPE X K a ta qa)(g:QPE X K b tb qb)(hs:rX b:=by intro _ _;rfl)(q:‹X.K=K›):QPE X K (.Subscript a b pos) (tOp (rIx K) ta tb) (qOp qIx qa qb):=(by subst q;exact F6 z6 ha.h g.h hs,JL RF ha.s g.s)
end
variable{A:Do}{E:B->ϋ->Prop}{s:ϋ}{items:Array B}{Q:B->ϋ->Prop}{n:Nat}{r:List V->Hp->VK->Prop}{g:Int->Int->Int}
section
variable{X:Cx}{K:BT}{a b c e:EQ}{es:List EQ}{te:TE}{qe:QE}{tl:TA}{ql:QA}{pos p:Pos}
abbrev QO:=Sq->(Option Int->Prop)->Prop
def Yv(K:BT)(t:TO)(tq:QO):Prop:=∀(dl:Dl)(H:Hp)(σ:St)(q:Sq)(Q:Option Int->Prop)(R:Option Int->Hp->Prop),RdR K dl H σ q->tq q Q->(∀o H',Evo dl H H'->Q o->R o H')->t σ H R
structure QPO(X:Cx)(K:BT)(e:Option EQ)(t:TO)(tq:QO):Prop where
 h:PO X e t
 s:Yv K t tq
def cM:QPO X K Y Fj (λ_ Q=>Q Y):=(Ov,λ_ _ _ _ _ _ rd g k=>k Y _ (.refl rd.d) g)
def cy(h:QPE X K e te qe):QPO X K (Z e) (PN te) (λq Q=>qe q λt=>match t with|.i x=>Q (Z x)|_=>False):=(zz h.h,λdl H σ q Q R rd z k=>h.s dl H σ q _ _ rd z λv t F H' e r g=>by
 split at g
 ·let(U,U):=r.r.int;exact(_,U,k _ H' e g)
 ·exact g.elim)
def eI{α:Type}(xs:List α)(lo hi:Option Int):List α:=(xs.drop (HT.sIx xs.length 0 lo)).take (HT.sIx xs.length xs.length hi - HT.sIx xs.length 0 lo)
def aA.cut{vs:List V}{ts:List T}{F:List J}(lo hi:Option Int)(h:aA K dl H vs ts F):∃G,aA K dl H (rJ vs lo hi) (eI ts lo hi) G/\G.Sublist F:=by
 unfold rJ eI;rw[h.len];let(G,h1,s1):=h.drop (HT.sIx ts.length 0 lo);let(g,h2,s2):=h1.take (HT.sIx ts.length ts.length hi - HT.sIx ts.length 0 lo);exact(g,h2,s2.trans s1)
def oj{prog:Db}{w:Da}{t sl:J}{V P:B}{lo hi:Option Int}(g:IsTup s.heap t items)(hs:s.heap.IsSliceOf sl V P .none)(pl:IsPart V lo)(pu:IsPart P hi)
  (hw:HT.sIx items.size 0 lo=0/\HT.sIx items.size items.size hi=items.size)
  (h:Q (.ref t) s):wpAny (model prog w) A (getItem (.ref t) (.ref sl)) Q E s:=by
 let(os,q,z,ah):=id hs;have K:s.TypeIs (.ref sl) "slice":=(os,q,z);have hT:=g.typeIs;unfold getItem
 try with_reducible refine Y6 ?_
 refine dO (wpAny_sequenceKey g.typeIs (by decide) ?_)
 refine dO (wpAny_callSpecial?_slot g.typeIs PyProof.Rows.slot_tuple_getitem
  (YZ PyProof.Rows.slot_tuple_getitem g.typeIs entry_tuple_getitem ?_ (args_tuple_getitem _ _)))
 show wpAny _ _ (Builtin.Tuple.tupleItemsOf (.ref t) >>= _) _ _ s;refine dO (tupleItemsOf_ g (dO (ZD K ?_)));refine dO (HT.kr hs pl pu ?_);have hy:(((HT.sIx items.size 0 lo):Int)==0&&(1:Int)==1&&(HT.sIx items.size items.size hi - HT.sIx items.size 0 lo)==items.size)=true:=by
  rw[hw.1,hw.2];simp
 show wpAny _ _ (if(((HT.sIx items.size 0 lo):Int)==0&&(1)==1&&(HT.sIx items.size items.size hi - HT.sIx items.size 0 lo)==items.size)=O then _ else _) _ _ s
 rw[if_pos hy];exact dO (dO (ZD hT (u7 (by rw[if_pos (by decide)];exact dO (ZY (u7 (_,U,u7 h)))))))
inductive Vg(K:BT)(x:V)(lo:Option Int)(hi:Option Int)(H:Hp)(Q:VK):Prop
 |mk(a xs:_)(h1:x=.ref a)(h2:SqT K H a xs)(h3:((HT.sIx xs.length 0 lo=0/\HT.sIx xs.length xs.length hi=xs.length)->Q (.ref a) H))(h4:(¬(HT.sIx xs.length 0 lo=0/\HT.sIx xs.length xs.length hi=xs.length)->∀p,H p=Y->Q (.ref p) (upd H p (.tup (rJ xs lo hi)))))
def Nm:SlR X (Vg X.K):=by
 intro gd s σ H x v P z lo hi sl Q I g hs pl pu h;let(a,xs,U,hx,q1,V):=h;by_cases hw:HT.sIx xs.length 0 lo=0/\HT.sIx xs.length xs.length hi=xs.length
 ·cases g;let(its,r,q,hz):=I.tuple hx;have hlen:its.toArray.size=xs.length:=by exact r.length.symm
  exact("tuple",_,PyProof.Rows.slot_tuple_getitem.lookup,q.typeIs,oj q hs pl pu (by rw[hlen];exact hw) (.ref a,H,I,U,q1 hw))
 ·exact RC gd s σ H _ v P z lo hi sl Q I g hs pl pu (a,xs,U,hx,hw,V hw)
def IK{α:Type}{xs:List α}{lo hi:Option Int}(h:HT.sIx xs.length 0 lo=0/\HT.sIx xs.length xs.length hi=xs.length):eI xs lo hi=xs:=by
 unfold eI;rw[h.1,h.2];simp
def Vj(K:BT):V->Option Int->Option Int->Hp->VK->Prop:=λx lo hi H Q=>Vi K x lo hi H Q\/Vg K x lo hi H Q\/Vh x lo hi H Q
def XE(g:X.K=K):SlR X (Vj K):=by subst g;exact FD.or (Nm.or RD)
def qSl(qe:QE)(l u:QO):QE:=λq Q=>qe q λt=>l q λlo=>u q λhi=>match t with
 |.l xs=>T.ims xs=O/\Q (.l (eI xs lo hi))
 |.t xs=>T.ims xs=O/\Q (.t (eI xs lo hi))
 |.z ns=>Q (.l ((eI ns lo hi).map T.i))
 |.zl xs=>Q (.l (eI xs lo hi))
 |.s z=>z.length<=px/\Q (.s (Txt.slice z lo hi))
 |_=>False
def bR{l u:Option EQ}{ah ak:TO}{aq av:QO}(he:QPE X K e te qe)(hl:QPO X K l ah aq)(hu:QPO X K u ak av)(hK:‹X.K=K›):QPF X K (.Subscript e (.Slice l u Y p2) pos) (tSl (Vj K) te ah ak) (qSl qe aq av) :=
 (Bq (XE hK) he.h hl.h hu.h,λdl H σ q Q R rd hq k=>he.s dl H σ q _ _ rd hq λv t F H1 e1 r1 g=>hl.s dl H1 σ q _ _ (rd.evo e1) g λlo H2 e2 g=>hu.s dl H2 σ q _ _ ((rd.evo e1).evo e2) g λhi H3 e3 g=>by
  have r3:=(r1.evo e1.d e2).evo e2.d e3;have P:=(e1.trans e2).trans e3;have no:∀b,b∈([])->H b=none:=λ_ z=>nomatch z
  cases t with
  |l xs =>
   let(p,vs,G,U,U,h1,h2):=r3.r.lst;obtain rfl:=h2.im g.1;let(G,h3,s3):=h2.cut lo hi;obtain rfl:=Zr.mp s3;refine .inl (p,vs,U,SqL.of h1,λp hp=>?_)
   have rs:Rps K dl H3 (rJ vs lo hi) _ []:=(h3,λc hc=>nomatch hc)
   exact k _ _ _ _ (P.new hp) (rs.lst e3.d hp) (λb hb=>by rw[aB.mp hb];exact P.free hp) (by simp) g.2
  |t xs =>
   let(p,vs,U,h1,h2):=r3.r.tup;obtain rfl:=h2.im g.1;let(G,h3,s3):=h2.cut lo hi;obtain rfl:=Zr.mp s3;refine .inr (.inl (p,vs,U,SqT.of h1,λhw=>?_,λ_ p hp=>?_))
   ·refine k _ _ _ _ P r3 no mE ?_;rw[h2.len]at hw;have aD:=g.2;rw[IK hw]at aD;exact aD
   ·have rs:Rps K dl H3 (rJ vs lo hi) _ []:=(h3,λc hc=>nomatch hc)
    exact k _ _ _ _ (P.new hp) (rs.tup e3.d hp) no mE g.2
  |z ns =>
   let(p,U,h1,_):=r3.r.scr;refine .inl (p,_,U,h1.sq,λp hp=>?_)
   have e:rJ (ns.map V.int) lo hi=(eI ns lo hi).map V.int:=by unfold rJ eI;rw[gV,<- ZJ,<- ZK]
   rw[e];have rs:Rps K dl H3 ((eI ns lo hi).map V.int) ((eI ns lo hi).map T.i) []:=(vJ _,λc hc=>nomatch hc)
   exact k _ _ _ _ (P.new hp) (rs.lst e3.d hp) (λb hb=>by rw[aB.mp hb];exact P.free hp) (by simp) g
  |zl xs =>
   let(p,o,vs,U,U,h1,h2):=r3.r.zls;let(G,h3,s3):=h2.cut lo hi;obtain rfl:=Zr.mp s3;refine .inl (p,vs,U,.inl (.inr (o,h1)),λp hp=>?_)
   have rs:Rps K dl H3 (rJ vs lo hi) _ []:=(h3,λc hc=>nomatch hc)
   exact k _ _ _ _ (P.new hp) (rs.lst e3.d hp) (λb hb=>by rw[aB.mp hb];exact P.free hp) (by simp) g
  |s z =>
   let(U,U):=r3.r.str;exact .inr (.inr (_,U,g.1,k _ _ [] H3 P (.c (.s _)) no mE g.2))
  |_=>exact g.elim)
abbrev QC:=List T->(T->Prop)->Prop
def tS(K:BT)(r:List V->Hp->VK->Prop)(rq:QC):Prop:=∀(dl:Dl)(H:Hp)(vs:List V)(ts:List T)(F:List J)(Q:T->Prop)(R:V->Hp->Prop),Dls dl H->Rps K dl H vs ts F->rq ts Q ->
 (∀v z F' H',Evo dl H H'->Rp K dl H' v z F'->(∀b∈F',H b=Y)->F'.Nodup->Q z->R v H')->r vs H R
def qCB(rq:QC)(ql:QA):QE:=λq Q=>ql q λts=>rq ts Q
def JQ{rq:QC}(h:tS K r rq)(hl:Ay K n tl ql):kN K (tCB r tl) (qCB rq ql):=λdl H σ q Q R rd hq k=>hl dl H σ q _ _ rd hq λvs ts F H1 P r1 _ g =>
 h dl H1 vs ts F Q R P.d r1 g λv z F' H2 e2 V f2 n2 g=>k v z F' H2 (P.trans e2) V (λb hb=>P.free (f2 b hb)) n2 g
def gj{id:String}{rq:QC}(z:df X (.builtin id) r)(hs:tS K r rq)(hg:Gl X x)(hm:X.mg x=Y)(hv:bootBuiltins x=Z (.builtin id))(ha:QPA X K (e::es) tl ql)(hn:x ≠ "__name__":=by decide)(q:AS x:=by decide)
  (he:‹AC X e es›) (g:‹AM X pos es›):QPF X K (.Call (.Name x p) (e::es) [] pos) (tCB r tl) (qCB rq ql):=(kD z hg hm hv ha.h hn q he g,JQ hs ha.s)
def aU{id:String}{rq:QC}(z:df X (.type id) r)(hs:tS K r rq)(hg:Gl X x)(hm:X.mg x=Y)(hv:bootBuiltins x=Z (.type id))(ha:QPA X K (e::es) tl ql)(hn:x ≠ "__name__":=by decide)(q:AS x:=by decide)
  (he:‹AC X e es›) (g:‹AM X pos es›):QPF X K (.Call (.Name x p) (e::es) [] pos) (tCB r tl) (qCB rq ql):=(HM z hg hm hv ha.h hn q he g,JQ hs ha.s)
def Rps.one{vs:List V}{t:T}{F:List J}(h:Rps K dl H vs [t] F):∃v,vs=[v]/\Rp K dl H v t F:=by
 let(r,n):=h;cases r with
 |cons q g =>
  cases g;rw[qp]at n;rw[qp];exact(_,U,q,n)
def Rps.two{vs:List V}{t u:T}{F:List J}(h:Rps K dl H vs [t,u] F):∃v w Q P,vs=[v,w]/\Rp K dl H v t Q/\Rp K dl H w u P:=by
 let(r,n):=h;cases r with
 |cons z q =>
  let(w,U,h2):=Rps.one (q,λb g=>n b (mu _ g))
  exact(_,w,_,_,U,(z,λb g=>n b (ot _ g)),h2)
def J9(K:BT):List V->Hp->VK->Prop:=λxs H Q=>(∃p ys,xs=[.ref p]/\(SqL K H p ys\/SqT K H p ys)/\Q (.int ys.length) H)\/(∃z,xs=[.str z]/\z.length<=px/\Q (.int z.length) H)\/∃a kvs,xs=[V.ref a]/\H a=Z (.dK kvs)/\Q (.int kvs.length) H
def IV(g:X.K=K):df X (.builtin "len") (J9 K):=by subst g;exact rO.or (An.or IU)
def VG:QC:=λts Q=>on1 ts λt=>match t with
 |.l xs=>Q (.i xs.length)
 |.t xs=>Q (.i xs.length)
 |.z xs=>Q (.i xs.length)
 |.zl xs=>Q (.i xs.length)
 |.d xs=>Q (.i xs.length)
 |.s x=>x.length<=px/\Q (.i x.length)
 |_=>False
def Nv:tS K (J9 K) VG:=by
 intro dl H vs ts F Q R D r g k;have fin:∀n,Q (.i n)->R (.int n) H:=λn g=>k _ _ [] H (.refl D) (.c (.i _)) (λ_ z=>nomatch z) mE g
 replace g:=on1.inv g
 let(t,U,g):=g;let(v,U,r'):=r.one;cases t with
 |l xs =>
  let(p,vs,G,U,_,h1,h2):=r'.r.lst;exact .inl (p,vs,U,.inl (SqL.of h1),fin _ (by rw[h2.len];exact g))
 |t xs =>
  let(p,vs,U,h1,h2):=r'.r.tup;exact .inl (p,vs,U,.inr (SqT.of h1),fin _ (by rw[h2.len];exact g))
 |z xs =>
  let(p,U,h1,_):=r'.r.scr;exact .inl (p,_,U,.inl h1.sq,fin _ (by rw[gV];exact g))
 |zl xs =>
  let(p,o,vs,U,_,h1,h2):=r'.r.zls;exact .inl (p,vs,U,.inl (.inl (.inr (o,h1))),fin _ (by rw[h2.len];exact g))
 |d xs =>
  let(p,vs,G,U,_,h1,h2):=r'.r.dic;exact .inr (.inr (p,vs,U,h1,fin _ (by rw[h2.len];exact g)))
 |s x =>
  let(U,_):=r'.r.str;exact .inr (.inl (_,U,g.1,fin _ g.2))
 |_=>exact g.elim
def qI2(g:Int->Int->Int):QC:=λts Q=>on2 ts λt u=>match t with
 |.i a=>match u with
  |.i b=>Q (.i (g a b))
  |_=>False
 |_=>False
def JO:tS K (λxs H Q=>∃i j,xs=[.int i,.int j]/\Q (.int (g i j)) H) (qI2 g):=by
 intro dl H vs ts F Q R D r q k
 replace q:=on2.inv q
 let(t,u,U,q):=q
 split at q
 ·split at q
  ·let(v,w,F1,F2,U,V,P):=r.two;let(U,_):=V.r.int;let(U,_):=P.r.int;exact(_,_,U,k _ _ [] H (.refl D) (.c (.i _)) (λ_ z=>nomatch z) mE q)
  ·exact q.elim
 ·exact q.elim
def XR:QC:=λts Q=>on1 ts λt=>match t with
 |.i a=>Q (.i a)
 |.b k=>Q (.i (if k then 1 else 0))
 |_=>False
def gL:tS K (λxs H Q=>(∃i,xs=[.int i]/\Q (.int i) H)\/∃k,xs=[.bl k]/\Q (.int (if k then 1 else 0)) H) XR:=by
 intro dl H vs ts F Q R D r g k
 replace g:=on1.inv g
 let(t,U,g):=g;cases t with
 |i a =>
  let(v,U,r'):=r.one;let(U,_):=r'.r.int;exact .inl (_,U,k _ _ [] H (.refl D) (.c (.i _)) (λ_ z=>nomatch z) mE g)
 |b c =>
  let(v,U,r'):=r.one;let(U,_):=r'.r.bl;exact .inr (_,U,k _ _ [] H (.refl D) (.c (.i _)) (λ_ z=>nomatch z) mE g)
 |_=>exact g.elim
def R3:QC:=λts Q=>on1 ts λt=>match t with
 |.l xs=>T.ims xs=O/\Q (.t xs)
 |.t xs=>T.ims xs=O/\Q (.t xs)
 |_=>False
def cE(g:X.K=K):df X (.type "tuple") (λxs H Q=>∃p ys,xs=[.ref p]/\((SqL K H p ys/\∀l,H l=Y->Q (.ref l) (upd H l (.tup ys)))\/(SqT K H p ys/\Q (.ref p) H))):=by subst g;exact xW
def cB:tS K (λxs H Q=>∃p ys,xs=[.ref p]/\((SqL K H p ys/\∀l,H l=Y->Q (.ref l) (upd H l (.tup ys)))\/(SqT K H p ys/\Q (.ref p) H))) R3:=by
 intro dl H vs ts F Q R D r g k;have no:∀b,b∈([])->H b=none:=λ_ z=>nomatch z
 replace g:=on1.inv g
 let(t,U,g):=g;cases t with
 |l xs =>
  let(v,U,r'):=r.one;let(p,vs,G,U,U,h1,h2):=r'.r.lst;obtain rfl:=h2.im g.1;refine(p,vs,U,.inl (SqL.of h1,λl hl=>?_))
  have rs:Rps K dl H vs _ []:=(h2,λc q=>nomatch q)
  exact k _ _ _ _ ((Evo.refl D).new hl) (rs.tup D hl) no mE g.2
 |t xs =>
  let(v,U,r'):=r.one;let(p,vs,U,h1,h2):=r'.r.tup;obtain rfl:=h2.im g.1;exact(p,vs,U,.inr (SqT.of h1,k _ _ [] H (.refl D) r' no mE g.2))
 |_=>exact g.elim
def R4:QC:=λts Q=>on1 ts λt=>match t with
 |.l xs=>T.ims xs=O/\Q (.l xs)
 |.t xs=>T.ims xs=O/\Q (.l xs)
 |_=>False
def n8(g:X.K=K):df X (.type "list") (λxs H Q=>∃p ys,xs=[.ref p]/\(SqL K H p ys\/SqT K H p ys)/\∀l,H l=Y->Q (.ref l) (upd H l (.lst ys))):=by subst g;exact Am
def nL:tS K (λxs H Q=>∃p ys,xs=[.ref p]/\(SqL K H p ys\/SqT K H p ys)/\∀l,H l=Y->Q (.ref l) (upd H l (.lst ys))) R4:=by
 intro dl H vs ts F Q R D r g k
 replace g:=on1.inv g
 let(t,U,g):=g;cases t with
 |l xs =>
  let(v,U,r'):=r.one;let(p,vs,G,U,U,h1,h2):=r'.r.lst;obtain rfl:=h2.im g.1;refine(p,vs,U,.inl (SqL.of h1),λl hl=>?_)
  have rs:Rps K dl H vs _ []:=(h2,λc q=>nomatch q)
  exact k _ _ _ _ ((Evo.refl D).new hl) (rs.lst D hl) (λb z=>by rw[aB.mp z];exact hl) (by simp) g.2
 |t xs =>
  let(v,U,r'):=r.one;let(p,vs,U,h1,h2):=r'.r.tup;obtain rfl:=h2.im g.1;refine(p,vs,U,.inr (SqT.of h1),λl hl=>?_)
  have rs:Rps K dl H vs _ []:=(h2,λc q=>nomatch q)
  exact k _ _ _ _ ((Evo.refl D).new hl) (rs.lst D hl) (λb z=>by rw[aB.mp z];exact hl) (by simp) g.2
 |_=>exact g.elim
def picks{α:Type}(f:T->Option α):List T->Option (List α)
 |[]=>Z []
 |t::r=>(f t).bind λa=>(picks f r).map (a :: ·)
theorem aA.picks{dl:Dl}{H:Hp}{α:Type}{f:T->Option α}{g:α->V}(hf:∀(v:V)(t:T)(F:List J)(a:α),aI K dl H v t F->f t=Z a->v=g a){vs:List V}{ts:List T}{F:List J}(h:aA K dl H vs ts F):∀{bs:List α},L2.picks f ts=Z bs->vs=bs.map g :=
 h.ind (M:=λvs ts F=>∀{bs:List α},L2.picks f ts=Z bs->vs=bs.map g) (λe=>by cases e;rfl) λv t vs ts F G h _ q bs e=>by
  let(a,Q,P):=ZO.mp e;let(as,z,U):=kf.mp P;rw[hf v t F a h Q,q z];rfl
def asB:T->Option Bool
 |.b x=>Z x
 |_=>Y
abbrev bls:List T->Option (List Bool):=picks asB
theorem aA.bls{dl:Dl}{H:Hp}{vs:List V}{ts:List T}{F:List J}{bs:List Bool}(h:aA K dl H vs ts F)(e:L2.bls ts=Z bs):vs=bs.map V.bl :=
 h.picks (λv t F a h e=>by cases t <;> first|(cases e;exact h.bl.1)|cases e) e
def lQ(bs:List Bool):bls (bs.map T.b)=Z bs:=by
 induction bs with
 |nil=>rfl
 |cons b r g=>show(bls (r.map T.b)).map (b :: ·)=_;rw[g];rfl
def XT:QC:=λts Q=>on1 ts λt=>match t with
 |.l xs=>Ex3 (λbs=>bls xs=Z bs) (λbs=>(.b (bs.all id))) Q
 |_=>False
def tP(q:X.K=K)(g:X.calm=O):df X (.builtin "all") (λxs H Q=>∃(l:J)(bs:List Bool),xs=[.ref l]/\SqL K H l (bs.map V.bl)/\Q (.bl (bs.all id)) H):=by subst q;exact MB g
def zi:tS K (λxs H Q=>∃(l:J)(bs:List Bool),xs=[.ref l]/\SqL K H l (bs.map V.bl)/\Q (.bl (bs.all id)) H) XT:=by
 intro dl H vs ts F Q R D r g k
 replace g:=on1.inv g
 let(t,U,g):=g
 split at g
 ·let(v,U,r'):=r.one;let(p,vs,G,U,U,h1,h2):=r'.r.lst;let(bs,q,g):=g;have e:=h2.bls q;subst e;exact(p,bs,U,SqL.of h1,k _ _ [] H (.refl D) (.c (.b _)) (λ_ z=>nomatch z) mE g)
 ·exact g.elim
def T.tyN:T->Option String
 |.n=>Z "NoneType" |.b _=>Z "bool" |.i _=>Z "int" |.s _=>Z "str" |.l _=>Z "list" |.q=>Z "list" |.t _=>Z "tuple" |.d _=>Z "dict" |_=>Y
def aI.Xu{v:V}{t:T}{F:List J}{n:String}(h:aI K dl H v t F)(e:t.tyN=Z n):ou K H v (.type n):=by
 cases h <;> first|(cases e;constructor;assumption)|(cases e;constructor)|(cases e)
theorem yL(g:X.K=K):df X (.builtin "isinstance") (λxs H Q=>∃x T t b,xs=[x,.ty T]/\ou K H x t/\W.kitOne K t (.type T)=Z b/\Q (.bl b) H):=by subst g;exact Mz
def Wx(a b:String):Bool:=a==b ||(a == "bool" && b == "int")
def VI:QC:=λts Q=>match ts with
 |[t,.ty n]=>match t.tyN with
  |some m=>(n == "tuple" || n == "list" || n == "str" || n == "int" || n == "bool" || n == "dict")=O/\Q (.b (Wx m n))
  |none=>False
 |_=>False
theorem O2{n m:String}(h:(n == "tuple" || n == "list" || n == "str" || n == "int" || n == "bool" || n == "dict")=O)(hm:m ∈ ["NoneType","bool","int","str","list","tuple","dict"]):W.kitOne K (.type m) (.type n)=Z (Wx m n):=by
 simp only[Bool.or_eq_true,beq_iff_eq]at h;simp only[fH,U3,or_false]at hm;obtain((((rfl|rfl)|rfl)|rfl)|rfl)|rfl:=h <;> obtain rfl|rfl|rfl|rfl|rfl|rfl|rfl:=hm <;> rfl
def Ni{t:T}{m:String}(h:t.tyN=Z m):m ∈ ["NoneType","bool","int","str","list","tuple","dict"]:=by
 cases t <;> cases h <;> decide
theorem FG:tS K (λxs H Q=>∃x T t b,xs=[x,.ty T]/\ou K H x t/\W.kitOne K t (.type T)=Z b/\Q (.bl b) H) VI:=by
 intro dl H vs ts F Q R D r g k;unfold VI at g
 split at g
 ·let(v,w,F1,V,U,P,q):=r.two;have e:=q.r.tyy;subst e
  split at g
  ·rename_i m em;exact(v,_,_,_,U,P.r.Xu em,O2 g.1 (Ni em),k _ _ [] H (.refl D) (.c (.b _)) (λ_ z=>nomatch z) mE g.2)
  ·exact g.elim
 ·exact g.elim
end
structure fi where
 nx:Sq->Prop
 rt:T->Prop
 bk:Sq->Prop:=λ_=>False
 ct:Sq->Prop:=λ_=>False
 ru:Sq->T->Prop:=λ_ _=>False
abbrev QS:=fi->Sq->Prop
def fi.lp(D:fi)(N:Sq->Prop):fi:={D with nx:=N,ct:=N,bk:=D.nx}
def fi.fn(Q:T->Prop):fi:={nx:=λ_=>Q .n,rt:=Q}
structure Frm(dl:Dl)(H₀ H:Hp):Prop where
 k:∀b o,H₀ b=Z o->Nd dl b->NR o->H b=Z o
 r:∀a x,H₀ a=Z (.room x)->∃y,y<=x/\H a=Z (.room y)
variable{H₀:Hp}
def Frm.evo(f:Frm dl H₀ H)(D:Dls dl H):Evo dl H₀ H:=(f.k,D,f.r)
def Frm.refl:Frm dl H H:=(λ_ _ h _ _=>h,λ_ x h=>(x,Zc _,h))
variable{H':Hp}
def Frm.trans(f:Frm dl H₀ H)(e:Evo dl H H'):Frm dl H₀ H':=(λb o h n r=>e.k b o (f.k b o h n r) n r,λa x h=>let(y,q,h1):=f.r a x h;let(z,g,h2):=e.r a y h1;(z,Y2 g q,h2))
structure Rel(K:BT)(dl:Dl)(H₀:Hp)(hs:List (V×T))(H:Hp)(σ:St)(q:Sq)(F:Nat->List J):Prop where
 d:Dls dl H
 g:∀(i:Nat)(x:Sl)(t:T),q[i]?=Z x->x.get=Z t->∃v,σ[i]?=Z (Z v)/\Rp K dl H v t (F i)
 n:∀(i:Nat)(x:Sl),q[i]?=Z x->x.get=Y->F i=[]
 z:∀(i:Nat),q.length<=i->F i=[]
 o:∀(i:Nat)(t:T),q[i]?=Z (.o t)->(F i).Nodup/\(∀b∈F i,H₀ b=Y)/\(∀j,j≠i->∀b∈F i,b ∉ F j)
 h:∀p∈hs,∃Fp,Rp K dl H p.1 p.2 Fp/\∀(i:Nat)(t:T),q[i]?=Z (.o t)->∀b∈F i,b ∉ Fp
 f:Frm dl H₀ H
 l:q.length=σ.length
def cJ(K:BT)(dl:Dl)(H₀:Hp)(hs:List (V×T))(H:Hp)(σ:St)(q:Sq):Prop:=∃F,Rel K dl H₀ hs H σ q F
variable{F':List J}
section
variable{K:BT}{hs:List (V×T)}{σ:St}{q:Sq}{F:Nat->List J}
def Rel.rd(r:Rel K dl H₀ hs H σ q F):RdR K dl H σ q:=(r.d,λi x t h1 h2=>let(v,e,p):=r.g i x t h1 h2;(v,F i,e,p))
def Rel.fz(r:Rel K dl H₀ hs H σ q F){b:J}(h:H b=Y):H₀ b=none:=(r.f.evo r.d).free h
def Rel.bO(r:Rel K dl H₀ hs H σ q F){b:J}(P:b∈F i):gH H b:=by
 by_cases hi:i<q.length
 ·have e:q[i]?=Z q[i]:=by simp[hi]
  cases ex:q[i].get with
  |none=>rw[r.n i _ e ex]at P;cases P
  |some t =>
   let(v,_,p):=r.g i _ t e ex;exact p.r.there b P
 ·rw[r.z i (by lia)]at P;cases P
theorem Rel.evo(r:Rel K dl H₀ hs H σ q F)(e:Evo dl H H'):Rel K dl H₀ hs H' σ q F where
 d:=e.d
 g:=λi x t h1 h2=>let(v,P,p):=r.g i x t h1 h2;(v,P,p.evo r.d e)
 n:=r.n
 z:=r.z
 o:=r.o
 h:=λp hp=>let(Fp,h1,h2):=r.h p hp;(Fp,h1.evo r.d e,h2)
 f:=r.f.trans e
 l:=r.l
def A8(F:Nat->List J)(i:Nat)(x:List J):Nat->List Addr:=λj=>if j=i then x else F j
def bK{x:List J}:A8 F i x i=x:=if_pos U
def bg{x:List J}(h:j≠i):A8 F i x j=F j:=if_neg h
def get_set{α:Type}{xs:List α}{x y:α}(h:(xs.set i x)[j]?=Z y):(j=i/\y=x/\i<xs.length)\/(j≠i/\xs[j]?=Z y):=by
 by_cases e:j=i
 ·subst e;rw[List.getElem?_set_self']at h;by_cases hl:j<xs.length
  ·rw[rZ hl]at h;exact .inl (U,(Option.some.inj h).symm,hl)
  ·rw[Y7 (by lia)]at h;cases h
 ·rw[ui (λz=>e z.symm)]at h
  exact .inr (e,h)
def Rel.put{v:V}{t:T}(r:Rel K dl H₀ hs H σ q F)(hi:i<q.length)(e:Evo dl H H')(hv:Rp K dl H' v t F')(hf:∀b∈F',H b=Y)(hn:F'.Nodup):Rel K dl H₀ hs H' (σ.set i (Z v)) (q.set i (.o t)) (A8 F i F'):=by
 have r':=r.evo e;have out:∀j,∀b∈F',b ∉ F j:=λj b P Q=>(r.bO Q).no (hf b P)
 refine(e.d,λj x u h1 h2=>?_,λj x h1 h2=>?_,λj Q=>?_,λj u h1=>?_,λp hp=>?_,r'.f,by simp[r.l])
 ·obtain⟨rfl,rfl,_⟩|⟨ne,h1⟩:=get_set h1
  ·cases h2;exact(v,by rw[u4 (by rw[<- r.l];exact hi)],by rw[bK];exact hv)
  ·let(w,h3,h4):=r'.g j x u h1 h2;exact(w,by rw[ui (λz=>ne z.symm)];exact h3,by rw[bg ne];exact h4)
 ·obtain⟨rfl,rfl,_⟩|⟨ne,h1⟩:=get_set h1
  ·cases h2
  ·rw[bg ne];exact r.n j x h1 h2
 ·rw[AF]at Q;rw[bg (by lia)]
  exact r.z j Q
 ·obtain⟨rfl,_,_⟩|⟨ne,h1⟩:=get_set h1
  ·rw[bK];exact(hn,λb P=>r.fz (hf b P),λk hk b P=>by rw[bg hk];exact out k b P)
  ·rw[bg ne];let(o1,o2,o3):=r.o j u h1;refine(o1,o2,λk hk b P=>?_)
   by_cases ek:k=i
   ·subst ek;rw[bK];exact λz=>out j b z P
   ·rw[bg ek];exact o3 k hk b P
 ·let(Fp,h1,h2):=r.h p hp;refine(Fp,h1.evo r.d e,λj u Q b P z=>?_)
  obtain⟨rfl,_,_⟩|⟨ne,Q⟩:=get_set Q
  ·rw[bK]at P;exact gH.no (h1.r.there b z) (hf b P)
  ·rw[bg ne]at P;exact h2 j u Q b P z
def Rel.Si{v:V}{t:T}(r:Rel K dl H₀ hs H σ q F)(hi:i<q.length)(hv:Rp K dl H v t F')(hf:∀(j:Nat)(u:T),q[j]?=Z (.o u)->j≠i->∀b∈F j,b ∉ F'):Rel K dl H₀ hs H (σ.set i (Z v)) (q.set i (.r t)) (A8 F i F'):=by
 refine(r.d,λj x u h1 h2=>?_,λj x h1 h2=>?_,λj P=>?_,λj u h1=>?_,λp hp=>?_,r.f,by simp[r.l])
 ·obtain⟨rfl,rfl,_⟩|⟨ne,h1⟩:=get_set h1
  ·cases h2;exact(v,by rw[u4 (by rw[<- r.l];exact hi)],by rw[bK];exact hv)
  ·let(w,h3,h4):=r.g j x u h1 h2;exact(w,by rw[ui (λz=>ne z.symm)];exact h3,by rw[bg ne];exact h4)
 ·obtain⟨rfl,rfl,_⟩|⟨ne,h1⟩:=get_set h1
  ·cases h2
  ·rw[bg ne];exact r.n j x h1 h2
 ·rw[AF]at P;rw[bg (by omega)]
  exact r.z j P
 ·obtain⟨rfl,e,_⟩|⟨ne,h1⟩:=get_set h1
  ·cases e
  ·rw[bg ne];let(o1,o2,o3):=r.o j u h1;refine(o1,o2,λk hk b Q=>?_)
   have z:=hf j u h1 ne b Q;by_cases ek:k=i
   ·subst ek;rw[bK];exact z
   ·rw[bg ek];exact o3 k hk b Q
 ·let(Fp,h1,h2):=r.h p hp;refine(Fp,h1,λj u P b Q z=>?_)
  obtain⟨rfl,e,_⟩|⟨ne,P⟩:=get_set P
  ·cases e
  ·rw[bg ne]at Q;exact h2 j u P b Q z
def Rel.hold{v:V}{t:T}(r:Rel K dl H₀ hs H σ q F)(hv:Rp K dl H v t F')(hf:∀(j:Nat)(u:T),q[j]?=Z (.o u)->∀b∈F j,b ∉ F'):Rel K dl H₀ ((v,t)::hs) H σ q F :=
 (r.d,r.g,r.n,r.z,r.o,λp hp=>by
  obtain e|hp:=fH.mp hp
  ·subst e;exact(F',hv,hf)
  ·exact r.h p hp,r.f,r.l)
def Rel.down{t:T}(r:Rel K dl H₀ hs H σ q F)(hi:q[i]?=Z (.o t)):Rel K dl H₀ hs H σ (q.set i (.r t)) F:=by
 refine(r.d,λj x u h1 h2=>?_,λj x h1 h2=>?_,λj P=>r.z j (by rw[AF]at P;exact P),λj u h1=>?_,λp hp=>?_,r.f,by simp[r.l])
 ·obtain⟨rfl,rfl,_⟩|⟨ne,h1⟩:=get_set h1
  ·cases h2;exact r.g j _ t hi U
  ·exact r.g j x u h1 h2
 ·obtain⟨rfl,rfl,_⟩|⟨ne,h1⟩:=get_set h1
  ·cases h2
  ·exact r.n j x h1 h2
 ·obtain⟨rfl,e,_⟩|⟨ne,h1⟩:=get_set h1
  ·cases e
  ·exact r.o j u h1
 ·let(Fp,h1,h2):=r.h p hp;refine(Fp,h1,λj u P=>?_)
  obtain⟨rfl,e,_⟩|⟨ne,P⟩:=get_set P
  ·cases e
  ·exact h2 j u P
def Rel.write{v:V}{t t':T}{p:J}{o:HO}(r:Rel K dl H₀ hs H σ q F)(hi:q[i]?=Z (.o t))(hv:σ[i]?=Z (Z v))(hp:p∈F i)(ho:∀xs,H p=Z (.lst xs)->∃ys,o=.lst ys)(hr:Rp K dl (upd H p o) v t' F')(hn:F'.Nodup)
  (hf:∀b∈F',b∈F i\/(H₀ b=Y/\(∀j,b ∉ F j)/\∀w u Fp,Rp K dl H w u Fp->(w,u)∈hs->b ∉ Fp)):Rel K dl H₀ hs (upd H p o) σ (q.set i (.o t')) (A8 F i F'):=by
 let(o1,o2,o3):=r.o i t hi;have ak:=(iZ.mp hi).1;let(v',ah,rp):=r.g i _ t hi U;have pn:=rp.n p hp;have Q:=r.bO hp;have tf:TF H (upd H p o):=(λa vs h=>(by
  rw[aw];exact h;intro z;subst z;let(_,e,m):=Q;rw[h]at e;cases e;cases m),λa ob u h=>(by
  rw[aw];exact h;intro z;subst z;let(_,e,m):=Q;rw[h]at e;cases e;cases m),λa φ h=>(by
  rw[aw];exact h;intro z;subst z;let(_,e,m):=Q;rw[h]at e;cases e;cases m),λa xs h=>(by
  by_cases z:a=p
  ·subst z;let(ys,e):=ho xs h;exact(ys,by rw[aC,e])
  ·exact(xs,by rw[aw z];exact h)),λa x h=>(x,Zc _,by
  rw[aw];exact h;intro z;subst z;let(_,e,m):=Q;rw[h]at e;cases e;cases m))
 have st:∀{w:V}{u:T}{Fw:List J},Rp K dl H w u Fw->p ∉ Fw->Rp K dl (upd H p o) w u Fw:=λ{w u Fw} h np =>
  (h.r.d9 tf (λ_ z=>z) λb P ob e=>(by
   have ne:b≠p:=by
    intro z;subst z;exact np P
   rw[aw ne];exact e),h.n)
 refine(λd hd=>(r.d d hd).other (pn d hd).1 (pn d hd).2,λj x u h1 h2=>?_,λj x h1 h2=>?_,λj hj=>?_,λj u h1=>?_,λw hw=>?_,(λb ob P nb nr=>?_,λb x P=>?_),by simp[r.l])
 ·obtain⟨rfl,rfl,_⟩|⟨ne,h1⟩:=get_set h1
  ·cases h2;exact(v,hv,by rw[bK];exact hr)
  ·let(w,h3,h4):=r.g j x u h1 h2;exact(w,h3,by rw[bg ne];exact st h4 (o3 j ne p hp))
 ·obtain⟨rfl,rfl,_⟩|⟨ne,h1⟩:=get_set h1
  ·cases h2
  ·rw[bg ne];exact r.n j x h1 h2
 ·rw[AF]at hj;rw[bg (by omega)]
  exact r.z j hj
 ·obtain⟨rfl,e,_⟩|⟨ne,h1⟩:=get_set h1
  ·rw[bK];refine(hn,λb P=>?_,λk hk b P=>?_)
   ·obtain z|z:=hf b P
    ·exact o2 b z
    ·exact z.1
   ·rw[bg hk];obtain z|z:=hf b P
    ·exact o3 k hk b z
    ·exact z.2.1 k
  ·rw[bg ne];let(p1,p2,p3):=r.o j u h1;refine(p1,p2,λk hk b P=>?_)
   by_cases ek:k=i
   ·subst ek;rw[bK];intro z;obtain z|z:=hf b z
    ·exact o3 j ne b z P
    ·exact z.2.1 j P
   ·rw[bg ek];exact p3 k hk b P
 ·let(Fp,h1,h2):=r.h w hw;refine(Fp,st h1 (h2 i t hi p hp),λj u hj b P z=>?_)
  obtain⟨rfl,e,_⟩|⟨ne,hj⟩:=get_set hj
  ·rw[bK]at P;obtain y|y:=hf b P
   ·exact h2 j t hi b y z
   ·exact y.2.2 w.1 w.2 Fp h1 hw z
  ·rw[bg ne]at P;exact h2 j u hj b P z
 ·rw[aw]
  ·exact r.f.k b ob P nb nr
  ·intro z;subst z;rw[o2 b hp]at P;cases P
 ·let(y,hy,e):=r.f.r b x P;refine(y,hy,?_);rw[aw]
  ·exact e
  ·intro z;subst z;rw[o2 b hp]at P;cases P
end
structure E9(K:BT)(dl:Dl)(H₀:Hp)(hs:List (V×T))(Dq:fi)(D:Ends):Prop where
 nx:∀H σ q,cJ K dl H₀ hs H σ q->Dq.nx q->D.nx σ H
 bk:∀H σ q,cJ K dl H₀ hs H σ q->Dq.bk q->D.bk σ H
 ct:∀H σ q,cJ K dl H₀ hs H σ q->Dq.ct q->D.ct σ H
 rt:∀v t F H,Dls dl H->Rp K dl H v t F->(∀b∈F,H₀ b=Y)->F.Nodup->Frm dl H₀ H->Dq.rt t->D.rt v H
 ru:∀H σ q F0 v t F,Rel K dl H₀ hs H σ q F0->Rp K dl H v t F->(∀b∈F,H₀ b=Y)->F.Nodup->(∀j,∀b∈F,b ∉ F0 j)->Dq.ru q t->D.rt v H
def CM(K:BT)(ts:TS)(qs:QS):Prop:=∀(dl:Dl)(H₀:Hp)(hs:List (V×T))(H:Hp)(σ:St)(q:Sq)(Dq:fi)(D:Ends),cJ K dl H₀ hs H σ q->qs Dq q->E9 K dl H₀ hs Dq D->ts D σ H
structure QPS(X:Cx)(K:BT)(st:Fk)(ts:TS)(qs:QS):Prop where
 h:PS X st ts
 s:CM K ts qs
structure rW(X:Cx)(K:BT)(st:List Fk)(ts:TS)(qs:QS):Prop where
 h:PSs X st ts
 s:CM K ts qs
variable{q:Sq}
section
variable{X:Cx}{K:BT}{st:Fk}{rest sa sb:List Fk}{t u:TS}{qt qu:QS}{e c:EQ}{te:TE}{qe:QE}{tc:TT}{qc:QT}{pos:Pos}
def P5:QS:=λD q=>D.nx q
def fi.seq(D:fi)(u:QS):fi:={D with nx:=u D}
def XM(t u:QS):QS:=λD q=>t (D.seq u) q
def aN:rW X K [] PQ P5:=(FU,λ_ _ _ H σ q _ _ r g E=>E.nx H σ q r g)
def ag(h1:QPS X K st t qt)(h2:rW X K rest u qu):rW X K (st::rest) (Rm t u) (XM qt qu):=(dC h1.h h2.h,λdl H₀ hs H σ q Dq D r z E =>
 h1.s dl H₀ hs H σ q _ _ r z (λH σ q r' g=>h2.s dl H₀ hs H σ q _ _ r' g E,E.bk,E.ct,E.rt,E.ru))
def ar(h1:QPS X K st t qt):rW X K [st] t qt:=(jF h1.h,h1.s)
def Bj:QPS X K (.Continue pos) PU (λD q=>D.ct q):=(Bp,λ_ _ _ H σ q _ _ r g E=>E.ct H σ q r g)
def aM(he:QPF X K e te qe):QPS X K (.Return (Z e) pos) (Jw te) (λD q=>qe q D.rt):=(pw he.h,λdl H₀ hs H σ q Dq D (F,r) V E =>
 he.s dl H σ q _ _ r.rd V λv t F' H' g z f1 P Q=>E.rt v t F' H' g.d z (λb hb=>r.fz (f1 b hb)) P (r.evo g).f Q)
def FO(he:PE X e (bX i)):QPS X K (.Return (Z e) pos) (Jw (bX i)) (λD q=>match q[i]? with|some (.o t)=>D.rt t|_=>False):=(pw he,λdl H₀ hs H σ q Dq D (F,r) z E=>by
 split at z
 ·rename_i t P;let(v,hv,Q):=r.g i _ t P U;let(o1,o2,V):=r.o i t P;exact(v,hv,E.rt v t (F i) H r.d Q o2 o1 r.f z)
 ·exact z.elim)
def XS(c:QT)(t u:QS):QS:=λD q=>c q λb=>if b=O then t D q else u D q
def bx(z:QPT X K c tc qc)(ha:rW X K sa t qt)(P:rW X K sb u qu):QPS X K (.If c sa sb pos) (Nj tc t u) (XS qc qt qu):=(FV z.h ha.h P.h,λdl H₀ hs H σ q Dq D (F,r) V E =>
 z.s dl H σ q _ _ r.rd V λb H' Q g=>by
  cases b with
  |true=>exact ha.s dl H₀ hs H' σ q Dq D (F,r.evo Q) g E
  |false=>exact P.s dl H₀ hs H' σ q Dq D (F,r.evo Q) g E)
def N2(i:Nat)(qe:QE):QS:=λD q=>qe q λt=>D.nx (q.set i (.o t))
def Rel.gf{hs:List (V×T)}{σ:St}{F:Nat->List J}{v:V}{t:T}(r:Rel K dl H₀ hs H σ q F)(e:Evo dl H H')(hv:Rp K dl H' v t F')(hf:∀b∈F',H b=Y)(hn:F'.Nodup):cJ K dl H₀ hs H' (σ.set i (Z v)) (q.set i (.o t)):=by
 by_cases hi:i<q.length
 ·exact(_,r.put hi e hv hf hn)
 ·have hl:=r.l;rw[YS (by lia),YS (by lia)]
  exact(F,r.evo e)
def FE(he:kN K te qe):CM K (p7 te (jJ i)) (N2 i qe):=λdl H₀ hs H σ q Dq D (F,r) Q E=>he dl H σ q _ _ r.rd Q λv t F' H' V g f1 z P=>E.nx H' _ _ (r.gf V g f1 z) P
def RR(g:X.N.Nodup)(hi:X.N[i]?=Z x)(hx:Loc X.env.scope x)(he:QPF X K e te qe)(hs:‹swapsWith e (Z (.Name x pos')) pos.line X.env=pure false›)(hf:AT X x:=by first|exact .inl rfl|exact .inr rfl|assumption):
  QPS X K (.Assign [.Name x pos'] e pos) (p7 te (jJ i)) (N2 i qe):=(lj g hi hx he.h hs hf,FE he.s)
inductive Xf(tb:QS)(D:fi)(W:Nat->Sq->Prop)(m:Nat)(q:Sq):Prop
 |mk(N:Sq->Prop)(less:∀q',N q'->∃m',m'<m/\W m' q')(body:tb (D.lp N) q)
inductive WhileI(c:QT)(tb:QS)(D:fi)(q:Sq):Prop
 |mk (W:Nat->Sq->Prop) (h0:∃m,W m q) (turn:∀m q,W m q->c q λb=>if b=O then Xf tb D W m q else D.nx q)
def Kt(c:QT)(tb:QS):QS:=λD q=>WhileI c tb D q
def mT(hp:ZR (model X.prog X.w) X.A X.env X.xe)(P:QPT X K c tc qc)(Q:rW X K rest t qt):QPS X K (.While c rest [] pos) (zg tc t) (Kt qc qt):=(vO hp P.h Q.h,λdl H₀ hs H σ q Dq D r hq E=>by
 let(W,(m0,w0),turn):=hq;refine(λm σ H=>∃q,cJ K dl H₀ hs H σ q/\W m q,(m0,q,r,w0),?_)
 rintro m σ H ⟨q,⟨F,r⟩,w⟩
 refine P.s dl H σ q _ _ r.rd (turn m q w) λb H1 V z=>?_
 cases b with
 |false=>exact E.nx H1 σ q (F,r.evo V) z
 |true =>
  let(N,hN,z):=z;refine(λg H'=>∃q',cJ K dl H₀ hs H' g q'/\N q',λg H' (q',r',n')=>?_,?_)
  ·let(m',hm,w'):=hN q' n';exact(m',hm,q',r',w')
  ·exact Q.s dl H₀ hs H1 σ q _ _ (F,r.evo V) z (λH σ q r n=>(q,r,n),λH σ q r n=>E.nx H σ q r n,λH σ q r n=>(q,r,n),E.rt,E.ru))
end
abbrev PSp:=List T->(T->Prop)->Prop
inductive spQ(K:BT)(ps:PSp)(vs:List V)(H:Hp)(Q:VK)(_:XK):Prop
 |mk(dl:Dl)(ts:List T)(F:List J)(Qp:T->Prop)(h1:Dls dl H)(h2:Rps K dl H vs ts F)(h3:ps ts Qp)(h4:∀v t F' H',Evo dl H H'->Rp K dl H' v t F'->(∀b∈F',H b=Y)->F'.Nodup->Qp t->Q v H')
section
variable{X:Cx}{K:BT}{e:EQ}{es:List EQ}{tl:TA}{ql:QA}{pos p:Pos}{k:Nat}{f:J}{fd:Ch}{prs:List Str}{ps:PSp}
def KD(ps:PSp)(ql:QA):QE:=λq Q=>ql q λts=>ps ts Q
def JR(ha:Ay K n tl ql):kN K (A1 (spQ K ps) [] E0 tl) (KD ps ql):=λdl H σ q Q R rd V k=>ha dl H σ q _ _ rd V λvs ts F H1 z P _ g=>by
 rw[qp];exact(dl,ts,F,Q,z.d,P,g,λv t F' H' e r f n g=>k v t F' H' (z.trans e) r (λb hb=>z.free (f b hb)) n g)
theorem N0(F:aS X.prog X.w X.K X.mg X.base CX0 k f fd prs (spQ K ps))(hr:bS k X.A)(hg:Gl X x)(hm:X.mg x=Z (.ref f))(z:W.keepIn X.K (.ref f)=O)(P:Binds X.K fd prs [])(ha:QPA X K (e::es) tl ql)
  (q:AS x:=by decide) (he:‹AC X e es›) (g:‹AM X pos es›):
  QPF X K (.Call (.Name x p) (e::es) [] pos) (A1 (spQ K ps) [] E0 tl) (KD ps ql):=(zF F hr hg hm z P .nil ud ha.h q he g,JR ha.s)
end
theorem sN{K:BT}{vs:List V}{ts:List T}{F:List J}(D:Dls dl H)(r:Rps K dl H vs ts F)(hn:vs.length<=n):cJ K dl H [] H (vs.map Z++xU (n - vs.length) Y) (ts.map Sl.r++xU (n - vs.length) .no):=by
 have hl:=r.r.len;have main:∀{vs:List V}{ts:List T}{F:List J},aA K dl H vs ts F->(∀b∈F,Nd dl b)->∃g:Nat->List J,(∀i t,ts[i]?=Z t->∃v,vs[i]?=Z v/\Rp K dl H v t (g i))/\∀i,ts.length<=i->g i=[]:=by
  intro vs ts F h
  induction ts generalizing vs F with
  |nil=>intro _;exact(λ_=>[],λi t e=>by simp at e,λ_ _=>rfl)
  |cons t ts ih =>
   cases h with
   |@cons v0 _ ah _ F1 G1 h1 h2 =>
    intro hn;let(g,g1,g2):=ih h2 λb P=>hn b (mu _ P)
    refine(λi=>match i with | 0=>F1|i+1=>g i,λi u e=>?_,λi hi=>?_)
    ·cases i with
     |zero =>
      simp at e;subst e;exact(_,by simp,h1,λb P=>hn b (ot _ P))
     |succ i =>
      let(v,q,Q):=g1 i u (by simpa using e)
      exact(v,by simpa using q,Q)
    ·cases i with
     |zero=>simp at hi
     |succ i=>exact g2 i (by simpa using hi)
 let(g,g1,g2):=main r.r r.n;have lk:∀i y,(ts.map Sl.r++xU (n - vs.length) Sl.no)[i]?=Z y->(∃t,ts[i]?=Z t/\y=.r t)\/(ts.length<=i/\y=.no):=λi y h=>by
  by_cases hi:i<ts.length
  ·rw[CS (by simpa using hi),ti,rZ hi]at h
   exact .inl (ts[i],by simp,(Option.some.inj h).symm)
  ·rw[CP (by simpa using hi),YW]at h
   split at h
   ·exact .inr (by lia,(Option.some.inj h).symm)
   ·cases h
 refine(g,D,λi y t h1 h2=>?_,λi y h1 h2=>?_,λi hi=>?_,λi t h1=>?_,λp hp=>(by cases hp),.refl,by simp[hl])
 ·obtain⟨u,e,rfl⟩|⟨_,rfl⟩:=lk i y h1
  ·cases h2;let(v,q,Q):=g1 i t e;refine(v,?_,Q);have hi:=(iZ.mp q).1;rw[CS (by simpa using hi),ti,q]
   rfl
  ·cases h2
 ·obtain⟨u,e,rfl⟩|⟨hi,rfl⟩:=lk i y h1
  ·cases h2
  ·exact g2 i hi
 ·refine g2 i ?_;simp at hi
  lia
 ·obtain⟨u,e,z⟩|⟨_,z⟩:=lk i _ h1 <;> cases z
variable{P:Db}{mg:Str->Option B}{base:Ev}{qual:Str}{st:Fk}{fd:Ch}{N:List Str}{ps:List Str}
theorem Fun.okQ{w:Da}{K:BT}{f:J}{k:Nat}{g:PSp}(F:Fun K x qual st f fd)(S:aE N ps (au st))(len:∀ts Q,g ts Q->ts.length=ps.length)
  (jw:∀(cdv:B)(A:Do)(outer:List Env)(s:ϋ)(H:Hp)(E:XK),bS k (A.deeper (envOfC qual (au st) s.heap.objs.size f cdv)) ->
   ∃t qs,rW (pQ CX0 P w K mg base N qual (au st) f cdv A outer s H E).nox K (cA st) t qs/\∀ts Q,g ts Q->qs (.fn Q) (ts.map Sl.r++xU (N.length - ts.length) .no)):aS P w K mg base CX0 (k+1) f fd ps (spQ K g):=by
 have ah:=by have:=congrArg E7 S.pre;rw[x8]at this;omega
 refine F.ok S (λvs H Q E h=>?_) (λcdv A outer s H vs Q E hr h=>?_)
 ·let(dl,ts,F,Qp,_,r,h,_):=h;rw[r.r.len];exact len ts Qp h
 ·let(dl,ts,Fp,Qp,D,r,h,fin):=h;let(t,qs,hb,hq):=jw cdv A outer s H E hr;refine(t,hb.h,?_);have hlen:=len ts Qp h;have hl:=r.r.len;have z:=hq ts Qp h;have R:=sN (n:=N.length) D r (by lia)
  rw[<- hl]at z;refine hb.s dl H [] H _ _ _ _ R z (λH' σ q (F,r') V=>?_,λ_ _ _ _ V=>V.elim,λ_ _ _ _ V=>V.elim,λv t F H' D' r' f' n' fr V=>?_,λ_ _ _ _ _ _ _ _ _ _ _ _ z=>z.elim)
  ·exact fin .non .n [] H' (r'.f.evo r'.d) (.n,λ_ z=>nomatch z) (λ_ z=>nomatch z) mE V
  ·exact fin v t F H' (fr.evo D') r' f' n' V
structure AB(K:BT)(dl:Dl)(ύ:It)(xs:List T)(hv:List (V×T)):Prop where
 go:∀(H:Hp)(i:Nat),Dls dl H->(∀p∈hv,∃F,Rp K dl H p.1 p.2 F)->i<xs.length->ύ.go i H
 yld:∀(H:Hp)(i:Nat)(x:T)(fp:V×T->List J)(v:V)(H':Hp),Dls dl H->(∀p∈hv,Rp K dl H p.1 p.2 (fp p))->xs[i]?=Z x->ύ.yld i H v H'->Evo dl H H'/\∃F,Rp K dl H' v x F/\∀b∈F,H b=Y\/∃p∈hv,b∈fp p
 stop:∀(H:Hp),Dls dl H->(∀p∈hv,∃F,Rp K dl H p.1 p.2 F)->ύ.stop xs.length H
variable{lo:Int}{q':Sq}
section
variable{X:Cx}{K:BT}
def O4{xs:List T}:AB K dl (Itl K a) xs [(.ref a,.l xs)] where
 go:=λH i D h hi=>by
  let(F,r):=h _ (aB.mpr U);let(p,vs,G,e,_,h1,h2):=r.r.lst;cases e;exact(vs,vs[i]'(by rw[h2.len];exact hi),SqL.of h1,by simp[hi])
 yld:=λH i x fp v H' D h hx y=>by
  have r:=h _ (aB.mpr U);let(p,vs,G,e,Q,h1,h2):=r.r.lst;cases e;let(U,y):=y;let(w,P,hw,q,hs):=h2.get hx;have z:=y vs (SqL.of h1);rw[hw]at z;cases z;have sub:∀b∈P,b∈fp (V.ref a,T.l xs):=λb g=>by
   rw[Q];exact aJ _ (hs b g)
  exact(.refl D,P,(q,λb g=>r.n b (sub b g)),λb g=>.inr (_,aB.mpr U,sub b g))
 stop:=λH D h=>by
  let(F,r):=h _ (aB.mpr U);let(p,vs,G,e,_,h1,h2):=r.r.lst;cases e;exact(vs,SqL.of h1,by rw[h2.len];exact qd _)
def Ww{xs:List T}:AB K dl (Itl K a) xs [(.ref a,.zl xs)] where
 go:=λH i D h hi=>by
  let(F,r):=h _ (aB.mpr U);let(p,o,vs,e,_,h1,h2):=r.r.zls;cases e;exact(vs,vs[i]'(by rw[h2.len];exact hi),.inl (.inr (o,h1)),by simp[hi])
 yld:=λH i x fp v H' D h hx y=>by
  have r:=h _ (aB.mpr U);let(p,o,vs,e,Q,h1,h2):=r.r.zls;cases e;let(U,y):=y;let(w,P,hw,g,hs):=h2.get hx;have z:=y vs (.inl (.inr (o,h1)));rw[hw]at z;cases z;exact(.refl D,P,(g,λb q=>nomatch hs b q),λb q=>nomatch hs b q)
 stop:=λH D h=>by
  let(F,r):=h _ (aB.mpr U);let(p,o,vs,e,_,h1,h2):=r.r.zls;cases e;exact(vs,.inl (.inr (o,h1)),by rw[h2.len];exact qd _)
def LF{xs:List T}:AB K dl (Itt K a) xs [(.ref a,.t xs)] where
 go:=λH i D h hi=>by
  let(F,r):=h _ (aB.mpr U);let(p,vs,e,h1,h2):=r.r.tup;cases e;exact(vs,vs[i]'(by rw[h2.len];exact hi),SqT.of h1,by simp[hi])
 yld:=λH i x fp v H' D h hx y=>by
  have r:=h _ (aB.mpr U);let(p,vs,e,h1,h2):=r.r.tup;cases e;let(U,y):=y;let(w,P,hw,g,hs):=h2.get hx;have z:=y vs (SqT.of h1);rw[hw]at z;cases z;exact(.refl D,P,(g,λb q=>r.n b (hs b q)),λb q=>.inr (_,aB.mpr U,hs b q))
 stop:=λH D h=>by
  let(F,r):=h _ (aB.mpr U);let(p,vs,e,h1,h2):=r.r.tup;cases e;exact(vs,SqT.of h1,by rw[h2.len];exact qd _)
def LG:AB K dl (Itr lo n) ((UR n).map λi=>.i (lo+(i:Nat))) [] where
 go:=λH i D h hi=>by
  show i<n;simpa using hi
 yld:=λH i x fp v H' D h hx y=>by
  let(U,U):=y;rw[ti]at hx;cases e:(UR n)[i]? with
  |none=>rw[e]at hx;cases hx
  |some j =>
   rw[e]at hx;have g:j=i:=by
    have:=iZ.mp e
    let(h1,h2):=this;simp at h2;exact h2.symm
   subst g;cases hx;exact(.refl D,[],.c (.i _),λ_ z=>nomatch z)
 stop:=λH D h=>by show n<=_;simp
abbrev QI:=Sq->(List T->Prop)->Prop
def Xg(K:BT)(wi:TI)(iq:QI):Prop:=∀(dl:Dl)(H:Hp)(σ:St)(q:Sq)(Q:List T->Prop)(R:It->Hp->Prop),RdR K dl H σ q->iq q Q ->
 (∀xs ύ hv H',Evo dl H H'->AB K dl ύ xs hv->(∀p∈hv,∃F,Rp K dl H' p.1 p.2 F)->Q xs->R ύ H')->wi σ H R
structure QPI(X:Cx)(K:BT)(tg iter:EQ)(wi:TI)(iq:QI):Prop where
 h:PI X tg iter wi
 s:Xg K wi iq
abbrev QJ:=Sq->(List T->Sq->Prop)->Prop
def Yw(K:BT)(wi:TI)(iq:QJ):Prop:=∀(dl:Dl)(H₀:Hp)(hs:List (V×T))(H:Hp)(σ:St)(q:Sq)(Q:List T->Sq->Prop)(R:It->Hp->Prop),cJ K dl H₀ hs H σ q->iq q Q ->
 (∀xs ύ hv H' q',cJ K dl H₀ (hv++hs) H' σ q'->AB K dl ύ xs hv->Q xs q'->R ύ H')->wi σ H R
structure QPJ(X:Cx)(K:BT)(tg iter:EQ)(wi:TI)(iq:QJ):Prop where
 h:PI X tg iter wi
 s:Yw K wi iq
variable{tg e a b:EQ}{te:TE}{qe:QE}{tl:TA}{ql:QA}{pos p:Pos}
def K0(g:X.K=K)(h:PE X e te):PI X tg e (LJ K te):=by subst g;exact vg h
def FX(g:X.K=K)(h:PE X e te):PI X tg e (O6 K te):=by subst g;exact SO h
def asL(qe:QE):QI:=λq Q=>qe q λt=>match t with|.l xs=>Q xs|.zl xs=>Q xs|_=>False
def asT(qe:QE):QI:=λq Q=>qe q λt=>match t with|.t xs=>Q xs|_=>False
def NW(h:QPE X K e te qe)(V:‹X.K=K›):QPI X K tg e (LJ K te) (asL qe):=(K0 V h.h,λdl H σ q Q R rd P k=>h.s dl H σ q _ _ rd P λv t F H' z r g=>by
 split at g
 ·let(p,vs,G,U,U,h1,h2):=r.r.lst;exact(p,U,(vs,SqL.of h1),k _ _ _ H' z O4 (λp hp=>by rw[aB.mp hp];exact(_,r)) g)
 ·let(p,o,vs,U,U,h1,h2):=r.r.zls;exact(p,U,(vs,.inl (.inr (o,h1))),k _ _ _ H' z Ww (λp hp=>by rw[aB.mp hp];exact(_,r)) g)
 ·exact g.elim)
def RV(h:QPE X K e te qe)(P:‹X.K=K›):QPI X K tg e (O6 K te) (asT qe):=(FX P h.h,λdl H σ q Q R rd z k=>h.s dl H σ q _ _ rd z λv t F H' V r g=>by
 split at g
 ·let(p,vs,U,h1,h2):=r.r.tup;exact(p,U,(vs,SqT.of h1),k _ _ _ H' V LF (λp hp=>by rw[aB.mp hp];exact(_,r)) g)
 ·exact g.elim)
def J1(lo:Int)(n:Nat):List T:=(UR n).map λi=>.i (lo+(i:Nat))
def mS{x:T}(h:(J1 lo n)[i]?=Z x):x=.i (lo+(i:Nat))/\i<n:=by
 unfold J1 at h;rw[ti]at h;let(j,g,U):=kf.mp h;let(h1,h2):=iZ.mp g;simp at h1 h2;subst h2;exact(U,h1)
def fL:(J1 lo n).length=n:=by simp[J1]
def Xb(ql:QA):QI:=λq Q=>ql q λts=>on1 ts λt=>match t with|.i n=>-(2 ^ 62)<=n/\n<2 ^ 62/\Q (J1 0 n.toNat)|_=>False
def nP(hg:Gl X "range")(hm:X.mg "range"=Y)(ha:QPA X K [a] tl ql)(hs:‹AD X a›):QPI X K tg (.Call (.Name "range" p) [a] [] pos) (LI tl) (Xb ql):=(yp hg hm ha.h hs,λdl H σ q Q R rd P k=>ha.s dl H σ q _ _ rd P λvs ts F H' V r _ g=>by
 replace g:=on1.inv g
 let(t,U,g):=g
 split at g
 ·let(v,U,r'):=r.one;let(U,_):=r'.r.int;exact(_,U,g.1,g.2.1,k _ _ [] H' V LG (λ_ z=>nomatch z) g.2.2)
 ·exact g.elim)
def asJ(iq:QI):QJ:=λq Q=>iq q λxs=>Q xs q
def jh(hg:Gl X "range")(hm:X.mg "range"=Y)(ha:QPA X K [a] tl ql)(hs:‹AD X a›):QPJ X K tg (.Call (.Name "range" p) [a] [] pos) (LI tl) (asJ (Xb ql)):=(yp hg hm ha.h hs,λdl H₀ hs H σ q Q R (F0,z) P k=>ha.s dl H σ q _ _ z.rd P λvs ts F H' V r _ g=>by
 replace g:=on1.inv g
 let(t,U,g):=g
 split at g
 ·let(v,U,r'):=r.one;let(U,_):=r'.r.int;exact(_,U,g.1,g.2.1,k _ _ [] H' q (F0,z.evo V) LG g.2.2)
 ·exact g.elim)
def zr(h:QPF X K e te qe)(hK:‹X.K=K›):QPJ X K tg e (O6 K te) (asJ (asT qe)):=(FX hK h.h,λdl H₀ hs H σ q Q R (F0,g) hq k=>h.s dl H σ q _ _ g.rd hq λv t F H' e1 r f n P=>by
 split at P
 ·have V:=(g.evo e1).hold r λj u hj b hb z=>(g.bO hb).no (f b z)
  let(p,vs,U,h1,h2):=r.r.tup;exact(p,U,(vs,SqT.of h1),k _ _ _ H' q (F0,V) LF P)
 ·exact P.elim)
inductive Tg where
 |nm(i:Nat)|tp (is:List Nat)
def xD(q:Sq):List Nat->List T->Option Sq
 |[],[]=>Z q
 |i::is,x::xs=>if i<q.length then xD (q.set i (.r x)) is xs else Y
 |_,_=>Y
def Tg.put(g:Tg)(x:T)(q:Sq):Option Sq:=match g with
 |.nm i=>if i<q.length then Z (q.set i (.r x))else Y
 |.tp is=>match x with|.t xs=>xD q is xs|_=>Y
def Aa:List Nat->TGs
 |[]=>Pd
 |i::is=>yz (jJ i) (Aa is)
def Tg.h(K:BT):Tg->TG
 |.nm i=>jJ i
 |.tp is=>LV K is.length (Aa is)
theorem ym{H₀ H:Hp}{hs:List (V×T)}:∀{is:List Nat}{vs:List V}{xs:List T}{G:List J}{σ:St}{q q':Sq}{F:Nat->List J}{R:St->Hp->Prop},Rel K dl H₀ hs H σ q F->aA K dl H vs xs G->(∀b∈G,Nd dl b) ->
  (∀(j:Nat)(u:T),q[j]?=Z (.o u)->∀b∈F j,b ∉ G)->xD q is xs=Z q'->(∀P,cJ K dl H₀ hs H P q'->R P H)->Aa is vs σ H R
 |[],vs,xs,G,σ,q,q',F,R,r,rs,_,_,hp,k=>by
  cases xs with
  |cons _ _=>cases hp
  |nil =>
   cases rs;cases hp;exact(U,k σ (F,r))
 |i::is,vs,xs,G,σ,q,q',F,R,r,rs,hn,ho,hp,k=>by
  cases xs with
  |nil=>cases hp
  |cons x xs =>
   cases rs with
   |cons r1 r2 =>
    unfold xD at hp;by_cases hi:i<q.length
    ·rw[if_pos hi]at hp;refine(_,_,U,?_);have r':=r.Si hi (r1,λb g=>hn b (ot _ g)) λj u Q _ b g z=>ho j u Q b g (ot _ z)
     refine ym r' r2 (λb g=>hn b (mu _ g)) (λj u Q b g z=>?_) hp k
     obtain⟨_,z',_⟩|⟨ne,Q⟩:=get_set Q
     ·cases z'
     ·rw[bg ne]at g;exact ho j u Q b g (mu _ z)
    ·rw[if_neg hi]at hp;cases hp
def J5{hs:List (V×T)}{g:Tg}{v:V}{x:T}{σ:St}{F:Nat->List J}{R:St->Hp->Prop}(r:Rel K dl H₀ hs H σ q F)(P:Rp K dl H v x G)
  (ho:∀(j:Nat)(u:T),q[j]?=Z (.o u)->∀b∈F j,b ∉ G) (hp:g.put x q=Z q') (k:∀z,cJ K dl H₀ hs H z q'->R z H):g.h K v σ H R:=by
 cases g with
 |nm i =>
  replace hp:(if i<q.length then Z (q.set i (.r x))else Y)=Z q':=hp
  by_cases hi:i<q.length
  ·rw[if_pos hi]at hp;cases hp;exact k _ (_,r.Si hi P λj u hj _=>ho j u hj)
  ·rw[if_neg hi]at hp;cases hp
 |tp is =>
  cases x with
  |t xs =>
   let(p,vs,U,h1,h2):=P.r.tup;have hl:∀{is:List Nat}{xs:List T}{q q':Sq},xD q is xs=Z q'->xs.length=is.length:=λ{is}=>by
    induction is with
    |nil=>intro xs q q' h;cases xs with
     |nil=>rfl
     |cons _ _=>cases h
    |cons i is Q=>intro xs q q' h;cases xs with
     |nil=>cases h
     |cons x xs =>
      unfold xD at h;by_cases hi:i<q.length
      ·rw[if_pos hi]at h;simp[Q h]
      ·rw[if_neg hi]at h;cases h
   exact(p,vs,U,SqT.of h1,by rw[h2.len];exact hl hp,ym r h2 P.n ho hp k)
  |_=>cases hp
end
variable{tg:EQ}{iter:EQ}{body:List Fk}{wi:TI}{cap:List (Option Nat)}{iq:QI}{tst:TT}{xC:QT}{te:TE}{qe:QE}{N':List Str}{sc:Scope}{elt:EQ}{ifs:List EQ}
section
variable{X:Cx}{K:BT}{hs:List (V×T)}{σ:St}{F:Nat->List J}
def Rel.jB{hv:List (V×T)}(r:Rel K dl H₀ (hv++hs) H σ q F):Rel K dl H₀ hs H σ q F:=(r.d,r.g,r.n,r.z,r.o,λp hp=>r.h p (mu _ hp),r.f,r.l)
def Rel.fps{hv:List (V×T)}(r:Rel K dl H₀ (hv++hs) H σ q F):∃fp:V×T->List J,∀p∈hv,Rp K dl H p.1 p.2 (fp p)/\∀(i:Nat)(t:T),q[i]?=Z (.o t)->∀b∈F i,b ∉ fp p:=by
 classical
 refine(λp=>if h:p∈hv then(r.h p (ot _ h)).choose else [],λp hp=>?_)
 have z:=(r.h p (ot _ hp)).choose_spec;simp only[dif_pos hp];exact z
inductive YB(g:Tg)(qb:QS)(D:fi)(xs:List T)(q0:Sq):Prop
 |mk(I:Nat->Sq->Prop)(h0:I 0 q0)(step:∀i x q,xs[i]?=Z x->I i q->∃q',g.put x q=Z q'/\qb (D.lp (I (i+1))) q')(fin:∀q,I xs.length q->D.nx q)
def VN(iq:QJ)(g:Tg)(qb:QS):QS:=λD q=>iq q λxs q0=>YB g qb D xs q0
def j9{iq:QJ}{g:Tg}{tb:TS}{qb:QS}{pos:Pos}(hp:ZR (model X.prog X.w) X.A X.env X.xe)(hc:X.calm=O)(hi:QPJ X K tg iter wi iq)(hg:PG X tg (g.h K))(hb:rW X K body tb qb)
  (hs:∀x,foldedSetIterable iter X.env x=pure x:=by intro _;rfl):QPS X K (.For tg iter body [] pos) (Rt wi (g.h K) tb) (VN iq g qb):=(DW hp hc hi.h hg hb.h hs,λdl H₀ hs H σ q Dq D r hq E=>by
 refine hi.s dl H₀ hs H σ q _ _ r hq λxs ύ hv H1 q1 r1 it hz=>?_
 let(I,i0,turn,fin):=hz;refine(λi m σ H=>m=xs.length - i/\i<=xs.length/\∃q,cJ K dl H₀ (hv++hs) H σ q/\I i q,(xs.length,by simp,Fs _,q1,r1,i0),?_)
 rintro i m σ H ⟨rfl,aq,q,⟨F,r⟩,hI⟩
 have held:∀p∈hv,∃F,Rp K dl H p.1 p.2 F:=λp hp=>let(Fp,h,_):=r.h p (ot _ hp);(Fp,h)
 by_cases P:i<xs.length
 ·refine .inr (it.go H i r.d held P,λQ H'=>∃q,cJ K dl H₀ (hv++hs) H' Q q/\I (i+1) q,λQ H' h=>(xs.length - (i+1),by omega,U,P,h),λv H' y=>?_)
  let(fp,V):=r.fps;have hx:xs[i]?=Z xs[i]:=by simp[P]
  let(e1,G,rx,hG):=it.yld H i xs[i] fp v H' r.d (λp hp=>(V p hp).1) hx y
  let(q',ak,hz):=turn i xs[i] q hx hI;refine J5 (r.evo e1) rx (λj u hj b hb z=>?_) ak λah r2=>hb.s dl H₀ (hv++hs) H' ah q' _ _ r2 hz (λH σ q r n=>(q,r,n),λH σ q (F,r) n=>E.nx H σ q (F,r.jB) n,λH σ q r n=>(q,r,n),E.rt,λH σ q F0 v t F r=>E.ru H σ q F0 v t F r.jB)
  obtain h |⟨p,hp,h⟩:=hG b z
  ·exact(r.bO hb).no h
  ·exact(V p hp).2 j u hj b hb h
 ·have e:i=xs.length:=by lia
  subst e;exact .inl (it.stop H r.d held,E.nx H σ q (F,r.jB) (fin q hI)))
def nq(cap:List (Option Nat))(q:Sq):Sq:=cap.map λo=>match o with
 |none=>.no
 |some i=>match q[i]? with
  |some (.o t)=>.r t
  |some (.r t)=>.r t
  |_=>.no
def NJ(r:RdR K dl H σ q):RdR K dl H (rM cap σ) (nq cap q):=(r.d,λj x t h1 h2=>by
 unfold nq at h1;rw[ti]at h1;cases e:cap[j]? with
 |none=>rw[e]at h1;cases h1
 |some o =>
  rw[e]at h1;cases o with
  |none=>cases h1;cases h2
  |some i =>
   have go:∀y,q[i]?=Z y->y.get=Z t->∃v F,(rM cap σ)[j]?=Z (Z v)/\Rp K dl H v t F:=λy z P=>by
    let(v,F,h3,h4):=r.g i y t z P;refine(v,F,?_,h4);unfold rM;rw[ti,e];show Z ((σ[i]?).join)=_;rw[h3];rfl
   replace h1:(match q[i]? with|some (.o t)=>Sl.r t|some (.r t)=>.r t|_=>.no)=x:=Option.some.inj h1
   split at h1
   ·rename_i u eq;subst h1;cases h2;exact go _ eq U
   ·rename_i u eq;subst h1;cases h2;exact go _ eq U
   ·subst h1;cases h2)
theorem RdR.set{i:Nat}{v:V}{x:T}{G:List J}(r:RdR K dl H σ q)(hl:i < σ.length)(P:Rp K dl H v x G):RdR K dl H (σ.set i (Z v)) (q.set i (.r x)):=(r.d,λj y t h1 h2=>by
 obtain⟨rfl,rfl,_⟩|⟨ne,h1⟩:=get_set h1
 ·cases h2;exact(v,G,by rw[u4 hl],P)
 ·let(w,F,h3,h4):=r.g j y t h1 h2;exact(w,F,by rw[ui (λz=>ne z.symm)];exact h3,h4))
def RdR.any{o:Option V}(r:RdR K dl H σ q)(hn:q[i]?=Z .no):RdR K dl H (σ.set i o) q:=(r.d,λj y t h1 h2=>by
 let(w,F,h3,h4):=r.g j y t h1 h2;refine(w,F,?_,h4);rw[ui]
 ·exact h3
 ·intro z;subst z;rw[hn]at h1;cases h1;cases h2)
def Tg.ixs:Tg->List Nat
 |.nm i=>[i]
 |.tp is=>is
theorem Bg:∀{is:List Nat}{vs:List V}{xs:List T}{G:List J}{σ:St}{q q0 q':Sq}{R:St->Hp->Prop},RdR K dl H σ q->RdR K dl H σ q0->σ.length=q.length->aA K dl H vs xs G->(∀b∈G,Nd dl b)->(∀i∈is,q0[i]?=Z .no)->xD q is xs=Z q' ->
  (∀g,RdR K dl H g q'->RdR K dl H g q0->g.length=σ.length->R g H)->Aa is vs σ H R
 |[],vs,xs,G,σ,q,q0,q',R,r,z,_,rs,_,_,hp,k=>by
  cases xs with
  |cons _ _=>cases hp
  |nil =>
   cases rs;cases hp;exact(U,k σ r z U)
 |i::is,vs,xs,G,σ,q,q0,q',R,r,z,hl,rs,hn,hf,hp,k=>by
  cases xs with
  |nil=>cases hp
  |cons x xs =>
   cases rs with
   |cons r1 Q =>
    unfold xD at hp;by_cases hi:i<q.length
    ·rw[if_pos hi]at hp;refine(_,_,U,(Bg (r.set (by omega) (r1,λb P=>hn b (ot _ P))) (z.any (hf i di)) (by simp[hl]) Q (λb P=>hn b (mu _ P)) (λj hj=>hf j (aJ _ hj)) hp λg a b c=>k g a b (by simpa using c)))
    ·rw[if_neg hi]at hp;cases hp
theorem Bo:∀{is:List Nat}{xs:List T}{q q':Sq},xD q is xs=Z q'->xs.length=is.length
 |[],[],_,_,_=>rfl
 |[],_::_,_,_,h=>by cases h
 |_::_,[],_,_,h=>by cases h
 |i::is,x::xs,q,q',h=>by
  unfold xD at h;by_cases hi:i<q.length
  ·rw[if_pos hi]at h;simp[Bo h]
  ·rw[if_neg hi]at h;cases h
def Vf{g:Tg}{v:V}{x:T}{R:St->Hp->Prop}(r:RdR K dl H σ q)(hl:σ.length=q.length)(P:Rp K dl H v x G)(hf:∀i∈g.ixs,q[i]?=Z .no)(hp:g.put x q=Z q')
  (k:∀z,RdR K dl H z q'->RdR K dl H z q->z.length=σ.length->R z H):g.h K v σ H R:=by
 cases g with
 |nm i =>
  replace hp:(if i<q.length then Z (q.set i (.r x))else Y)=Z q':=hp
  by_cases hi:i<q.length
  ·rw[if_pos hi]at hp;cases hp;exact k _ (r.set (by lia) P) (r.any (hf i (aB.mpr U))) (by simp)
  ·rw[if_neg hi]at hp;cases hp
 |tp is =>
  cases x with
  |t xs =>
   let(p,vs,U,h1,h2):=P.r.tup;exact(p,vs,U,SqT.of h1,by rw[h2.len];exact Bo hp,Bg r r hl h2 P.n hf hp k)
  |_=>cases hp
def P2:QT:=λ_ Q=>Q O
def JH:pS K Fi P2:=λdl H σ q Q R rd g k=>k O H (.refl rd.d) g
inductive CompI(cap:List (Option Nat))(g:Tg)(tst:QT)(qe:QE)(q:Sq)(Q:T->Prop)(xs:List T):Prop
 |mk (hl:xs.length<px) (I:Nat->List T->Prop) (h0:I 0 []) (step:∀i x ys,xs[i]?=Z x->I i ys->∃q',g.put x (nq cap q)=Z q'/\tst q' λb=>if b=O then qe q' λy=>I (i+1) (ys ++ [y])else I (i+1) ys) (fin:∀ys,I xs.length ys->Q (.l ys))
def KC(cap:List (Option Nat))(iq:QI)(g:Tg)(tst:QT)(qe:QE):QE:=λq Q=>iq q λxs=>CompI cap g tst qe q Q xs
theorem A7{g:Tg}(hi:Xg K wi iq)(ht:pS K tst xC)(he:kN K te qe)(hf:(g.ixs.all λi=>cap[i]? == Z Y)=O):kN K (yg cap wi (g.h K) tst te) (KC cap iq g xC qe):=by
 intro dl H σ q Q R rd hq k;refine hi dl H σ q _ _ rd hq λxs ύ hv H1 e1 it held hz=>?_
 let(hlen,I,i0,turn,fin):=hz;have a4:=NJ (cap:=cap) (rd.evo e1);have a6:∀i∈g.ixs,(nq cap q)[i]?=Z .no:=λi hi=>by
  have z:=AE.mp hf i hi;have z:=by simpa using z
  unfold nq;rw[ti,z];rfl
 have bc:(rM cap σ).length=(nq cap q).length:=by simp[rM,nq]
 refine(λi m vs aq H'=>m=xs.length - i/\i<=xs.length/\∃ts F,Evo dl H1 H'/\RdR K dl H' aq (nq cap q)/\aq.length=(nq cap q).length/\(∀p∈hv,∃F,Rp K dl H' p.1 p.2 F)/\Rps K dl H' vs ts F/\(∀b∈F,H b=Y)/\F.Nodup/\vs.length<=i/\I i ts,
  (xs.length,by simp,Fs _,[],[],.refl e1.d,a4,bc,held,(.nil,λ_ z=>nomatch z),(λ_ z=>nomatch z),mE,qd _,i0),?_)
 rintro i m vs aq H' ⟨rfl,br,ts,F,e2,a3,a7,Cf,rs,fr,nd,bo,hI⟩
 by_cases ah:i<xs.length
 ·refine .inr (it.go H' i e2.d Cf ah,by lia,λav ak H2=>∃ts F,Evo dl H1 H2/\RdR K dl H2 ak (nq cap q)/\ak.length=(nq cap q).length/\(∀p∈hv,∃F,Rp K dl H2 p.1 p.2 F)/\Rps K dl H2 av ts F/\(∀b∈F,H b=Y)/\F.Nodup/\av.length<=i+1/\I (i+1) ts,
   λav ak H2 h=>(xs.length - (i+1),Nat.sub_succ_lt_self _ _ ah,U,ah,h),λv H2 y=>?_)
  have hx:xs[i]?=Z xs[i]:=by simp[ah]
  obtain⟨fp,bb⟩:∃fp:V×T->List J,∀p∈hv,Rp K dl H' p.1 p.2 (fp p):=by
   classical
   refine(λp=>if h:p∈hv then(Cf p h).choose else [],λp hp=>?_)
   simp only[dif_pos hp];exact(Cf p hp).choose_spec
  let(e3,G,rx,hG):=it.yld H' i xs[i] fp v H2 e2.d bb hx y;let(q',a5,hz):=turn i xs[i] ts hx hI;have QF:∀{H3:Hp},Evo dl H' H3->∀p∈hv,∃F,Rp K dl H3 p.1 p.2 F:=λ{H3} e p hp=>let(F,r):=Cf p hp;(F,r.evo e2.d e)
  refine Vf (a3.evo e3) a7 rx a6 a5 λaD r3 aL l3=>(ht dl H2 aD q' _ _ r3 hz λb H4 e4 hz=>?_)
  cases b with
  |false=>exact(ts,F,(e2.trans e3).trans e4,aL.evo e4,by omega,QF (e3.trans e4),(rs.evo e2.d e3).evo e3.d e4,fr,nd,by lia,hz)
  |true =>
   refine he dl H4 aD q' _ _ (r3.evo e4) hz λw t G' H5 e5 aG f5 n5 hz=>?_
   have E:=(e2.trans e3).trans (e4.trans e5);have aV:=((rs.evo e2.d e3).evo e3.d (e4.trans e5));refine(ts ++ [t],F++(G' ++ []),E,aL.evo (e4.trans e5),by omega,QF (e3.trans (e4.trans e5)),(aV.r.append (.cons aG.r .nil),λb P=>?_),λb P=>?_,?_,by simp;omega,hz)
   ·obtain P|P:=lS.mp P
    ·exact rs.n b P
    ·rw[qp]at P;exact aG.n b P
   ·obtain P|P:=lS.mp P
    ·exact fr b P
    ·rw[qp]at P;exact((e1.trans e2).trans (e3.trans e4)).free (f5 b P)
   ·rw[qp];refine ya.mpr (nd,n5,λx hx y hy bj=>?_)
    subst bj;have a0:=(rs.evo e2.d e3).evo e3.d e4;exact gH.no (a0.r.there x hx) (f5 x hy)
 ·have e:i=xs.length:=by lia
  subst e;refine .inl (it.stop H' e2.d Cf,by lia,λD hD=>?_)
  exact k _ _ _ _ ((e1.trans e2).new hD) (rs.lst e2.d hD) (λb P=>by
   obtain e|P:=fH.mp P
   ·rw[e];exact(e1.trans e2).free hD
   ·exact fr b P) (rs.fresh hD nd) (fin ts hI)
structure QB(X:Cx)(K:BT)(N':List Str)(sc:Scope)(tg:EQ)(g:Tg)(ifs:List EQ)(tst:TT)(xC:QT)(elt:EQ)(te:TE)(qe:QE):Prop where
 b:∀cl C s₂ H₂ fp,PG (blk X N' sc cl C s₂ H₂ fp) tg (g.h K)/\PTs (blk X N' sc cl C s₂ H₂ fp) ifs tst/\PE (blk X N' sc cl C s₂ H₂ fp) elt te
 t:pS K tst xC
 e:kN K te qe
def ka{g:Tg}(h:∀cl C s₂ H₂ fp,PG (blk X N' sc cl C s₂ H₂ fp) tg (g.h K)/\QPF (blk X N' sc cl C s₂ H₂ fp) K elt te qe):QB X K N' sc tg g [] Fi P2 elt te qe :=
 (λcl C s₂ H₂ fp=>((h cl C s₂ H₂ fp).1,FT,(h cl C s₂ H₂ fp).2.h),JH,(h [] 0 X.s₀ (λ_=>Y) []).2.s)
def lh{pos:Pos}{g:Tg}(hc:X.calm=O)(hi:QPI X K tg iter wi iq)(z:sr X sc N' cap)(q:QB X K N' sc tg g ifs tst xC elt te qe)
  (hf:‹(g.ixs.all λi=>cap[i]? == Z Y)=true›)
  (kJ:‹sc.kind=.function›) (V:∀y∈sc.names,y.2 ≠ .cell:=by decide) (Q:∀y∈sc.names,y.2=.local->sc.names.lookup y.1=Z .local:=by decide)
  (P:‹(sc.names.all λy=>y.2 != .free ||(X.env.kindOf y.1==Z .cell||X.env.kindOf y.1==Z .free))=true›)
  (hs:∀x,foldedSetIterable iter X.env x=pure x:=by intro _;rfl):QPF X K (.ListComp elt [(tg,iter,ifs,0)] sc pos) (yg cap wi (g.h K) tst te) (KC cap iq g xC qe) :=
 (F7 hc hi.h z q.b kJ V Q P hs,A7 hi.s q.t q.e hf)
def zq{y:Str}{pos gD py:Pos}{g:Tg}(hN:X.N.Nodup)(z:X.N[i]?=Z y)(hy:Loc X.env.scope y)
  (hc:X.calm=O) (hi:QPI X K tg iter wi iq) (V:sr X sc N' cap) (Q:QB X K N' sc tg g ifs tst xC elt te qe)
  (P:‹(g.ixs.all λi=>cap[i]? == Z Y)=true›)
  (q:‹swapsWith (.ListComp elt [(tg,iter,ifs,0)] sc pos) (Z (.Name y py)) gD.line X.env=pure true›)
  (hf:AT X y:=by first|exact .inl rfl|exact .inr rfl|assumption)
  (kJ:‹sc.kind=.function›) (kK:∀y∈sc.names,y.2 ≠ .cell:=by decide) (lI:∀y∈sc.names,y.2=.local->sc.names.lookup y.1=Z .local:=by decide)
  (lX:‹(sc.names.all λy=>y.2 != .free ||(X.env.kindOf y.1==Z .cell||X.env.kindOf y.1==Z .free))=true›)
  (hs:∀x,foldedSetIterable iter X.env x=pure x:=by intro _;rfl):QPS X K (.Assign [.Name y py] (.ListComp elt [(tg,iter,ifs,0)] sc pos) gD) (p7 (yg cap wi (g.h K) tst te) (jJ i)) (N2 i (KC cap iq g xC qe)) :=
 (FW hN z hy hc hi.h V Q.b q hf kJ kK lI lX hs,FE (A7 hi.s Q.t Q.e P))
end
section
variable{X:Cx}{K:BT}{hs:List (V×T)}{σ:St}{F:Nat->List J}{e o:EQ}{apos a7:Pos}
def zip_inj:∀{vs us:List V},vs.length=ns.length->us.length=ns.length->ns.zip vs=ns.zip us->vs=us:=by
 induction ns with
 |nil=>intro vs us h1 h2 _;rw[YX.mp h1,YX.mp h2]
 |cons n r q =>
  intro vs us h1 h2 e;cases vs with
  |nil=>cases h1
  |cons v vs=>cases us with
   |nil=>cases h2
   |cons u us =>
    injection e with g z
    injection g with _ g
    rw[g,q (Nat.succ.inj h1) (Nat.succ.inj h2) z]
def aI.uniq{v:V}{t:T}{F:List J}(h:aI K dl H v t F):∀{F':List J},aI K dl H v t F'->F=F' :=
 aI.rec (motive_1:=λv t F _=>∀{F'},aI K dl H v t F'->F=F') (motive_2:=λv t F _=>∀{F'},aA K dl H v t F'->F=F') (motive_3:=λv t F _=>∀{F'},gY K dl H v t F'->F=F')
  (λh=>(h.im U).symm) (λ_ _ h=>(h.im U).symm) (λ_ _ h=>(h.im U).symm) (λ_ _ h=>(h.im U).symm) (λ_ _ h=>(h.im U).symm)
  (λh1 _ g _ h=>by let(a,vs,e,h2,r):=h.tup;cases e;rw[h1]at h2;cases h2;exact g r)
  (λh1 _ g _ h=>by let(a,vs,G,e,U,h2,r):=h.lst;cases e;rw[h1]at h2;cases h2;rw[g r])
  (λh1 _ g _ h=>by let(a,vs,G,e,U,h2,r):=h.dic;cases e;rw[h1]at h2;cases h2;rw[g r])
  (λ_ _ h=>(h.im U).symm) (λ_ _ h=>(h.im U).symm) (λ_ _ h=>(h.im U).symm) (λ_ _ _ _ h=>(h.im U).symm) (λ_ _ h=>(h.im U).symm) (λ_ _ _ _ h=>(h.im U).symm)
  (λ_ _ _ h=>(h.im U).symm) (λ_ _ _ _ h=>(h.im U).symm) (λh1 _ g _ h=>by let(vs,G,e,U,h2,r):=h.dpp;rw[h1]at h2;cases h2;rw[g r]) (λh1 _ g _ h=>by let(vs,G,e,U,h2,r):=h.lpp;rw[h1]at h2;cases h2;rw[g r]) (λ_ _ _ _ h=>(h.im U).symm) (λ_ _ h=>(h.im U).symm) (λh1 _ h4 hr g _ h=>by
   let(dx,vs,G,e,U,h2,_,h3,r):=h.omm;rw[h1]at h2;injection h2 with h2
   injection h2 with _ e1 e2
   subst e1;have Q:=zip_inj (hr.len.trans h4.symm) (r.len.trans h3.symm) e2;subst Q;rw[g r])
  (λh=>by cases h;rfl) (λ_ _ P z _ h=>by cases h with|cons h2 q=>rw[P h2,z q])
  (λh=>by cases h;rfl) (λ_ _ P z _ h=>by cases h with|cons h2 q=>rw[P h2,z q]) h
def Rel.O9(r:Rel K dl H₀ hs H σ q F)(e:Evo dl H H'){p:V×T}(hp:p∈hs){Fp:List J}(h:Rp K dl H' p.1 p.2 Fp){b:J}(g:H b=Y):b ∉ Fp:=λz=>by
 let(Q,h1,_):=r.h p hp;have P:=(h1.evo r.d e).r.uniq h.r;subst P;exact gH.no (h1.r.there b z) g
def Rel.sM{p:J}{ws:List V}{xs ys:List T}{G':List J}(r:Rel K dl H₀ hs H σ q F)(hi:q[i]?=Z (.o (.l xs)))(hv:σ[i]?=Z (Z (.ref p)))(Q:F i=p::G)(e:Evo dl H H')
  (rs:aA K dl H' ws ys G') (hn:G'.Nodup) (hG:∀b∈G',b∈G\/(H b=Y/\Nd dl b)):cJ K dl H₀ hs (upd H' p (.lst ws)) σ (q.set i (.o (.l ys))):=by
 have r':=r.evo e;let(o1,o2,o3):=r.o i _ hi;let(v',aD,rp):=r'.g i _ _ hi U;rw[hv]at aD;let(p2,aG,G2,e2,eF,h1,h2):=rp.r.lst;rw[Q]at eF;cases eF;rw[Q]at o1;have pG:=(xh.mp o1).1;have av:=r.bO (by rw[Q];exact di)
 have ah:p ∉ G':=λz=>by
  obtain z|z:=hG p z
  ·exact pG z
  ·exact av.no z.1
 have pn:=rp.n p (by rw[Q];exact di)
 have tf:TF H' (upd H' p (.lst ws)):=(λa us h=>(by
  rw[aw];exact h;intro z;subst z;rw[h]at h1;cases h1),λa ob u h=>(by
  rw[aw];exact h;intro z;subst z;rw[h]at h1;cases h1),λa φ h=>(by
  rw[aw];exact h;intro z;subst z;rw[h]at h1;cases h1),λa ak h=>(by
  by_cases z:a=p
  ·subst z;exact(_,aC)
  ·exact(ak,by rw[aw z];exact h)),λa x h=>(x,Zc _,by
  rw[aw];exact h;intro z;subst z;rw[h]at h1;cases h1))
 have aq:=rs.d9 tf (λ_ z=>z) λb P ob eb=>by
  have ne:b≠p:=by
   intro z;subst z;exact ah P
  rw[aw ne];exact eb
 refine(_,r'.write hi hv (by rw[Q];exact di) (λ_ _=>(_,U)) (.l aC aq,λb P=>?_) (xh.mpr (ah,hn)) λb P=>?_)
 ·obtain z|P:=fH.mp P
  ·rw[z];exact pn
  ·obtain z|z:=hG b P
   ·exact rp.n b (by rw[Q];exact aJ _ z)
   ·exact z.2
 ·obtain z|P:=fH.mp P
  ·rw[z,Q];exact .inl di
  ·obtain z|z:=hG b P
   ·rw[Q];exact .inl (aJ _ z)
   ·exact .inr (r.fz z.1,λj hj=>(r.bO hj).no z.1,λw u Fp h1 h2=>r.O9 e h2 h1 z.1)
def zw(i:Nat)(qe:QE):QS:=λD q=>match q[i]? with
 |some (.o (.l xs))=>xs.length<px/\qe q λt=>D.nx (q.set i (.o (.l (xs ++ [t]))))
 |_=>False
abbrev At(X:Cx)(p:Pos)(e:List EQ):Prop:=((backTo p (fx e X.env)).all (λx=>!x.1)&&(backToKw p (keywordEach [] X.env)).all (λx=>x.1.isSome)&&decide (e.length+([]:List Keyword).length+(if([]:List Keyword).isEmpty then 0 else 1)<30))=true
def pJ(q:X.K=K)(ho:PE X o (bX i))(he:PE X e te)(z:‹attributeBase o "append" X.env (eval o X.env)=eval o X.env›)
  (g:‹At X a7 [e]›)
  (P:‹(apos.endLine==a7.line)=true›) (hs:‹AC X e []›) (Q:‹(backTo a7 (fx [] X.env)).any (·.1)=false›):
  PE X (.Call (.Attribute o "append" apos) [e] [] a7) (tBM K "list" k8 (bX i) (bP te f9)):=by
 subst q;exact Bs PySem.F.plainAttrs_list PySem.F.slot_list_append PySem.F.type_list_append yq ho (bh he dW hs) z g P hs Q
def Dz(he:kN K te qe):CM K (mG (tBM K "list" k8 (bX i) (bP te f9))) (zw i qe):=λdl H₀ hs H σ q Dq D (F,r) Q E=>by
 unfold zw at Q
 split at Q
 ·rename_i xs ei;let(hz,Q):=Q;let(v,hv,rp):=r.g i _ _ ei U;let(o1,o2,o3):=r.o i _ ei;let(p,vs,G,U,V,h1,h2):=rp.r.lst;refine(_,hv,.inl (U,vs,SqL.of h1),he dl H σ q _ _ r.rd Q λw t F' H' e1 r1 f1 n1 ak=>?_)
  have pn:=rp.n p (by rw[V];exact di)
  refine(p,vs,w,U,U,e1.k p _ h1 pn (λ_ z=>nomatch z),by rw[h2.len];exact hz,?_)
  have hG:=λb P=>rp.n b (by rw[V];exact aJ _ P)
  have ah:=h2.d9 (e1.tf r.d) (λ_ z=>z) λb P o eo=>e1.k b o eo (hG b P) (.of (h2.there b P) eo)
  refine E.nx _ σ _ (r.sM ei hv V e1 (ah.append (.cons r1.r .nil)) ?_ λb P=>?_) ak
  ·rw[qp];rw[V]at o1;refine ya.mpr ((xh.mp o1).2,n1,λx hx y hy aq=>?_)
   subst aq;exact gH.no (h2.there x hx) (f1 x hy)
  ·obtain P|P:=lS.mp P
   ·exact .inl P
   ·rw[qp]at P;exact .inr (f1 b P,r1.n b P)
 ·exact Q.elim
def ig{gD:Pos}(ho:PE X o (bX i))(he:QPF X K e te qe)(z:‹X.K=K›)(P:‹attributeBase o "append" X.env (eval o X.env)=eval o X.env›)
  (q:‹At X a7 [e]›)
  (Q:‹(apos.endLine==a7.line)=true›) (hs:‹AC X e []›) (V:‹(backTo a7 (fx [] X.env)).any (·.1)=false›)
  (g:‹swapsWith (.Call (.Attribute o "append" apos) [e] [] a7) Y gD.line X.env=pure false›):
  QPS X K (.Expr (.Call (.Attribute o "append" apos) [e] [] a7) gD) (mG (tBM K "list" k8 (bX i) (bP te f9))) (zw i qe):=(jG (pJ z ho he.h P q Q hs V) g,Dz he.s)
def zv(i:Nat)(qe:QE):QS:=λD q=>match q[i]? with
 |some (.o (.l xs))=>qe q λt=>match t with
  |.l ys=>xs.length+ys.length<=px/\D.nx (q.set i (.o (.l (xs++ys))))
  |_=>False
 |_=>False
def Ei(q:X.K=K)(ho:PE X o (bX i))(he:PE X e te)(z:‹attributeBase o "extend" X.env (eval o X.env)=eval o X.env›)
  (g:‹At X a7 [e]›)
  (P:‹(apos.endLine==a7.line)=true›) (hs:‹AC X e []›) (Q:‹(backTo a7 (fx [] X.env)).any (·.1)=false›):
  PE X (.Call (.Attribute o "extend" apos) [e] [] a7) (tBM K "list" vf (bX i) (bP te f9)):=by
 subst q;exact Bs PySem.F.plainAttrs_list PySem.F.slot_list_extend PySem.F.type_list_extend HZ ho (bh he dW hs) z g P hs Q
def Dy(he:kN K te qe):CM K (mG (tBM K "list" vf (bX i) (bP te f9))) (zv i qe):=λdl H₀ hs H σ q Dq D (F,r) V E=>by
 unfold zv at V
 split at V
 ·rename_i xs ei;let(v,hv,rp):=r.g i _ _ ei U;let(o1,o2,o3):=r.o i _ ei;let(p,vs,G,U,eF,h1,h2):=rp.r.lst;refine(_,hv,.inl (U,vs,SqL.of h1),he dl H σ q _ _ r.rd V λw t F' H' e1 r1 f1 n1 Q=>?_)
  split at Q
  ·let(p2,ws,G2,U,U,h3,h4):=r1.r.lst;have pn:=rp.n p (by rw[eF];exact di)
   refine(p,p2,vs,ws,U,U,e1.k p _ h1 pn (λ_ z=>nomatch z),h3,by rw[h2.len,h4.len];exact Q.1,?_)
   have hG:=λb P=>rp.n b (by rw[eF];exact aJ _ P)
   have ah:=h2.d9 (e1.tf r.d) (λ_ z=>z) λb P o eo=>e1.k b o eo (hG b P) (.of (h2.there b P) eo)
   refine E.nx _ σ _ (r.sM ei hv eF e1 (ah.append h4) ?_ λb P=>?_) Q.2
   ·rw[eF]at o1;refine ya.mpr ((xh.mp o1).2,(xh.mp n1).2,λx hx y hy ak=>?_)
    subst ak;exact gH.no (h2.there x hx) (f1 x (aJ _ hy))
   ·obtain P|P:=lS.mp P
    ·exact .inl P
    ·exact .inr (f1 b (aJ _ P),r1.n b (aJ _ P))
  ·exact Q.elim
 ·exact V.elim
def HD{gD:Pos}(ho:PE X o (bX i))(he:QPF X K e te qe)(z:‹X.K=K›)(P:‹attributeBase o "extend" X.env (eval o X.env)=eval o X.env›)
  (q:‹At X a7 [e]›)
  (Q:‹(apos.endLine==a7.line)=true›) (hs:‹AC X e []›) (V:‹(backTo a7 (fx [] X.env)).any (·.1)=false›)
  (g:‹swapsWith (.Call (.Attribute o "extend" apos) [e] [] a7) Y gD.line X.env=pure false›):
  QPS X K (.Expr (.Call (.Attribute o "extend" apos) [e] [] a7) gD) (mG (tBM K "list" vf (bX i) (bP te f9))) (zv i qe):=(jG (Ei z ho he.h P q Q hs V) g,Dy he.s)
end
variable{qo:QE}{to:TE}
section
variable{X:Cx}{K:BT}{hs:List (V×T)}{σ:St}{F:Nat->List J}{a b e o c:EQ}{ta tb:TE}{qa qb qk qv:QE}{apos a7:Pos}
def jv{xs ys:List T}:T.ims (xs++ys)=(T.ims xs&&T.ims ys):=by
 induction xs with
 |nil=>rfl
 |cons x r g=>show(x.im&&T.ims (r++ys))=((x.im&&T.ims r)&&T.ims ys);rw[g,Bool.and_assoc]
def VE(i j:Nat)(qa qb:QE):QS:=λD q=>qa q λt=>t.im=O/\qb q λu=>u.im=O/\D.nx ((q.set i (.o t)).set j (.o u))
def Nq(ha:jz K ta qa)(hb:jz K tb qb):CM K (Rn i j (bP ta (bP tb f9))) (VE i j qa qb):=λdl H₀ hs H σ q Dq D (F,r) g E=>by
 refine ha dl H σ q _ _ r.rd g λv t F1 H1 Q r1 (m1,g)=>hb dl H1 σ q _ _ (r.rd.evo Q) g λw u F2 H2 e2 V P=>?_
 let(m2,g):=P;obtain rfl:=r1.r.im m1;obtain rfl:=V.r.im m2;refine(v,w,U,?_);let(F1,R1):=r.gf (Q.trans e2) (r1.evo Q.d e2) (λ_ z=>nomatch z) mE
 exact E.nx _ _ _ (R1.gf (.refl R1.d) V (λ_ z=>nomatch z) mE) g
def Yr:T->Option Str
 |.s x=>Z x
 |_=>Y
abbrev txs:List T->Option (List Str):=picks Yr
theorem aA.txs{vs:List V}{ts:List T}{F:List J}{bs:List Str}(h:aA K dl H vs ts F)(e:L2.txs ts=Z bs):vs=bs.map V.str :=
 h.picks (λv t F a h e=>by cases t <;> first|(cases e;exact h.str.1)|cases e) e
def fK(bs:List Str):txs (bs.map T.s)=Z bs:=by
 induction bs with
 |nil=>rfl
 |cons b r g=>show(txs (r.map T.s)).map (b :: ·)=_;rw[g];rfl
def VH(qo qe:QE):QE:=λq Q=>qo q λs=>match s with
 |.s sep=>qe q λt=>match t with
  |.l xs=>Ex4 (λys=>txs xs=Z ys) (λys=>(ys.map (·.length)).sum+ys.length*sep.length<=16777216) (λys=>(.s (Txt.join sep ys))) Q
  |_=>False
 |_=>False
def fN(ho:QPE X K o to qo)(he:QPE X K e te qe)(hK:‹X.K=K›)(eC:‹attributeBase o "join" X.env (eval o X.env)=eval o X.env›)
  (lJ:‹At X a7 [e]›)
  (eB:‹(apos.endLine==a7.line)=true›) (hs:‹AC X e []›) (d6:‹(backTo a7 (fx [] X.env)).any (·.1)=false›):
  QPF X K (.Call (.Attribute o "join" apos) [e] [] a7) (tBM K "str" (rJoin K) to (bP te f9)) (VH qo qe):=(by
 subst hK;exact Bs PySem.F.plainAttrs_str PySem.F.slot_str_join PySem.F.type_str_join OU ho.h (bh he.h dW hs) eC lJ eB hs d6,λdl H σ q Q R rd g k=>ho.s dl H σ q _ _ rd g λv t F H1 P r1 g=>by
  split at g
  ·let(U,_):=r1.r.str;refine(U,he.s dl H1 σ q _ _ (rd.evo P) g λw u F2 H2 e2 V g=>?_)
   split at g
   ·let(ys,hy,hz,g):=g;let(p,vs,G,U,eF,h1,h2):=V.r.lst;have ev:=h2.txs hy;subst ev;exact(_,p,ys,U,U,SqL.of h1,hz,k _ _ [] H2 (P.trans e2) (.c (.s _)) (λ_ z=>nomatch z) mE g)
   ·exact g.elim
  ·exact g.elim)
def P4(i:Nat)(qk qv:QE):QS:=λD q=>qv q λt=>match q[i]? with
 |some (.o (.l xs))=>qk q λu=>match u with
  |.i k=>∃j,ixN xs.length k=Z j/\T.ims xs=O/\t.im=O/\D.nx (q.set i (.o (.l (xs.set j t))))
  |_=>False
 |_=>False
end
def Ak(vs ws:List V):Bool:=vs.length==ws.length&&(UR vs.length).all λj=>match vs[j]?,ws[j]? with|some x,Z y=>eqV x y|_,_=>ϊ
variable{its:List B}
section
variable{X:Cx}{K:BT}
def Vals.at'{vs:List V}(r:Vals vs its)(h:j<its.toArray.size):∃v,vs[j]?=Z v/\RelV v its.toArray[j]:=by
 have hl:=r.length;have g:=by simpa using h
 have hv:j<vs.length:=by lia
 let(u,h1,h2):=r.get (i:=j) (x:=vs[j]) (by simp[hv])
 have:its[j]?=Z its[j]:=by simp[g]
 rw[this]at h1;cases h1;exact(vs[j],by simp[hv],by simpa using h2)
def vn{vs:List V}{v:V}(h:vs.all jK=O)(e:vs[j]?=Z v):jK v=true:=AE.mp h v (yb e)
inductive Vo(K:BT)(x:V)(y:V)(H:Hp)(Q:VK):Prop
 |mk(p q vs ws:_)(h1:x=.ref p)(h2:y=.ref q)(h3:((SqL K H p vs/\SqL K H q ws)\/(SqT K H p vs/\SqT K H q ws)))(h4:vs.all jK=O)(h5:ws.all jK=O)(h6:Q (.bl (Ak vs ws)) H)
def SY(hu:X.A.units+1<cLine):OpR X (compareOp .Eq) (Vo X.K):=by
 intro gd s σ H x y v u Q I rx ry h;let(p,q,vs,ws,U,U,hs,f1,f2,k):=h;cases rx;cases ry;obtain⟨h1,h2⟩|⟨h1,h2⟩:=hs
 ·let(its,z,p1,_):=I.list h1;let(gR,g,p2,_):=I.list h2;have l1:=z.length;have l2:=g.length;by_cases hl:its.length=gR.length
  ·refine SeqAt.eq_listAt (e:=λj=>match vs[j]?,ws[j]? with|some x,Z y=>eqV x y|_,_=>ϊ) p1.isList p2.isList (by simpa using hl) (by omega) (λj g1 g2=>?_) (.bl _,H,I,U,?_)
   ·let(a,V,ra):=z.at' g1;let(b,P,rb):=g.at' g2;simp only[V,P];exact wM ra rb (vn f1 V) (vn f2 P)
   ·have e:Ak vs ws=(UR its.toArray.size).all λj=>match vs[j]?,ws[j]? with|some x,Z y=>eqV x y|_,_=>false:=by
     unfold Ak;rw[show(vs.length==ws.length)=O from by simp;lia,YT,u3,l1]
    rw[<- e];exact k
  ·refine SeqAt.eq_list_lengthsAt p1.isList p2.isList (by simpa using hl) (by omega) (.bl _,H,I,U,?_)
   have e:Ak vs ws=false:=by
    unfold Ak;rw[show(vs.length==ws.length)=ϊ from by simp;lia,Z5]
   rw[<- e];exact k
 ·let(its,z,p1,_):=I.tuple h1;let(gR,g,p2,_):=I.tuple h2;have l1:=z.length;have l2:=g.length;refine SeqAt.eq_tupleAt (e:=λj=>match vs[j]?,ws[j]? with|some x,Z y=>eqV x y|_,_=>ϊ) (p1) (p2) (by omega) (λj g1 g2=>?_) (.bl _,H,I,U,?_)
  ·let(a,V,ra):=z.at' g1;let(b,P,rb):=g.at' g2;simp only[V,P];exact wM ra rb (vn f1 V) (vn f2 P)
  ·have e:Ak vs ws=((UR (min its.toArray.size gR.toArray.size)).all (λj=>match vs[j]?,ws[j]? with|some x,Z y=>eqV x y|_,_=>ϊ)&&its.toArray.size==gR.toArray.size):=by
    unfold Ak;rw[u3,u3,<- l1,<- l2,Bool.and_comm];by_cases hl:vs.length=ws.length
    ·rw[hl,Nat.min_self]
    ·rw[show(vs.length==ws.length)=ϊ from by simpa using hl,Zl,Zl]
   rw[<- e];exact k
def eqF(xs ys:List T):Bool:=Ak (xs.map T.v) (ys.map T.v)
def Kz:Q2:=λt u Q=>match t,u with
 |.l xs,.l ys=>(fls xs&&fls ys)=O/\Q (.b (eqF xs ys))
 |.t xs,.t ys=>(fls xs&&fls ys)=O/\Q (.b (eqF xs ys))
 |t,u=>qEq t u Q
def NM(K:BT):R2:=λx y H Q=>rEq x y H Q\/Vo K x y H Q
def fD(g:X.A.units+1<cLine)(q:X.K=K):OpR X (compareOp .Eq) (NM K):=by subst q;exact Qe.or (SY g)
def cX:gX K (NM K) Kz:=by
 intro dl H x y t u F G Q R D V P g k;unfold Kz at g
 split at g
 ·let(p,vs,G1,U,U,h1,h2):=V.r.lst;let(p',q,G2,U,U,h3,h4):=P.r.lst;let(f,g):=g;rw[tY]at f;let(U,U):=h2.vs f.1;let(U,U):=h4.vs f.2;exact .inr (p,p',_,_,U,U,.inl (SqL.of h1,SqL.of h3),wD f.1,wD f.2,k _ _ [] H (.refl D) (.c (.b _)) (λ_ z=>nomatch z) mE g)
 ·let(p,vs,U,h1,h2):=V.r.tup;let(p',q,U,h3,h4):=P.r.tup;let(f,g):=g;rw[tY]at f;let(U,U):=h2.vs f.1;let(U,U):=h4.vs f.2;exact .inr (p,p',_,_,U,U,.inr (SqT.of h1,SqT.of h3),wD f.1,wD f.2,k _ _ [] H (.refl D) (.c (.b _)) (λ_ z=>nomatch z) mE g)
 ·exact .inl (RG dl H x y t u F G Q R D V P g k)
end
end L2
namespace PySem
open Sem (wp)
end PySem
namespace PySem
open Sem (wp)
namespace F
end F
end PySem
namespace PySem
open Sem (wp)
end PySem
namespace L2
open PySem PySem.Spec PyProof.Rows
variable{i:Nat}{j:Nat}{x:Str}{P:Db}{mg:Str->Option B}{base:Ev}{fd:Ch}{ps:List Str}
section
variable{X:Cx}{K:BT}{a b:EQ}{ta tb:TE}{qa qb:QE}{pos:Pos}
def RS{y:Str}{q pt:Pos}{kt k2 g}(hc:X.calm=O)(hN:X.N.Nodup)(hi:X.N[i]?=Z x)(V:X.N[j]?=Z y)(z:i≠j)
  (hx:BC X x) (Q:BC X y) (ha:QPE X K a ta qa) (P:QPE X K b tb qb)
  (hw:swappedStores [.Tuple [.Name x q,.Name y py] kt pt] (.Tuple [a,b] k2 g) X.env=pure (Z [x,y]))
  (hs:‹swapsWithSole [.Tuple [.Name x q,.Name y py] kt pt] (.Tuple [a,b] k2 g) pos.line X.env=pure false›)
  (h1:‹fx [a,b] X.env=(ϊ,eval a X.env)::fx [b] X.env›) (h2:‹AC X b []›):
  QPS X K (.Assign [.Tuple [.Name x q,.Name y py] kt pt] (.Tuple [a,b] k2 g) pos) (Rn i j (bP ta (bP tb f9))) (VE i j qa qb) :=
 (Sm hc hN hi V z hx Q (bh ha.h (bh P.h dW h2) h1) hw hs,Nq ha.s P.s)
def SI:PSp:=λts Q=>on2 ts λt u=>match t with
 |.jy=>match u with|.i m=>0<m/\m<18446744073709551616/\∀r,0<=r->r<m->Q (.i r)|_=>False
 |_=>False
theorem kg{w:Da}{K:BT}{k:Nat}{f:J}(F:aS P w K mg base CX0 k f fd ps JD):aS P w K mg base CX0 k f fd ps (spQ K SI):=by
 refine F.imp λvs H Q E h=>?_
 let(dl,ts,Fp,Qp,D,r,h,fin):=h
 replace h:=on2.inv h
 let(t,u,U,h):=h
 split at h
 ·split at h
  ·let(v,w',F1,F2,U,r1,r2):=r.two;let(a,l,U,hm,_):=r1.r.dea;let(U,_):=r2.r.int;refine(a,l,_,U,D _ hm,h.1,h.2.1,λr H' r0 ah D' q=>fin _ _ [] H' (λb o e n _=>q b o e (n _ hm).1 (n _ hm).2,λp hp=>?_,λb x e=>(x,Zc _,by
    let(s2,n2,l2,Q2):=D _ hm;exact q b _ e (en e Q2.hd (λz=>nomatch z)) (en e Q2.hl (λz=>nomatch z)))) (.c (.i _)) (λ_ z=>nomatch z) mE (h.2.2 r r0 ah))
   by_cases e:p=(a,l)
   ·rw[e];exact D'
   ·let(s1,n1,l1,Q1):=D p hp;let(s2,n2,l2,Q2):=D _ hm;let(s3,n3,l3,Q3):=D';have pa:p.1≠a:=λz=>by
     have z1:=Q1.hd;have z2:=Q2.hd;rw[z]at z1;rw[z1]at z2;have z3:=by injection (Option.some.inj z2)
     have z4:=congrArg (λkv=>pY kv (.inr "left")) z3
     exact e (Prod.ext z (V.ref.inj (Option.some.inj z4)))
    have pl:=en Q1.hd Q2.hl (λz=>nomatch z)
    have ak:=en Q1.hl Q2.hd (λz=>nomatch z)
    by_cases g:p.2=l
    ·exact(s1,n1,l3,q _ _ Q1.hd pa pl,by rw[g];exact Q3.hl,Q1.s0,Q1.s1,Q1.n0,Q3.l0)
    ·exact(s1,n1,l1,q _ _ Q1.hd pa pl,q _ _ Q1.hl ak g,Q1.s0,Q1.s1,Q1.n0,Q1.l0)
  ·exact h.elim
 ·exact h.elim
end
section
variable{X:Cx}{K:BT}{a b e o:EQ}{tk tv:TE}{qk qv:QE}{pos pos':Pos}
theorem aA.set{dl:Dl}{H:Hp}{w:V}{t:T}(hw:aI K dl H w t []):∀{vs:List V}{xs:List T}{F:List J}(j:Nat),aA K dl H vs xs F->F=[]->aA K dl H (vs.set j w) (xs.set j t) []
 |_,_,_,_,.nil,_=>.nil
 |_,_,_,0,.cons h r,e=>by
  let(q,g):=ZV.mp e;subst q g;exact .cons hw r
 |_,_,_,j+1,.cons h r,e=>by
  let(q,g):=ZV.mp e;subst q g;exact .cons h (aA.set hw j r U)
def JK(hk:jz K tk qk)(hv:jz K tv qv):CM K (p7 tv (Ck (bX i) tk uc)) (P4 i qk qv):=λdl H₀ hs H σ q Dq D (F,r) P E=>by
 refine hv dl H σ q _ _ r.rd P λw t F1 H1 V r1 P=>?_
 split at P
 ·rename_i xs ei;let(v,Q,rp):=(r.evo V).g i _ _ ei U;refine(v,Q,hk dl H1 σ q _ _ (r.rd.evo V) P λy u F2 H2 e2 r2 P=>?_)
  split at P
  ·let(j,hj,hm,ht,P):=P;let(U,_):=r2.r.int;obtain rfl:=r1.r.im ht;have ah:=rp.evo V.d e2;let(p,vs,G,U,eF,h1,h2):=ah.r.lst;have eG:=h2.im hm;subst eG;exact(p,vs,_,j,U,U,h1,by rw[h2.len];exact hj,(E.nx _ _ _ (r.sM ei Q eF (V.trans e2) (aA.set (r1.evo V.d e2).r j h2 U) mE λ_ z=>nomatch z) P))
  ·exact P.elim
 ·exact P.elim
def NS(ho:PE X o (bX i))(q:QPE X K a tk qk)(hv:QPE X K b tv qv)(hs:‹swapsWithSole [.Subscript o a pos'] b pos.line X.env=pure false›)(hw:‹swappedStores [.Subscript o a pos'] b X.env=pure none›)
  (h1:‹(assignEach [.Subscript o a pos'] X.env).map (·.2)=[assign (.Subscript o a pos') X.env]›)
  (ha:∀v,assign (.Subscript o a pos') X.env v=(do
   let g <- holding [v] (eval o X.env)
   let iv <- holding [v,g] (eval a X.env)
   standAt pos'
   holding [v,g,iv] (setItem g iv v)
   release [v,g,iv] []):=by intro _;rfl):QPS X K (.Assign [.Subscript o a pos'] b pos) (p7 tv (Ck (bX i) tk uc)) (P4 i qk qv) :=
 (DZ hv.h (zC ho q.h set_list ha) hs hw h1,JK q.s hv.s)
end
inductive vB(K:BT)(vs:List V)(H:Hp)(Q:VK)(_:XK):Prop
 |mk(a:J)(ns:List Int)(h1:vs=[.ref a])(h2:FzL K H a (ns.map V.int))(h3:ns.length<=63)(h4:∀H',Q (.bl O) H')
variable{H:Hp}{a:J}{xs:List V}
theorem WY{K:BT}(h:PJ H)(g:SqL K H a xs):FzL K H a xs:=by
 obtain(z |⟨o,z⟩)|z:=g
 ·obtain e |⟨o,ys,e⟩:=h a
  ·rw[e]at z;cases z
  ·rw[e]at z;cases z
 ·exact .inl (o,z)
 ·exact .inr z
variable{H':Hp}
theorem FzL.same{K:BT}(h:FzL K H a xs)(s:pU H H'):FzL K H' a xs:=by
 obtain⟨o,z⟩|z:=h
 ·exact .inl (o,s _ _ z)
 ·exact .inr z
variable{qual:Str}{st:Fk}{N:List Str}{n:Nat}
theorem Fun.X4{w:Da}{K:BT}{f:J}{k:Nat}{s1:Fk}{rest:List Fk}(F:Fun K x qual st f fd)(S:aE N ["_law_script"] (au st))(hN:N.length=n+2)(g:cA st=s1::rest)
  (jw:∀(cdv:B)(A:Do)(outer:List Env)(s:ϋ)(H:Hp)(E:XK),bS k (A.deeper (envOfC qual (au st) s.heap.objs.size f cdv)) ->
   ∃t1 t qs,PS (pQ CX0 P w K mg base N qual (au st) f cdv A outer s H E).nox s1 t1/\rW (pQ CX0 P w K mg base N qual (au st) f cdv A outer s H E).nox K rest t qs /\
    (∀(a:J)(ns:List Int)(D:Ends),SqL K H a (ns.map V.int)->ns.length<=63->(∀(d l:J)(H':Hp),H d=Y->H l=Y->sj H' d l->pU H H'->D.nx ([Z (.ref a),Z (.ref d)]++xU n Y) H')->t1 D ([Z (.ref a),Y]++xU n Y) H) /\
    ∀ns:List Int,ns.length<=63->qs {nx:=λ_=>False,rt:=λt=>t=.b O} ([.r (.z ns),.r .jy]++xU n .no)):aS P w K mg base CX0 (k+1) f fd ["_law_script"] (vB K):=by
 refine F.ok S (λvs H Q E h=>?_) (λcdv A outer s H vs Q E hr h=>?_)
 ·let(a,ns,U,_):=h;rfl
 ·let(a,ns,U,hS,hlen,k):=h;let(t1,t,qs,h1,q,r1,hq):=jw cdv A outer s H E hr;rw[g];refine(_,dC h1 q.h,?_);have es:start N [V.ref a]=[Z (.ref a),Y]++xU n none:=by
   unfold start;rw[hN];rfl
  rw[es];refine r1 a ns _ hS.sq hlen λd l H' hd hl D1 sm=>?_
  have Dq:Dls [(d,l)] H':=λp hp=>by rw[aB.mp hp];exact D1
  have rp:Rps K [(d,l)] H' [.ref a,.ref d] [.z ns,.jy] ([]++([] ++ [])):=(.cons (.z (hS.same sm)) (.cons (.x (l:=l) (aB.mpr U)) .nil),λ_ z=>nomatch z)
  have R:=sN (n:=n+2) Dq rp (by simp)
  refine q.s [(d,l)] H' [] H' _ _ _ _ R (hq ns hlen) (λ_ _ _ _ z=>z.elim,λ_ _ _ _ z=>z.elim,λ_ _ _ _ z=>z.elim,λv t F H2 _ r' _ _ _ hz=>?_,λ_ _ _ _ _ _ _ _ _ _ _ _ z=>z.elim)
  subst hz;let(U,_):=r'.r.bl;exact k H2
variable{elts:List EQ}{tp:Bool}
section
variable{X:Cx}{K:BT}
def rB(xs:List T):List T:=xs.zipIdx.map λp=>.t [.i (p.2:Nat),p.1]
def rj{xs:List T}{z:T}(h:(rB xs)[i]?=Z z):∃x,xs[i]?=Z x/\z=.t [.i (i:Nat),x]:=by
 unfold rB at h;rw[ti]at h;let(p,hp,U):=kf.mp h;rw[List.getElem?_zipIdx]at hp;let(x,hx,U):=kf.mp hp;exact(x,hx,by simp)
def kL{xs:List T}:(rB xs).length=xs.length:=by simp[rB]
variable{a:EQ}{ta:TE}{pos p:Pos}
def vS{g}{ta:TA}(z:X.K=K)(hg:Gl X "enumerate")(hm:X.mg "enumerate"=Y)(q:bootBuiltins "enumerate"=Z (.type "enumerate"))(ha:PA X [a] ta)(hs:AD X a):
  PI X (.Tuple elts g pos') (.Call (.Name "enumerate" p) [a] [] pos) (Cc K tp ta):=by subst z;exact Ow hg hm q ha hs
end
variable{d:J}{l:J}
section
variable{a:EQ}
def sj.oth{a:J}{o:HO}(D:sj H d l)(h1:a≠d)(h2:a≠l):sj (upd H a o) d l:=by
 let(s,n,ls,Q):=D;exact(s,n,ls,by rw[aw h1.symm];exact Q.hd,by rw[aw h2.symm];exact Q.hl,Q.s0,Q.s1,Q.n0,Q.l0)
end
variable{C:J}{ns:List Str}
section
variable{K:BT}{dl:Dl}{v:V}{F:List J}
def aI.exc{ts:List T}(h:aI K dl H v (.xc C ns ts) F):∃a b vs,v=.ref a/\F=[]/\ExH H a C b (ns.zip vs)/\aA K dl H vs ts []:=h.inv
theorem aA.lookup{f:Str}:∀{ns:List Str}{vs:List V}{ts:List T}{F:List J}{u:T},aA K dl H vs ts F->(ns.zip ts).lookup f=Z u->∃w G,(ns.zip vs).lookup f=Z w/\aI K dl H w u G/\∀b∈G,b∈F
 |[],_,_,_,_,_,h=>by simp at h
 |_::_,_,_,_,_,.nil,h=>by simp at h
 |n::ns,_,_,_,u,.cons h1 r,h=>by
  rw[List.zip_cons_cons,v9]at h ⊢;cases e:(f==n)with
  |true =>
   rw[e]at h;cases h;exact(_,_,U,h1,λb g=>ot _ g)
  |false =>
   rw[e]at h;let(w,G,a1,a2,q):=aA.lookup r h;exact(w,G,a1,a2,λb g=>mu _ (q b g))
end
def P7(K:BT)(fn:List Str)(f:Str)(qe:QE):QE:=λq Q=>qe q λt=>match t with
 |.xc C ns ts=>∃bm ini u,cv K fn C bm ini/\(ns.zip ts).lookup f=Z u/\Q u
 |_=>False
variable{dl:Dl}{o1:HO}{o2:HO}{u:B}
section
variable{X:Cx}{K:BT}{e:EQ}{te:TE}{qe:QE}{pos p p2:Pos}{f y:Str}{fn:List Str}{C':J}{bm bm':List B}{wx:Option J}{k:Nat}
def JP(hf:f∈fn)(fo:FOk f)(h:jz K te qe):kN K (Jy K fn te f) (P7 K fn f qe):=by
 intro dl H σ q Q R rd hq k;refine h dl H σ q _ _ rd hq λv t F H1 e1 r1 g=>?_
 split at g
 ·let(bm,ini,u,c,l,g):=g;let(a,b,vs,U,U,ex,rs):=r1.r.exc;let(w,G,l2,P,hG):=rs.lookup l;have V:G=[]:=Zs.mpr λb hb=>nomatch hG b hb
  subst V;exact(a,_,b,bm,ini,_,w,U,ex,c,hf,fo,l2,k w u [] H1 e1 (P,λ_ z=>nomatch z) (λ_ z=>nomatch z) mE g)
 ·exact g.elim
def FQ(q:X.K=K)(hf:f∈fn)(fo:FOk f)(he:QPE X K e te qe)(g:‹attributeBase e f X.env (eval e X.env)=eval e X.env›):QPF X K (.Attribute e f pos) (Jy K fn te f) (P7 K fn f qe):=by
 subst q;exact(Oz he.h g,JP hf fo he.s)
def L5(D:Dls dl H)(ha:H a=Y)(hd:H d=Y)(ne:d≠a):Evo dl H (upd (upd H d o1) a o2):=((Evo.refl D).new hd).new (by rw[aw (Ne.symm ne)];exact ha)
inductive NK(K:BT)(fn:List Str)(c:B)(xs:List V)(H:Hp)(Q:VK):Prop
 |mk(a C b fs bm ini r y:_)(h1:xs=[.ref a,y])(h2:RelV y c)(h3:ExH H a C b fs)(h4:cv K fn C bm ini)(h5:W.kitOne K (.ref C) c=Z r)(h6:Q (.bl r) H)
def jq(h:RelV (.ref a) u):u=.ref a:=h
def Cz{c:B}(hc:∀y u,RelV y u->RelV y c->u=c):df X (.builtin "isinstance") (NK X.K fn c):=by
 intro gd s σ H xs us Q I r h;let(a,C,b,fs,bm,ini,z,y,U,g,ex,cx,ek,q):=h;cases r with
 |cons h1 V =>
  cases V with
  |cons h2 P =>
   cases P
   cases(jq h1)
   cases hc _ _ h2 g;exact TV I ex cx ek λtk=>(.bl z,H,I.tok tk,U,q)
def R6(K:BT)(fn:List Str)(c:B)(qe:QE):QE:=λq Q=>qe q λt=>match t with
 |.xc C _ _=>∃bm ini,cv K fn C bm ini/\Q (.b ((B.ref C::bm).contains c))
 |_=>False
theorem FH{c:B}{y:V}(ry:RelV y c)(hk:∀C bm ini,cv K fn C bm ini->W.kitOne K (.ref C) c=Z ((B.ref C::bm).contains c))(h:jz K te qe):kN K (tCB (NK K fn c) (bP te (bP (tC y) f9))) (R6 K fn c qe):=by
 intro dl H σ q Q R rd hq k;refine h dl H σ q _ _ rd hq λv t F H1 e1 r1 g=>?_
 split at g
 ·let(bm,ini,P,g):=g;let(a,b,vs,U,U,ex,rs):=r1.r.exc;exact(a,_,b,_,bm,ini,_,y,U,ry,ex,P,hk _ bm ini P,k _ _ [] H1 e1 (.b _,λ_ z=>nomatch z) (λ_ z=>nomatch z) mE g)
 ·exact g.elim
def RY(V:X.K=K)(c':cv K fn C' bm' wx)(hg:Gl X "isinstance")(hm:X.mg "isinstance"=Y)(P:Gl X y)(q:X.mg y=Z (.ref C'))(h:QPE X K e te qe)(hd:AS y:=by decide)
  (he:‹fx [e,.Name y p2] X.env=(ϊ,eval e X.env)::fx [.Name y p2] X.env›) (Q:‹fx [.Name y p2] X.env=(ϊ,eval (.Name y p2) X.env)::fx [] X.env›) (g:‹(backTo pos (fx [.Name y p2] X.env)).any (·.1)=false›):
  QPF X K (.Call (.Name "isinstance" p) [e,.Name y p2] [] pos) (tCB (NK K fn (.ref C')) (bP te (bP (tC (.ref C')) f9))) (R6 K fn (.ref C') qe):=by
 subst V;exact(kD (Cz λy u h1 h2=>by
  cases y with
  |ref b=>cases(jq h1);cases(jq h2);rfl
  |non=>cases(show B.ref C'=B.none from h2)
  |bl b=>cases(show B.ref C'=B.bool b from h2)
  |int i=>let(_,z):=(show ∃t,B.ref C'=B.int i t from h2);cases z
  |str i=>let(_,z):=(show ∃t,B.ref C'=B.str i t from h2);cases z
  |flt i=>let(_,z):=(show ∃t,B.ref C'=B.float i t from h2);cases z
  |ty n=>cases(show B.ref C'=B.type n from h2)
  |byt i=>(let(_,z):=h2;cases z)) hg hm U (bh h.h (bh (vU P q hd) dW Q) he) (by decide) (by decide) he g,FH (y:=.ref C') U (λC bm ini c=>Gm c c') h.s)
theorem RZ{n:String}(hK:X.K=K)(hT:W.kitMeta n=O)(hg:Gl X "isinstance")(hm:X.mg "isinstance"=Y)(P:Gl X y)(q:X.mg y=Y)(hv:bootBuiltins y=Z (.type n))(h:QPE X K e te qe)(hn:y ≠ "__name__":=by decide)(hd:AS y:=by decide)
  (he:‹fx [e,.Name y p2] X.env=(ϊ,eval e X.env)::fx [.Name y p2] X.env›) (Q:‹fx [.Name y p2] X.env=(ϊ,eval (.Name y p2) X.env)::fx [] X.env›) (g:‹(backTo pos (fx [.Name y p2] X.env)).any (·.1)=false›):
  QPF X K (.Call (.Name "isinstance" p) [e,.Name y p2] [] pos) (tCB (NK K fn (.type n)) (bP te (bP (tC (.ty n)) f9))) (R6 K fn (.type n) qe):=by
 subst hK;exact(kD (Cz λy u h1 h2=>by
  cases y with
  |ref b=>cases(jq h2)
  |non=>cases(show B.type n=B.none from h2)
  |bl b=>cases(show B.type n=B.bool b from h2)
  |int i=>let(_,z):=(show ∃t,B.type n=B.int i t from h2);cases z
  |str i=>let(_,z):=(show ∃t,B.type n=B.str i t from h2);cases z
  |flt i=>let(_,z):=(show ∃t,B.type n=B.float i t from h2);cases z
  |byt i=>(let(_,z):=h2;cases z)
  |ty m =>
   have z1:u=B.type m:=h1;have V:B.type n=B.type m:=h2;rw[z1,V]) hg hm U (bh h.h (bh (F8 P q hv U hn hd) dW Q) he) (by decide) (by decide) he g,FH (y:=.ty n) U (λC bm ini c=>by
    rw[Lz c hT,AH];rfl) h.s)
end
abbrev QW:=J->List Str->List T->Prop
abbrev QX:=Sq->(T->Prop)->QW->Prop
def Yu(K:PySem.W.Frag)(te:(St->XK)->TE)(qx:QX):Prop:=∀(dl:Dl)(H:Hp)(σ:St)(q:Sq)(Q:T->Prop)(W:QW)(R:V->Hp->Prop)(Es:St->XK),RdR K dl H σ q->qx q Q W ->
 (∀v t F H',Evo dl H H'->Rp K dl H' v t F->(∀b∈F,H b=Y)->F.Nodup->Q t->R v H')->(∀a C ns us H',Evo dl H H'->Rp K dl H' (.ref a) (.xc C ns us) []->W C ns us->Es σ (.ref C) (Z a) H')->te Es σ H R
structure QPX(X:Cx)(K:BT)(e:EQ)(te:(St->XK)->TE)(qx:QX):Prop where
 h:∀Es,gZ (CX1 X.prog X.w) X Es->PE X e (te Es)
 s:Yu K te qx
abbrev QSX:=(Sq->QW)->QS
def XOk(K:PySem.W.Frag)(dl:Dl)(H₀:Hp)(hs:List (V×T))(W:Sq->QW)(Es:St->XK):Prop:=∀H σ q a C ns us,cJ K dl H₀ hs H σ q->Rp K dl H (.ref a) (.xc C ns us) []->W q C ns us->Es σ (.ref C) (Z a) H
def MI(K:PySem.W.Frag)(ts:(St->XK)->TS)(qs:QSX):Prop:=∀(dl:Dl)(H₀:Hp)(hs:List (V×T))(H:Hp)(σ:St)(q:Sq)(Dq:fi)(D:Ends)(W:Sq->QW)(Es:St->XK),cJ K dl H₀ hs H σ q->qs W Dq q->E9 K dl H₀ hs Dq D->XOk K dl H₀ hs W Es->ts Es D σ H
structure ox(X:Cx)(K:BT)(st:Fk)(ts:(St->XK)->TS)(qs:QSX):Prop where
 h:∀Es,gZ (CX1 X.prog X.w) X Es->rV X Es->PS X st (ts Es)
 s:MI K ts qs
structure kO(X:Cx)(K:BT)(st:List Fk)(ts:(St->XK)->TS)(qs:QSX):Prop where
 h:∀Es,gZ (CX1 X.prog X.w) X Es->rV X Es->PSs X st (ts Es)
 s:MI K ts qs
variable{H₀:Hp}{q:Sq}{ini:Option J}
section
variable{X:Cx}{K:BT}{rest sa sb:List Fk}{e c:EQ}{es:List EQ}{pos p a7:Pos}{tx:(St->XK)->TE}{qx:QX}{tc:TT}{qc:QT}{t:TS}{qt:QS}{ts us:(St->XK)->TS}{qs qr:QSX}{tl:TA}{ql:QA}
def bf(h:QPS X K st t qt):ox X K st (λ_=>t) (λ_=>qt):=(λ_ _ _=>h.h,λdl H₀ hs H σ q Dq D _ _ r g E _=>h.s dl H₀ hs H σ q Dq D r g E)
def fM(h:rW X K rest t qt):kO X K rest (λ_=>t) (λ_=>qt):=(λ_ _ _=>h.h,λdl H₀ hs H σ q Dq D _ _ r g E _=>h.s dl H₀ hs H σ q Dq D r g E)
def aK(h:ox X K st ts qs):kO X K [st] ts qs:=(λEs a b=>jF (h.h Es a b),h.s)
def aj(h1:ox X K st ts qs)(h2:kO X K rest us qr):kO X K (st::rest) (λEs=>Rm (ts Es) (us Es)) (λW D q=>qs W {D with nx:=λq'=>qr W D q'} q) :=
 (λEs a b=>dC (h1.h Es a b) (h2.h Es a b),λdl H₀ hs H σ q Dq D W Es r z E x=>h1.s dl H₀ hs H σ q _ _ W Es r z (λH σ q r' g=>h2.s dl H₀ hs H σ q _ _ W Es r' g E x,E.bk,E.ct,E.rt,E.ru) x)
def gP(z:QPT X K c tc qc)(ha:kO X K sa ts qs)(P:kO X K sb us qr):ox X K (.If c sa sb pos) (λEs=>Nj tc (ts Es) (us Es)) (λW D q=>qc q λb=>if b=O then qs W D q else qr W D q) :=
 (λEs a b=>FV z.h (ha.h Es a b) (P.h Es a b),λdl H₀ hs H σ q Dq D W Es (F,r) V E x=>z.s dl H σ q _ _ r.rd V λb H' Q g=>by
  cases b with
  |true=>exact ha.s dl H₀ hs H' σ q Dq D W Es (F,r.evo Q) g E x
  |false=>exact P.s dl H₀ hs H' σ q Dq D W Es (F,r.evo Q) g E x)
def XOk.at{hs:List (V×T)}{W:Sq->QW}{Es:St->XK}{σ:St}{F:Nat->List J}(x:XOk K dl H₀ hs W Es)(r:Rel K dl H₀ hs H σ q F):∀a C ns us H',Evo dl H H'->Rp K dl H' (.ref a) (.xc C ns us) []->W q C ns us->Es σ (.ref C) (Z a) H' :=
 λa C ns us H' z g hw=>x H' σ q a C ns us (F,r.evo z) g hw
def Kc(he:QPX X K e tx qx)(hs:‹swapsWith e Y pos.line X.env=pure false›):ox X K (.Expr e pos) (λEs=>mG (tx Es)) (λW D q=>qx q (λ_=>D.nx q) (W q)) :=
 (λEs a _=>jG (he.h Es a) hs,λdl H₀ hs H σ q Dq D W Es (F,r) z E x=>he.s dl H σ q _ _ _ Es r.rd z (λv t F' H' P _ _ _ g=>E.nx H' σ q (F,r.evo P) g) (x.at r))
variable{fa:J}{fn fsN:List Str}{bm:List B}{k:Nat}
def Xt{o o':HO}:upd (upd H a o) a o'=upd H a o':=by
 funext b
 by_cases h:b=a
 ·rw[h,aC,aC]
 ·rw[aw h,aw h,aw h]
def Dx(M:cv K fn C bm ini)(h:Ay K n tl ql):MI K (λEs=>Dt K fn Es (Dv C fsN tl)) (λW _ q=>ql q λts=>T.ims ts=O/\ts.length=fsN.length/\ts.length<=1000/\W q C fsN ts):=by
 intro dl H₀ hs H σ q Dq D W Es ⟨F,r⟩ hq E x;refine h dl H σ q _ _ r.rd hq λvs ts F1 H1 P g _ hz=>?_
 let(z1,z2,V,Q):=hz;have f:=g.r.im z1;subst f;have hl:=g.r.len;refine(hl.trans z2,by rw[hl];exact V,λa d ha hd ne=>(a,C,bm,ini,Z d,U,M,aC,?_))
 rw[Xt];have ev:=L5 (o1:=.ext (XD d (fsN.zip vs))) (o2:=.ext (XAt a C (Z d) ϊ)) P.d ha hd ne;have r2:=g.evo P.d ev;exact x.at r a C fsN ts _ (P.trans ev) (.e (.inr (d,ne,aC,by rw[aw ne,aC])) r2.r,λ_ z=>nomatch z) Q
theorem jg(hK:X.K=K)(Q:X.calm=O)(M:cv K fn C bm (Z fa))(z:W.isFn K (.ref fa)=O)(kp:W.keepIn K (.ref C)=O)(F:aS X.prog X.w X.K X.mg X.base CX0 k fa fd ps (A3 C fsN))(hr:bS (k+1) X.A)(hg:Gl X x)(hm:X.mg x=Z (.ref C))(V:Binds X.K fd ps [])
  (ha:QPA X K (e::es) tl ql) (P:AS x:=by decide) (he:‹AC X e es›) (g:‹AM X a7 es›):
  ox X K (.Raise (Z (.Call (.Name x p) (e::es) [] a7)) Y pos) (λEs=>Dt K fn Es (Dv C fsN tl)) (λW _ q=>ql q λts=>T.ims ts=O/\ts.length=fsN.length/\ts.length<=1000/\W q C fsN ts):=by
 subst hK;exact(λEs _ b=>KO Q b (K6 M z kp F hr hg hm V ha.h P he g),Dx M ha.s)
end
abbrev CO:=List T->(T->Prop)->QW->Prop
inductive A2(K:BT)(ps:CO)(vs:List V)(H:Hp)(Q:VK)(E:XK):Prop
 |mk(dl:Dl)(ts:List T)(F:List J)(Qp:T->Prop)(Wp:QW)(h1:Dls dl H)(h2:Rps K dl H vs ts F)(h3:ps ts Qp Wp)(h4:(∀v t F' H',Evo dl H H'->Rp K dl H' v t F'->(∀b∈F',H b=Y)->F'.Nodup->Qp t->Q v H'))(h5:∀a C ns us H',Evo dl H H'->Rp K dl H' (.ref a) (.xc C ns us) []->Wp C ns us->E (.ref C) (Z a) H')
section
variable{X:Cx}{K:BT}{e:EQ}{es:List EQ}{tl:TA}{ql:QA}{pos p:Pos}{k:Nat}{f:J}{prs:List Str}{ps:CO}
theorem NO(F:aS X.prog X.w X.K X.mg X.base (CX1 X.prog X.w) k f fd prs (A2 K ps))(hr:bS k X.A)(hg:Gl X x)(hm:X.mg x=Z (.ref f))(hk:W.keepIn X.K (.ref f)=O)(hb:Binds X.K fd prs [])(ha:QPA X K (e::es) tl ql)
  (V:AS x:=by decide) (he:‹AC X e es›) (P:‹AM X pos es›):
  QPX X K (.Call (.Name x p) (e::es) [] pos) (λEs=>sA (A2 K ps) Es tl) (λq Q W=>ql q λts=>ps ts Q W) :=
 (λEs a=>qQ F hr hg hm hk hb a ha.h V he P,λdl H σ q Q W R Es rd hq k1 k2=>ha.s dl H σ q _ _ rd hq λvs ts F H1 g r1 _ z =>
  (dl,ts,F,Q,W,g.d,r1,z,λv t F' H' e r f n z=>k1 v t F' H' (g.trans e) r (λb hb=>g.free (f b hb)) n z,λa C ns us H' e r hw=>k2 a C ns us H' (g.trans e) r hw))
end
theorem Fun.V6{w:Da}{K:PySem.W.Frag}{f:J}{k:Nat}{g:CO}(F:Fun K x qual st f fd)(S:aE N ps (au st))(len:∀ts Q W,g ts Q W->ts.length=ps.length)
  (jw:∀(cdv:B)(A:Do)(outer:List Env)(s:ϋ)(H:Hp)(E:XK),bS k (A.deeper (envOfC qual (au st) s.heap.objs.size f cdv)) ->
   ∃t qs,kO (pQ (CX1 P w) P w K mg base N qual (au st) f cdv A outer s H E) K (cA st) t qs/\∀ts Q W,g ts Q W->qs (λ_=>W) {nx:=λ_=>Q .n,rt:=Q} (ts.map Sl.r++xU (N.length - ts.length) .no)):aS P w K mg base (CX1 P w) (k+1) f fd ps (A2 K g):=by
 have ah:ps.length<=N.length:=by have:=congrArg E7 S.pre;rw[x8]at this;omega
 refine F.okX S (λvs H Q E h=>?_) (λcdv A outer s H vs Q E hr h=>?_)
 ·let(dl,ts,F,Qp,Wp,_,r,h,_):=h;rw[r.r.len];exact len ts Qp Wp h
 ·let(dl,ts,Fp,Qp,Wp,D,r,h,fin,fix):=h;let(t,qs,hb,hq):=jw cdv A outer s H E hr;refine(t λ_=>E,hb.h _ vV vK,?_)
  have hlen:=len ts Qp Wp h;have hl:=r.r.len;have z:=hq ts Qp Wp h;have R:=sN (n:=N.length) D r (by omega)
  rw[<- hl]at z;refine hb.s dl H [] H _ _ _ _ _ _ R z (λH' σ q (F,r') V=>?_,λ_ _ _ _ V=>V.elim,λ_ _ _ _ V=>V.elim,λv t F H' D' r' f' n' fr V=>?_,λ_ _ _ _ _ _ _ _ _ _ _ _ z=>z.elim) λH' σ q a C ns us (F,r') rp hw=>?_
  ·exact fin .non .n [] H' (r'.f.evo r'.d) (.n,λ_ z=>nomatch z) (λ_ z=>nomatch z) mE V
  ·exact fin v t F H' (fr.evo D') r' f' n' V
  ·exact fix a C ns us H' (r'.f.evo r'.d) rp hw
abbrev QH:=J->List Str->List T->QS
def Yx(K:BT)(th:TH)(qh:QH):Prop:=∀(dl:Dl)(H₀:Hp)(hs:List (V×T))(H:Hp)(σ:St)(q:Sq)(Dq:fi)(D:Ends)(a C:J)(ns:List Str)(us:List T),cJ K dl H₀ hs H σ q->Rp K dl H (.ref a) (.xc C ns us) []->qh C ns us Dq q->E9 K dl H₀ hs Dq D->th a C D σ H
structure QPH(X:Cx)(K:BT)(hs:List ExceptHandler)(th:TH)(qh:QH):Prop where
 h:PH X hs th
 s:Yx K th qh
def fi.go(D:fi)(i:Nat):fi:={nx:=λq=>D.nx (q.set i .no),rt:=D.rt,bk:=λq=>D.bk (q.set i .no),ct:=λq=>D.ct (q.set i .no),ru:=λq t=>D.ru (q.set i .no) t}
theorem Rel.Mx{K:BT}{hs:List (V×T)}{σ:St}{F:Nat->List J}(r:Rel K dl H₀ hs H σ q F)(i:Nat):Rel K dl H₀ hs H (σ.set i Y) (q.set i .no) (A8 F i []):=by
 refine(r.d,λj x t h1 h2=>?_,λj x h1 h2=>?_,λj P=>?_,λj u h1=>?_,λp hp=>?_,r.f,by simp[r.l])
 ·obtain⟨rfl,rfl,_⟩|⟨ne,h1⟩:=get_set h1
  ·cases h2
  ·let(w,h3,h4):=r.g j x t h1 h2;exact(w,by rw[ui (λz=>ne z.symm)];exact h3,by rw[bg ne];exact h4)
 ·obtain⟨rfl,rfl,_⟩|⟨ne,h1⟩:=get_set h1
  ·rw[bK]
  ·rw[bg ne];exact r.n j x h1 h2
 ·by_cases ej:j=i
  ·rw[ej,bK]
  ·rw[bg ej];rw[AF]at P;exact r.z j P
 ·obtain⟨rfl,e,_⟩|⟨ne,h1⟩:=get_set h1
  ·cases e
  ·rw[bg ne];let(o1,o2,o3):=r.o j u h1;refine(o1,o2,λk hk b Q=>?_)
   by_cases ek:k=i
   ·rw[ek,bK];exact λz=>nomatch z
   ·rw[bg ek];exact o3 k hk b Q
 ·let(Fp,h1,h2):=r.h p hp;refine(Fp,h1,λj u P b Q z=>?_)
  obtain⟨rfl,e,_⟩|⟨ne,P⟩:=get_set P
  ·cases e
  ·rw[bg ne]at Q;exact h2 j u P b Q z
theorem cJ.clear{K:BT}{hs:List (V×T)}{σ:St}(r:cJ K dl H₀ hs H σ q)(i:Nat):cJ K dl H₀ hs H (σ.set i Y) (q.set i .no):=r.elim λ_ r=>(_,r.Mx i)
variable{hs:List ExceptHandler}{body:List Fk}
section
variable{X:Cx}{K:BT}{fn:List Str}{C':J}{bm':List B}{wx:Option J}{n:Str}{p pos:Pos}{b0:Fk}{p8:List Fk}{rest:List ExceptHandler}{ts:TS}{qs:QS}{tr:TH}{qr:QH}
def NX:QH:=λ_ _ _ _ _=>False
def Kl:QPH X K hs LR NX:=(K3,λ_ _ _ _ _ _ _ _ _ _ _ _ _ _ h _=>h.elim)
def Vx(K:BT)(fn:List Str)(C':J)(qs:QS)(qr:QH):QH:=λC ns us D q=>∃bm ini,cv K fn C bm ini/\if(B.ref C::bm).contains (.ref C')=O then qs D q else qr C ns us D q
def Vy(K:BT)(fn:List Str)(C':J)(i:Nat)(qs:QS)(qr:QH):QH:=λC ns us D q=>∃bm ini,cv K fn C bm ini/\if(B.ref C::bm).contains (.ref C')=O then qs (D.go i) (q.set i (.r (.xc C ns us)))else qr C ns us D q
def RW(hK:X.K=K)(hg:Gl X x)(hm:X.mg x=Z (.ref C'))(c':cv K fn C' bm' wx)(P:∀a,rW (X.inX a) K (b0::p8) ts qs)(hr:QPH X K rest tr qr)(Q:AS x:=by decide):
  QPH X K (.ExceptHandler (Z (.Name x p)) Y (b0::p8) pos::rest) (WW K fn C' ts tr) (Vx K fn C' qs qr):=by
 subst hK;refine(SS hg hm c' (λa=>(P a).h) hr.h Q,λdl H₀ hs H σ q Dq D a C ns us r V g E=>?_)
 let(bm,ini,c,g):=g;refine(bm,ini,c,λz=>?_,λz=>?_)
 ·rw[if_pos z]at g;exact(P a).s dl H₀ hs H σ q Dq D r g E
 ·rw[if_neg (by rw[z];decide)]at g;exact hr.s dl H₀ hs H σ q Dq D a C ns us r V g E
def Vw(hK:X.K=K)(hN:X.N.Nodup)(hi:X.N[i]?=Z n)(hk:BC X n)(hg:Gl X x)(hm:X.mg x=Z (.ref C'))(c':cv K fn C' bm' wx)(P:∀a,rW (X.inX a) K (b0::p8) ts qs)(hr:QPH X K rest tr qr)(V:AS x:=by decide):
  QPH X K (.ExceptHandler (Z (.Name x p)) (Z n) (b0::p8) pos::rest) (hAs K fn C' i ts tr) (Vy K fn C' i qs qr):=by
 subst hK;refine(V0 hN hi hk hg hm c' (λa=>(P a).h) hr.h V,λdl H₀ hs H σ q Dq D a C ns us r rp g E=>?_)
 let(bm,ini,c,g):=g;refine(bm,ini,c,λz=>?_,λz=>?_)
 ·rw[if_pos z]at g;have r2:cJ X.K dl H₀ hs H (σ.set i (Z (.ref a))) (q.set i (.r (.xc C ns us))):=by
   let(F,r):=r;by_cases Q:i<q.length
   ·exact(_,r.Si Q rp λ_ _ _ _ _ _ z=>nomatch z)
   ·have hl:=r.l;rw[YS (by omega),YS (by omega)]
    exact(F,r)
  exact(P a).s dl H₀ hs H _ _ (Dq.go i) (D.go i) r2 g (λH σ q r h=>E.nx H _ _ (r.clear i) h,λH σ q r h=>E.bk H _ _ (r.clear i) h,λH σ q r h=>E.ct H _ _ (r.clear i) h,E.rt,λH σ q F0 v t F r h1 h2 h3 h4 h=>E.ru H _ _ _ v t F (r.Mx i) h1 h2 h3 (λj b hb z=>by unfold A8 at z;split at z;cases z;exact h4 j b hb z) h)
 ·rw[if_neg (by rw[z];decide)]at g;exact hr.s dl H₀ hs H σ q Dq D a C ns us r rp g E
def RQ{h0:ExceptHandler}{th:TH}{qh:QH}{tb:(St->XK)->TS}{qb:QSX}(P:∀pn xe,kO (X.uM pn xe) K body tb qb)(z:QPH X K (h0::hs) th qh)(g:‹X.stack=X.env::X.outer›)(hf:‹X.env.frame=Z X.env.locals›):
  QPS X K (.Try body (h0::hs) [] [] pos) (U5 th tb) (λD q=>qb (λq' C ns us=>qh C ns us D q') D q) :=
 (Sk g hf (λEs pn xe a b=>(P pn xe).h Es a b) z.h,λdl H₀ hs H σ q Dq D r V E=>(P [] λ_ _=>False).s dl H₀ hs H σ q Dq D _ _ r V E λH σ q a C ns us r Q hw=>(a,C,U,U,z.s dl H₀ hs H σ q Dq D a C ns us r Q hw E))
end
section
variable{X:Cx}{K:BT}{a b:EQ}{ta tb:TE}{qa qb:QE}{pos:Pos}
def XQ(qa qb:QE):QE:=λq Q=>qa q λt=>qb q λu=>match t,u with
 |.l xs,.i k=>Ex2 (λx=>atI xs k=Z x) Q
 |_,_=>False
def gc(ha:QPF X K a ta qa)(hb:QPE X K b tb qb)(hs:rX b:=by intro _ _;rfl)(hK:‹X.K=K›):QPF X K (.Subscript a b pos) (tOp (rIx K) ta tb) (XQ qa qb):=by
 refine(by subst hK;exact F6 z6 ha.h hb.h hs,λdl H σ q Q R rd hq k=>(ha.s dl H σ q _ _ rd hq λv t F H1 e1 P f1 n1 V=>(hb.s dl H1 σ q _ _ (rd.evo e1) V λw u G H2 e2 r2 g=>?_)))
 have P:=P.evo e1.d e2
 split at g
 ·let(U,U):=r2.r.int;let(p,vs,G,U,U,h1,h2):=P.r.lst;let(z,hz,hq):=g;let(j,hj,hi):=rR hz h2.len.symm;let(v,G',hv,rv,hs):=h2.Ui hj;have sub:∀c∈G',c∈p::G:=λc hc=>aJ _ (hs.subset hc)
  exact .inl (p,vs,_,v,U,U,SqL.of h1,pR hi hv,k v z G' H2 (e1.trans e2) (Rp.sub rv P.n sub) (λc hc=>f1 c (sub c hc)) ((xh.mp n1).2.sublist hs) hq)
 ·exact g.elim
def L7{xs:List T}(h:∀x∈xs,eqV x.v x.v=O):eqF xs xs=true:=by
 unfold eqF Ak;simp only[beq_self_eq_true,YT,AE,ZE,gV];intro i hi;simp only[ti,rZ hi,Option.map_some];exact h _ (Zd hi)
end
def chT(z:Str):List T:=z.cps.toList.map λc=>.s ⟨#[c]⟩
def asS(qe:QE):QI:=λq Q=>qe q λt=>match t with|.s z=>Q (chT z)|_=>False
variable{A:Do}
section
variable{X:Cx}{K:BT}
def TR{z:Str}:AB K dl (Its z) (chT z) [] where
 go:=λH i D h hi=>by
  show i<z.cps.size;simpa [chT]using hi
 yld:=λH i x fp v H' D h hx y=>by
  let(U,c,g,U):=y;unfold chT at hx;rw[ti,Zp,g]at hx;cases hx;exact(.refl D,[],(.s _,λ_ z=>nomatch z),λ_ z=>nomatch z)
 stop:=λH D h=>by
  show(chT z).length=z.cps.size;simp[chT]
variable{o:EQ}{to:TE}{qo:QE}
def kA{vs:List V}{ts:List T}{F:List J}(h:aA K dl H vs ts F){v:V}(hv:vs[j]?=Z v):∃t G,ts[j]?=Z t/\aI K dl H v t G:=by
 have hl:=h.len;have g:j<ts.length:=by rw[<- hl];exact(iZ.mp hv).1
 let(w,G,hw,r,_):=h.get (show ts[j]?=Z ts[j]from by simp[g])
 rw[hv]at hw;cases hw;exact(_,G,by simp[g],r)
def QD{k:Nat}(hr:bS k A):A.units+150<cLine:=by have:=hr.un;lia
def R0(qo:QE):QE:=λq Q=>qo q λt=>match t with
 |.s z=>z.length<=5592405/\Q (.s (Txt.upper z))
 |_=>False
def Kn(ho:QPE X K o to qo)(V:‹X.K=K›)(eC:‹attributeBase o "upper" X.env (eval o X.env)=eval o X.env›)(eB:‹(apos.endLine==a7.line)=true›):
  QPF X K (.Call (.Attribute o "upper" apos) [] [] a7) (Rv K "str" J7 to) (R0 qo):=(by
 subst V;exact D6 PySem.F.plainAttrs_str PySem.F.slot_str_upper PySem.F.type_str_upper Ll ho.h eC eB,λdl H σ q Q R rd g k=>ho.s dl H σ q _ _ rd g λv t F H1 e1 P g=>by
  split at g
  ·let(U,_):=P.r.str;exact(U,_,U,U,g.1,k _ _ [] H1 e1 (.c (.s _)) (λ_ z=>nomatch z) mE g.2)
  ·exact g.elim)
end
section
variable{a b e o:EQ}
def Evo.fresh{a:J}{o:HO}(e:Evo dl H H')(ha:H a=Y)(nd:Nd dl a):Evo dl H (upd H' a o) :=
 (λb u h n r=>by rw[aw (aX h ha)];exact e.k b u h n r,λp hp=>(e.d p hp).oth (nd p hp).1 (nd p hp).2,λb x h=>let(y,g,q):=e.r b x h;(y,g,by rw[aw (aX h ha)];exact q))
end
section
variable{X:Cx}{K:BT}{e:EQ}{es:List EQ}{te:TE}{tl:TA}{qe:QE}{ql:QA}{k:Nat}
structure PF(X:Cx)(K:BT)(es:List EQ)(tl:TA)(i j:Nat)(ql:QA):Prop where
 h:PA X es tl
 s:∀(dl:Dl)(H:Hp)(σ:St)(q:Sq)(v0:V)(Q:List T->Prop)(R:List V->Hp->Prop),RdR K dl H σ q->σ[i]?=Z (Z v0)->ql q Q ->
  (∀vs ts H',Evo dl H H'->vs.length=ts.length->vs[j]?=Z v0->(∀n v t,n≠j->vs[n]?=Z v->ts[n]?=Z t->Rp K dl H' v t [])->Q ts->R vs H')->tl σ H R
def aA.im1{vs:List V}{ts:List T}{F:List J}(h:aA K dl H vs ts F)(g:T.ims ts=O):∀(n:Nat)(v:V)(t:T),vs[n]?=Z v->ts[n]?=Z t->aI K dl H v t []:=by
 obtain rfl:=h.im g;intro n v t h1 h2;let(z,G,q,r,s):=h.Ui h2;rw[h1]at q;cases q;rw[Zr.mp s]at r;exact r
def qG(hx:PE X e (bX i))(hr:QPA X K es tl ql)(hs:‹AC X e es›):PF X K (e::es) (bP (bX i) tl) i 0 (λq Q=>ql q λts=>T.ims ts=O/\Q (.n::ts)) :=
 (bh hx hr.h hs,λdl H σ q v0 Q R rd hv V k=>(v0,hv,hr.s dl H σ q _ _ rd V λvs ts F H1 e1 g l1 P=>k _ (.n::ts) H1 e1 (by simp[g.r.len]) U (λn v t ne h1 h2=>by
  cases n with
  |zero=>exact absurd U ne
  |succ n=>exact(g.r.im1 P.1 n v t (by simpa using h1) (by simpa using h2),λ_ z=>nomatch z)) P.2))
def iB(he:QPE X K e te qe)(hr:PF X K es tl i j ql)(hs:‹AC X e es›):PF X K (e::es) (bP te tl) i (j+1) (λq Q=>qe q λt=>t.im=O/\ql q λts=>Q (t::ts)) :=
 (bh he.h hr.h hs,λdl H σ q v0 Q R rd hv hq k=>he.s dl H σ q _ _ rd hq λv t F H1 g P V=>hr.s dl H1 σ q v0 _ _ (rd.evo g) hv V.2 λvs ts H2 e2 l2 hj ho z=>by
  have r2:=P.evo g.d e2;obtain rfl:=P.r.im V.1;exact k (v::vs) (t::ts) H2 (g.trans e2) (by simp[l2]) (by simpa using hj) (λn w u ne h1 h2=>by
   cases n with
   |zero=>simp at h1 h2;subst h1 h2;exact r2
   |succ n=>exact ho n w u (λz=>ne (by rw[z])) (by simpa using h1) (by simpa using h2)) z)
end
section
variable{X:Cx}{K:BT}
def qZ{xs:List T}:AB K dl (Ite K ϊ a) (rB xs) [(.ref a,.l xs)] where
 go:=λH i D h hi=>by
  let(F,r):=h (.ref a,.l xs) (by simp)
  let(p,vs,G,e,_,h1,h2):=r.r.lst;cases e;rw[kL]at hi;have l1:i<vs.length:=by rw[h2.len];omega
  exact(vs,vs[i],SqL.of h1,by simp[l1])
 yld:=λH i x fp v H' D h hx y=>by
  have r:=h (.ref a,.l xs) (by simp)
  let(p,vs,G,e,eF,h1,h2):=r.r.lst;cases e;let(x1,V,U):=rj hx;let(w1,G1,ah,Q,ak):=h2.get V;let(q,u1,hq,U,U,P):=y;have e1:=P vs (SqL.of h1);rw[ah]at e1;cases e1;have sub:∀b∈G1,b∈fp (.ref a,.l xs):=λb g=>by rw[eF];exact aJ _ (ak b g)
  have rs:Rps K dl H [.int (i),w1] [.i (i),x1] ([]++(G1 ++ [])):=Rps.cons (.i _,λ_ z=>nomatch z) (Rps.cons (Q,λb g=>r.n b (sub b g)) (.nil,λ_ z=>nomatch z))
  refine((Evo.refl D).new hq,_,rs.tup D hq,λc g=>.inr ?_)
  rw[qp]at g;exact(_,by simp,sub c g)
 stop:=λH D h=>by
  let(F,r):=h (.ref a,.l xs) (by simp)
  let(p,vs,G,e,_,h1,h2):=r.r.lst;cases e;exact(vs,SqL.of h1,by rw[kL,h2.len];exact qd _)
def QY(i:Nat):QJ:=λq Q=>match q[i]? with
 |some (.o (.l xs))=>Q (rB xs) (q.set i (.r (.l xs)))
 |some (.r (.l xs))=>Q (rB xs) q
 |_=>False
def Ki{a:EQ}{x1}(hg:Gl X "enumerate")(hm:X.mg "enumerate"=Y)(wB:bootBuiltins "enumerate"=Z (.type "enumerate"))(h:PE X a (bX i))(hs:‹AD X a›)(ah:‹AC X a []›)(hK:‹X.K=K›):
  QPJ X K (.Tuple elts x1 pos') (.Call (.Name "enumerate" p) [a] [] pos) (Cc K ϊ (bP (bX i) f9)) (QY i):=(vS hK hg hm wB (bh h dW ah) hs,λdl H₀ hs H σ q Q R (F0,V) hq k=>by
 unfold QY at hq
 split at hq
 ·rename_i xs e1;let(v,hv,r):=V.g i _ _ e1 U;have r1:=(V.down e1).hold r λj u P b hb=>by
   obtain⟨_,z,_⟩|⟨ne,P⟩:=get_set P
   ·cases z
   ·exact(V.o j u P).2.2 i (λz=>ne z.symm) b hb
  let(p,vs,G,U,_,h1,h2):=r.r.lst;exact(_,hv,p,U,(vs,SqL.of h1),k _ _ _ H _ (F0,r1) qZ hq)
 ·rename_i xs e1;let(v,hv,r):=V.g i _ _ e1 U;have r1:=V.hold r λj u P b hb=>(V.o j u P).2.2 i (λz=>by subst z;rw[e1]at P;cases P) b hb
  let(p,vs,G,U,_,h1,h2):=r.r.lst;exact(_,hv,p,U,(vs,SqL.of h1),k _ _ _ H _ (F0,r1) qZ hq)
 ·exact hq.elim)
end
variable{tg:EQ}{iter:EQ}{wi:TI}
section
variable{X:Cx}{K:BT}{rest:List Fk}{e c:EQ}{pos p:Pos}{tc:TT}{qc:QT}{ts:(St->XK)->TS}{qs:QSX}
def XOk.holds{hs hv:List (V×T)}{W:Sq->QW}{Es:St->XK}(x:XOk K dl H₀ hs W Es):XOk K dl H₀ (hv++hs) W Es:=λH σ q a C ns us (F,r) g hw=>x H σ q a C ns us (F,r.jB) g hw
def zp{iq:QJ}{g:Tg}(hp:ZR (model X.prog X.w) X.A X.env X.xe)(hc:X.calm=O)(hi:QPJ X K tg iter wi iq)(hg:PG X tg (g.h K))(hb:kO X K body ts qs)
  (hs:∀x,foldedSetIterable iter X.env x=pure x:=by intro _;rfl):ox X K (.For tg iter body [] pos) (λEs=>Rt wi (g.h K) (ts Es)) (λW=>VN iq g (qs W)):=(λEs a b=>DW hp hc hi.h hg (hb.h Es a b) hs,λdl H₀ hs H σ q Dq D W Es r hq E x=>by
 refine hi.s dl H₀ hs H σ q _ _ r hq λxs ύ hv H1 q1 r1 it hz=>?_
 let(I,i0,turn,fin):=hz;refine(λi m σ H=>m=xs.length - i/\i<=xs.length/\∃q,cJ K dl H₀ (hv++hs) H σ q/\I i q,(xs.length,by simp,Fs _,q1,r1,i0),?_)
 rintro i m σ H ⟨rfl,aq,q,⟨F,r⟩,hI⟩
 have held:∀p∈hv,∃F,Rp K dl H p.1 p.2 F:=λp hp=>let(Fp,h,_):=r.h p (ot _ hp);(Fp,h)
 by_cases P:i<xs.length
 ·refine .inr (it.go H i r.d held P,λQ H'=>∃q,cJ K dl H₀ (hv++hs) H' Q q/\I (i+1) q,λQ H' h=>(xs.length - (i+1),by omega,U,P,h),λv H' y=>?_)
  let(fp,V):=r.fps;have hx:xs[i]?=Z xs[i]:=by simp[P]
  let(e1,G,rx,hG):=it.yld H i xs[i] fp v H' r.d (λp hp=>(V p hp).1) hx y
  let(q',ak,hz):=turn i xs[i] q hx hI;refine J5 (r.evo e1) rx (λj u hj b hb z=>?_) ak λah r2=>hb.s dl H₀ (hv++hs) H' ah q' _ _ W Es r2 hz (λH σ q r n=>(q,r,n),λH σ q (F,r) n=>E.nx H σ q (F,r.jB) n,λH σ q r n=>(q,r,n),E.rt,λH σ q F0 v t F r=>E.ru H σ q F0 v t F r.jB) x.holds
  obtain h |⟨p,hp,h⟩:=hG b z
  ·exact(r.bO hb).no h
  ·exact(V p hp).2 j u hj b hb h
 ·have e:i=xs.length:=by omega
  subst e;exact .inl (it.stop H r.d held,E.nx H σ q (F,r.jB) (fin q hI)))
def jf(hp:ZR (model X.prog X.w) X.A X.env X.xe)(P:QPT X K c tc qc)(Q:kO X K rest ts qs):ox X K (.While c rest [] pos) (λEs=>zg tc (ts Es)) (λW=>Kt qc (qs W)):=(λEs a b=>vO hp P.h (Q.h Es a b),λdl H₀ hs H σ q Dq D V Es r hq E x=>by
 let(W,(m0,w0),turn):=hq;refine(λm σ H=>∃q,cJ K dl H₀ hs H σ q/\W m q,(m0,q,r,w0),?_)
 rintro m σ H ⟨q,⟨F,r⟩,w⟩
 refine P.s dl H σ q _ _ r.rd (turn m q w) λb H1 e1 z=>?_
 cases b with
 |false=>exact E.nx H1 σ q (F,r.evo e1) z
 |true =>
  let(N,hN,z):=z;refine(λg H'=>∃q',cJ K dl H₀ hs H' g q'/\N q',λg H' (q',r',n')=>?_,?_)
  ·let(m',hm,w'):=hN q' n';exact(m',hm,q',r',w')
  ·exact Q.s dl H₀ hs H1 σ q _ _ V Es (F,r.evo e1) z (λH σ q r n=>(q,r,n),λH σ q r n=>E.nx H σ q r n,λH σ q r n=>(q,r,n),E.rt,E.ru) x)
end
variable{cs:List J}
section
variable{X:Cx}{K:BT}{e:EQ}{es:List EQ}{te:TE}{qe:QE}{pos p p2:Pos}{fn:List Str}{bm:List B}
def tCs:List J->TA
 |[]=>f9
 |c::r=>bP (tC (.ref c)) (tCs r)
structure PCs(X:Cx)(K:BT)(fn:List Str)(es:List EQ)(cs:List J):Prop where
 h:PA X es (tCs cs)
 c:∀c∈cs,∃bm ini,cv K fn c bm ini
 l:cs.length=es.length
def OC:PCs X K fn [] []:=(dW,(λ_ z=>nomatch z),U)
def kE{y:Str}(q:cv K fn C bm ini)(hg:Gl X y)(hm:X.mg y=Z (.ref C))(hr:PCs X K fn es cs)(hd:AS y:=by decide)(hs:‹fx (.Name y p::es) X.env=(ϊ,eval (.Name y p) X.env)::fx es X.env›):PCs X K fn (.Name y p::es) (C::cs) :=
 (bh (vU hg hm hd) hr.h hs,λc g=>(fH.mp g).elim (λz=>z▸(bm,ini,q)) (hr.c c),by simp[hr.l])
def Nk{σ:St}{R:List V->Hp->Prop}:∀{cs:List J},R (cs.map V.ref) H->tCs cs σ H R:=by
 intro cs
 induction cs generalizing R with
 |nil=>exact λh=>h
 |cons c r g=>exact λh=>g (R:=λvs H1=>R (V.ref c::vs) H1) h
theorem Ew(c:cv K fn C bm ini):∀{cs:List J},(∀x∈cs,∃bm ini,cv K fn x bm ini)->W.kitAny K (.ref C) (cs.map B.ref)=Z (cs.any λx=>(B.ref C::bm).contains (.ref x)):=by
 intro cs
 induction cs with
 |nil=>exact λ_=>rfl
 |cons x r g =>
  intro h;let(bm',wx,z):=h x di;show(match W.kitOne K (.ref C) (.ref x)with|some O=>Z O|some ϊ=>W.kitAny K (.ref C) (r.map B.ref)|none=>Y)=_
  rw[Gm c z,Zg];cases e:(B.ref C::bm).contains (.ref x)with
  |true=>rfl
  |false=>exact g λy q=>h y (aJ _ q)
def Hg:∀{cs:List J}{us:List B},Vals (cs.map V.ref) us->us=cs.map B.ref:=by
 intro cs
 induction cs with
 |nil=>intro us r;cases r;rfl
 |cons c r g =>
  intro us h;cases h with
  |cons h1 h2=>rw[jq h1,g h2];rfl
def Ka(K:BT)(fn:List Str)(cs:List J):List V->Hp->VK->Prop:=λxs H Q=>∃a C b fs bm ini tp,xs=[.ref a,.ref tp]/\ExH H a C b fs/\cv K fn C bm ini/\H tp=Z (.tup (cs.map V.ref))/\(∀c∈cs,∃bm ini,cv K fn c bm ini)/\Q (.bl (cs.any λx=>(B.ref C::bm).contains (.ref x))) H
theorem IW:df X (.builtin "isinstance") (Ka X.K fn cs):=by
 intro gd s σ H xs us Q I r h;let(a,C,b,fs,bm,ini,tp,U,ex,g,ht,hc,q):=h;cases r with
 |cons h1 V =>
  cases V with
  |cons h2 P =>
   cases P
   cases(jq h1)
   cases(jq h2)
   let(_,its,hv,hi):=I.hok tp _ ht;have e:=Hg hv;subst e;let(((oc,od,ah,osl),h3,h4,n,h5),_):=hi;cases h4;cases h5;exact W.kia_tup (B6 g) I.kIn (ex.cls I.hok) h3 (Ew g hc) (λz=>nomatch z) λtk=>(.bl _,H,I.tok tk,U,q)
def P6(K:BT)(fn:List Str)(cs:List J)(qe:QE):QE:=λq Q=>qe q λt=>match t with
 |.xc C _ _=>∃bm ini,cv K fn C bm ini/\Q (.b (cs.any λx=>(B.ref C::bm).contains (.ref x)))
 |_=>False
def JM(hc:∀c∈cs,∃bm ini,cv K fn c bm ini)(hl:cs.length<=1000)(h:jz K te qe):kN K (tCB (Ka K fn cs) (bP te (bP (Jv (tCs cs)) f9))) (P6 K fn cs qe):=by
 intro dl H σ q Q R rd hq k;refine h dl H σ q _ _ rd hq λv t F H1 P r1 g=>?_
 split at g
 ·let(bm,ini,cx,g):=g;refine Nk (xj (bq (by rw[gV];exact hl)),λp hp=>?_)
  have ev:=(Evo.refl P.d).new (o:=.tup (cs.map V.ref)) hp;have r2:=r1.evo P.d ev;let(a,b,vs,U,U,ex,rs):=r2.r.exc;exact(a,_,b,_,bm,ini,p,U,ex,cx,aC,hc,k _ _ [] _ (P.trans ev) (.b _,λ_ z=>nomatch z) (λ_ z=>nomatch z) mE g)
 ·exact g.elim
def NZ{g}(Q:X.K=K)(hg:Gl X "isinstance")(hm:X.mg "isinstance"=Y)(P:PCs X K fn es cs)(h:QPE X K e te qe)(hl:cs.length<=1000:=by simp)
  (he:‹fx [e,.Tuple es g p2] X.env=(ϊ,eval e X.env)::fx [.Tuple es g p2] X.env›) (z:‹fx [.Tuple es g p2] X.env=(ϊ,eval (.Tuple es g p2) X.env)::fx [] X.env›) (q:‹(backTo pos (fx [.Tuple es g p2] X.env)).any (·.1)=false›):
  QPF X K (.Call (.Name "isinstance" p) [e,.Tuple es g p2] [] pos) (tCB (Ka K fn cs) (bP te (bP (Jv (tCs cs)) f9))) (P6 K fn cs qe):=by
 subst Q;exact(kD IW hg hm U (bh h.h (bh (D4 P.h) dW z) he) (by decide) (by decide) he q,JM P.c hl h.s)
end
section
variable{X:Cx}{K:BT}
def any_range(bs:List Bool):(UR bs.length).any (λi=>bs.getD i ϊ)=bs.any id:=by
 have e:(UR bs.length).map (λi=>bs.getD i ϊ)=bs:=by
  apply Zq
  ·simp
  ·intro i h1 h2;simp at h1;simp[h1]
 conv=>rhs;rw[<- e]
 rw[ZU];rfl
def MA(hc:X.calm=O):df X (.builtin "any") (λxs H Q=>∃(l:J)(bs:List Bool),xs=[.ref l]/\SqL X.K H l (bs.map V.bl)/\Q (.bl (bs.any id)) H):=by
 intro gd s σ H xs us Q I r h;let(l,bs,U,hl,q):=h;let(u,U,ru):=vals1 r;cases ru;let(its,z,pl,hz):=I.list hl;have g:l<s.heap.objs.size:=by let(_,e,_):=pl.isList;exact uj e
 have hlen:its.toArray.size=bs.length:=by
  have e:=z.length;rw[gV]at e;simp[e]
 refine call_any_walk (wpAny_pyIter_list pl.isList ?_);refine(s.heap.objs.size,[s.heap.objs.size,l],[s.heap.objs.size],its.toArray.size,_,_,λi=>bs.getD i ϊ,U,Walks.list (show X.A.in1.handled=Y from I.ok.hd hc) s.heap.objs.size l (AG g) its.toArray,((_,u0 _ U,U,U),pl.isList.push _),?_,λh' tk hk=>?_)
 ·intro i v s' Q' E' hP P;let(b,h1,U):=Fe z (by simpa using hP)
  have e:bs.getD i ϊ=b:=by simp[List.getD,h1]
  exact wpAny_truthy_bool (e▸P)
 ·refine(.bl _,H,I.kept (t':=tk) (h':=h') λb o e=>hk b o (by simpa using AG (uj e)) (hL _ e),U,?_)
  rw[hlen,any_range];exact q
def VS:QC:=λts Q=>match ts with
 |[.l xs]=>Ex3 (λbs=>bls xs=Z bs) (λbs=>(.b (bs.any id))) Q
 |_=>False
def yM(q:X.K=K)(g:X.calm=O):df X (.builtin "any") (λxs H Q=>∃(l:J)(bs:List Bool),xs=[.ref l]/\SqL K H l (bs.map V.bl)/\Q (.bl (bs.any id)) H):=by subst q;exact MA g
def FJ:tS K (λxs H Q=>∃(l:J)(bs:List Bool),xs=[.ref l]/\SqL K H l (bs.map V.bl)/\Q (.bl (bs.any id)) H) VS:=by
 intro dl H vs ts F Q R D r g k;unfold VS at g
 split at g
 ·let(v,U,r'):=r.one;let(p,vs,G,U,U,h1,h2):=r'.r.lst;let(bs,q,g):=g;have e:=h2.bls q;subst e;exact(p,bs,U,SqL.of h1,k _ _ [] H (.refl D) (.c (.b _)) (λ_ z=>nomatch z) mE g)
 ·exact g.elim
end
def Alk:Nat->T->T->Prop
 | 0,t,u=>(∃x y,t=.s x/\u=.s y)\/∃x y,t=.i x/\u=.i y
 |n+1,t,u=>(∃x y,t=.s x/\u=.s y)\/(∃x y,t=.i x/\u=.i y)\/∃ts us,t=.t ts/\u=.t us/\∀(j:Nat)(x y:T),ts[j]?=Z x->us[j]?=Z y->Alk n x y
variable{s:ϋ}{G:List J}{gd:List (J×Obj)}
section
variable{X:Cx}{K:BT}
def EU{t u:T}{v w:V}{F:List J}{x y:B}(h:(∃x y,t=.s x/\u=.s y)\/∃x y,t=.i x/\u=.i y)(r1:aI K dl H v t F)(Q:aI K dl H w u G)(P:RelV v x)(q:RelV w y):∃c:Bool,(c=O ↔ t=u)/\SeqAt.EqAt A s x y c:=by
 obtain⟨z,g,rfl,rfl⟩|⟨z,g,rfl,rfl⟩:=h
 ·let(U,_):=r1.str;let(U,_):=Q.str;exact(_,(λh=>congrArg T.s (eq_of_beq (show(z==g)=O from h)),λh=>by cases h;exact beq_self_eq_true z),wM P q U U)
 ·let(U,_):=r1.int;let(U,_):=Q.int;exact(_,(λh=>congrArg T.i (eq_of_beq (show(z==g)=O from h)),λh=>by cases h;exact beq_self_eq_true z),wM P q U U)
def Gz{ts us:List T}{n z q:Nat}{e:Nat->Bool}(hn:z=ts.length)(hm:q=us.length)(he:∀(j:Nat)(x y:T),ts[j]?=Z x->us[j]?=Z y->(e j=O ↔ x=y)):((UR (min z q)).all e&&z==q)=O ↔ ts=us:=by
 subst hn hm;rw[tY,AE,beq_iff_eq]
 constructor
 ·rintro⟨h1,h2⟩
  exact Zq h2 λi g1 g2=>((he i _ _ (rZ g1) (rZ g2)).mp (h1 i (ZE.mpr (by omega))))
 ·rintro rfl
  refine(λj g=>?_,U)
  have g:j<ts.length:=by have:=ZE.mp g;lia
  exact(he j _ _ (rZ g) (rZ g)).mpr U
def MF:∀(n:Nat){t u:T}{v:V}{F G:List J},Alk n t u->aI K dl H v t F->aI K dl H v u G->t=u:=by
 intro n;have sc:∀{t u:T}{v:V}{F G:List J},((∃x y,t=.s x/\u=.s y)\/∃x y,t=.i x/\u=.i y)->aI K dl H v t F->aI K dl H v u G->t=u:=λh q g=>by
  obtain⟨z,z',rfl,rfl⟩|⟨z,z',rfl,rfl⟩:=h
  ·let(U,_):=q.str;let(e,_):=g.str;cases e;rfl
  ·let(U,_):=q.int;let(e,_):=g.int;cases e;rfl
 induction n with
 |zero=>exact λh q g=>sc h q g
 |succ n ih =>
  intro t u v F G h q g;obtain h|h |⟨ts,us,rfl,rfl,ht⟩:=h
  ·exact sc (.inl h) q g
  ·exact sc (.inr h) q g
  ·let(a,vs,U,h1,f1):=q.tup;let(b,ws,e,h2,f2):=g.tup;cases e;rw[h1]at h2;cases h2;have l3:=f1.len;have l4:=f2.len;refine congrArg L2.T.t (Zq (by lia) λi g1 g2=>?_)
   have gv:i<vs.length:=by lia
   let(t1,G1,Q,ak):=kA f1 (rZ gv);let(t2,G2,P,ah):=kA f2 (rZ gv);rw[rZ g1]at Q;rw[rZ g2]at P;cases Q;cases P;exact ih (ht i _ _ (rZ g1) (rZ g2)) ak ah
def L8{σ:St}(I:Inv X gd σ H s)(hK:X.K=K):∀(n:Nat)(A:Do)(t u:T)(v w:V)(F G:List J)(x y:B),Alk n t u->aI K dl H v t F->aI K dl H w u G->RelV v x->RelV w y->A.units+n<cLine->∃c:Bool,(c=O ↔ t=u)/\SeqAt.EqAt A s x y c:=by
 intro n
 induction n with
 |zero =>
  intro A t u v w F G x y P z q rx ry hu;exact EU P z q rx ry
 |succ n ih =>
  intro A t u v w F G x y P z q rx ry hu;obtain h|h |⟨ts,us,rfl,rfl,P⟩:=P
  ·exact EU (.inl h) z q rx ry
  ·exact EU (.inr h) z q rx ry
  ·let(a,vs,U,h1,f1):=z.tup;let(b,ws,U,h2,f2):=q.tup;cases rx;cases ry;let(its,q1,p1,_):=I.tuple (SqT.of h1);let(Q,q2,p2,_):=I.tuple (SqT.of h2);have l1:=q1.length;have l2:=q2.length;have l3:=f1.len;have l4:=f2.len;have go:∀j,∃c:Bool,∀g1 (g2:j<Q.toArray.size),(∀x y,ts[j]?=Z x->us[j]?=Z y->(c=O ↔ x=y))/\SeqAt.EqAt A.in1 s its.toArray[j] Q.toArray[j] c:=λj=>by
    by_cases g:j<its.toArray.size/\j<Q.toArray.size
    ·let(g1,g2):=g;let(v1,e1,aD):=q1.at' g1;let(v2,e2,av):=q2.at' g2;let(t1,G1,aq,aL):=kA f1 e1;let(t2,G2,ak,aG):=kA f2 e2;let(c,hc,hE):=ih A.in1 t1 t2 v1 v2 G1 G2 _ _ (P j t1 t2 aq ak) aL aG aD av (by show A.units+1+n<_;lia)
     refine(c,λ_ _=>(λx y hx hy=>?_,hE))
     rw[aq]at hx;rw[ak]at hy;cases hx;cases hy;exact hc
    ·exact(O,λg1 g2=>absurd (g1,g2) g)
   have hc:=λj=>Classical.choose_spec (go j)
   have key:((UR (min its.toArray.size Q.toArray.size)).all (λj=>Classical.choose (go j))&&its.toArray.size==Q.toArray.size)=O ↔ ts=us:=by
    have e1:its.toArray.size=ts.length:=by simp;omega
    have e2:Q.toArray.size=us.length:=by simp;omega
    refine Gz (n:=n) e1 e2 λj x y hx hy=>?_
    have g1:=(iZ.mp hx).1;have g2:=(iZ.mp hy).1;exact(hc j (by omega) (by omega)).1 x y hx hy
   by_cases ah:a=b
   ·subst ah;exact(O,(λ_=>MF (n+1) (.inr (.inr (ts,us,U,U,P))) z q,λ_=>rfl),SeqAt.EqAt.same _)
   ·refine(_,(λh=>congrArg L2.T.t (key.mp h),λh=>key.mpr (by cases h;rfl)),SeqAt.EqAt.of_refs ah (SeqAt.RcAt.tuples (p1) (p2) (by omega) λj g1 g2=>(hc j g1 g2).2))
def Vp(K:BT):R2:=λx y H Q=>NM K x y H Q\/∃dl ts us n F G,aI K dl H x (.t ts) F/\aI K dl H y (.t us) G/\(∀(j:Nat)(x y:T),ts[j]?=Z x->us[j]?=Z y->Alk n x y)/\n<=100/\∀c:Bool,(c=O ↔ ts=us)->Q (.bl c) H
def Lf(hu:X.A.units+150<cLine)(hK:X.K=K):OpR X (compareOp .Eq) (Vp K):=by
 subst hK;refine OpR.or (fD (X:=X) (by omega) U) ?_
 intro gd s σ H x y v u Q I rx ry h;let(dl,ts,us,n,F,G,r1,r2,ht,hn,k):=h;let(a,vs,U,h1,f1):=r1.tup;let(b,ws,U,h2,f2):=r2.tup;cases rx;cases ry;let(its,q1,p1,_):=I.tuple (SqT.of h1);let(q,q2,p2,_):=I.tuple (SqT.of h2);have l1:=q1.length;have l2:=q2.length;have l3:=f1.len;have l4:=f2.len;have go:∀j,∃c:Bool,∀(g1:j<its.toArray.size)(g2:j<q.toArray.size),(∀(x y:T),ts[j]?=Z x->us[j]?=Z y->(c=O ↔ x=y))/\SeqAt.EqAt X.A.in1 s its.toArray[j] q.toArray[j] c:=λj=>by
  by_cases g:j<its.toArray.size/\j<q.toArray.size
  ·let(g1,g2):=g;let(v1,e1,ak):=q1.at' g1;let(v2,e2,ah):=q2.at' g2;let(t1,G1,V,av):=kA f1 e1;let(t2,G2,P,aq):=kA f2 e2;let(c,hc,hE):=L8 I U n X.A.in1 t1 t2 v1 v2 G1 G2 _ _ (ht j t1 t2 V P) av aq ak ah (by show X.A.units+1+n<_;omega)
   refine(c,λ_ _=>(λx y hx z=>?_,hE))
   rw[V]at hx;rw[P]at z;cases hx;cases z;exact hc
  ·exact(O,λg1 g2=>absurd (g1,g2) g)
 have hc:=λj=>Classical.choose_spec (go j)
 have key:((UR (min its.toArray.size q.toArray.size)).all (λj=>Classical.choose (go j))&&its.toArray.size==q.toArray.size)=O ↔ ts=us:=by
  have e1:its.toArray.size=ts.length:=by simp;omega
  have e2:q.toArray.size=us.length:=by simp;omega
  refine Gz (n:=n) e1 e2 λj x y hx z=>?_
  have g1:=(iZ.mp hx).1;have g2:=(iZ.mp z).1;exact(hc j (by omega) (by omega)).1 x y hx z
 exact SeqAt.eq_tupleAt (e:=λj=>Classical.choose (go j)) (show s.heap.IsTuple a its.toArray from p1) (show s.heap.IsTuple b q.toArray from p2) (by omega) (λj g1 g2=>(hc j g1 g2).2) (.bl _,H,I,U,k _ key)
def VP:Q2:=λt u Q=>match t,u with
 |.t ts,.t us=>∃n,n<=100/\(∀(j:Nat)(x y:T),ts[j]?=Z x->us[j]?=Z y->Alk n x y)/\∀c:Bool,(c=O ↔ ts=us)->Q (.b c)
 |t,u=>Kz t u Q
def FI:gX K (Vp K) VP:=by
 intro dl H x y t u F G Q R D P q g k;unfold VP at g
 split at g
 ·let(n,hn,V,g):=g;exact .inr (dl,_,_,n,F,G,P.r,q.r,V,hn,λc hc=>k _ _ [] H (.refl D) (.c (.b _)) (λ_ z=>nomatch z) mE (g c hc))
 ·exact .inl (cX dl H x y t u F G Q R D P q g k)
end
variable{N':List Str}{sc:Scope}{fp:List J}
section
variable{X:Cx}{K:BT}{e a b:EQ}{es:List EQ}{te ta tb:TE}{qe qa qb:QE}{tl:TA}{ql:QA}{pos p:Pos}{k k':Nat}{f:J}{prs:List Str}
structure Dn(K:BT)(mg:Str->Option B)(x:Str)(st:Fk)(f:J)(fd:Ch)(ps:List Str):Prop where
 F:Fun K x x st f fd
 m:mg x=Z (.ref f)
 b:Binds K fd ps []
def aQ{ps:PSp}(F:aS X.prog X.w X.K X.mg X.base CX0 k f fd prs (spQ K ps))(hr:bS k' X.A)(D:Dn X.K X.mg x st f fd prs)(ha:QPA X K (e::es) tl ql)(z:k<=k':=by first|decide|omega)(hg:Gl X x:=by exact U)
  (q:AS x:=by decide) (he:‹AC X e es›) (g:‹AM X pos es›):
  QPF X K (.Call (.Name x p) (e::es) [] pos) (A1 (spQ K ps) [] E0 tl) (KD ps ql):=N0 F (hr.mono z) hg D.m D.F.kp D.b ha q he g
def XH{ps:CO}(F:aS X.prog X.w X.K X.mg X.base (CX1 X.prog X.w) k f fd prs (A2 K ps))(hr:bS k' X.A)(D:Dn X.K X.mg x st f fd prs)(ha:QPA X K (e::es) tl ql)(P:k<=k':=by first|decide|omega)(hg:Gl X x:=by exact U)
  (z:AS x:=by decide) (he:‹AC X e es›) (g:‹AM X pos es›):
  QPX X K (.Call (.Name x p) (e::es) [] pos) (λEs=>sA (A2 K ps) Es tl) (λq Q W=>ql q λts=>ps ts Q W):=NO F (hr.mono P) hg D.m D.F.kp D.b ha z he g
def ax:QPA X K [] f9 R5:=AA.w aF
def af{i j}:QPE X K (.Constant (.int i) j pos) (tC (.int i)) (qC (.i i)):=ZB bT
def eV(hm:X.mg "len"=Y)(ha:QPA X K (e::es) tl ql)(hg:Gl X "len":=by exact U)(q:X.K=K:=by exact U)
  (he:‹AC X e es›) (g:‹AM X pos es›):QPF X K (.Call (.Name "len" p) (e::es) [] pos) (tCB (J9 K) tl) (qCB VG ql):=gj (IV q) Nv hg hm (by kernel_rfl) ha (by decide) (by decide) he g
def aH(i:Nat)(g:X.N.Nodup)(he:QPF X K e te qe)(hi:‹X.N[i]?=Z x›)(hx:Loc X.env.scope x:=by first|exact .inl rfl|exact .inr U)(hs:‹swapsWith e (Z (.Name x pos')) pos.line X.env=pure false›)(hf:AT X x:=by first|exact .inl rfl|exact .inr rfl|assumption):
  QPS X K (.Assign [.Name x pos'] e pos) (p7 te (jJ i)) (N2 i qe):=RR g hi hx he hs hf
def kb(i:Nat)(g:X.N.Nodup)(hi:‹X.N[i]?=Z x›)(hx:Loc X.env.scope x:=by first|exact .inl rfl|exact .inr U)(hf:AT X x:=by first|exact .inl rfl|exact .inr rfl|assumption):PG X (.Name x pos) (jJ i):=qM g hi hx hf
def uO{cl:List (Str×J)}{s₂:ϋ}{H₂:Hp}(i:Nat)(g:N'.Nodup:=by decide +kernel)(hi:‹N'[i]?=Z x›)(hx:Loc (blk X N' sc cl C s₂ H₂ fp).env.scope x:=by first|exact .inl rfl|exact .inr U)(hf:‹(blk X N' sc cl C s₂ H₂ fp).env.scope.names.lookup x=Z .local›):PG (blk X N' sc cl C s₂ H₂ fp) (.Name x pos) (jJ i):=qM (X:=blk X N' sc cl C s₂ H₂ fp) g hi hx (.inr hf)
def K5{q g:Str}{t1 P:TG}{j:Nat}(h1:PG X (.Name q p1) t1)(h2:PG X (.Name g p2) P)(V:X.K=K:=by exact U)(Q:X.calm=true:=by exact U)
  (hn:‹(assignEach [.Name q p1,.Name g p2] X.env).length=2›) (z:‹(assignEach [.Name q p1,.Name g p2] X.env).findIdx? (·.1)=none›):PG X (.Tuple [.Name q p1,.Name g p2] j pos) (LV K 2 (yz t1 (yz P Pd))):=zB V Q (fB h1 (fB h2 vh)) hn z
def cY(g:X.A.units+1<cLine)(ha:QPE X K a ta qa)(q:QPE X K b tb qb)(z:X.K=K:=by exact U):QPT X K (.Compare a [.Eq] [b] pos) (A0 (tOp (NM K) ta tb)) (jE (qOp Kz qa qb)):=bQ (fD g z) cX (a8 _) ha q
def oE(ha:QPE X K a ta qa)(g:QPE X K b tb qb):=bQ (pos:=pos) Qa (mH (K:=K) (g':=λi j=>.b (decide (i<j))) λ_ _ _ _=>.b _) (a8 _) ha g
def Bh(ha:QPE X K a ta qa)(g:QPE X K b tb qb):=bQ (pos:=pos) Ga (mH (K:=K) (g':=λi j=>.b (decide (j<i))) λ_ _ _ _=>.b _) (a8 _) ha g
def Vs(ha:QPE X K a ta qa)(g:QPE X K b tb qb):=bQ (pos:=pos) Qd (mH (K:=K) (g':=λi j=>.b (decide (j<=i))) λ_ _ _ _=>.b _) (a8 _) ha g
end
abbrev NI(K:BT)(x:Str)(f:J):Prop:=W.nsIn K mainGlobals x=Z (Z (.ref f))
abbrev LK(K:BT)(f:J)(x q:Str)(st:Fk)(oc:B)(od:Option J)(kV dc pm:B)(an:Option J)(cd ct:B)(sl:Array (Option B)):Prop:=K.lookup f=Z (oc,od,.func (W.fnOf x q (iI st) (cA st) (au st) .none kV dc pm an cd ct),sl)
abbrev CI(K:BT)(cd:B)(x:Str):Prop:=W.codeIn K cd x=O
abbrev KI(K:BT)(f:J):Prop:=W.keepIn K (.ref f)=O
section
variable{K:BT}{q:Str}{f:J}{oc kV dc pm cd ct:B}{od an:Option J}{sl:Array (Option B)}
abbrev NB(K:BT)(x:Str):Prop:=W.nsIn K mainGlobals x=Z Y
inductive DY(K:BT)(x:Str)(st:Fk)(f:J):Prop
 |mk(n:NI K x f)(fd:Ch)(F:Fun K x x st f fd)
inductive DM(K:BT)(C:J)(x q:Str)(st:Fk)(f:J):Prop
 |mk(M:Meth K C x f)(fd:Ch)(F:Fun K x q st f fd)
def DY.of(n:NI K x f)(l:LK K f x x st oc od kV dc pm an cd ct sl)(c:CI K cd x)(k:KI K f):DY K x st f:=(n,_,pN l c k)
theorem DM.of(m:W.findIn K (.ref C) x=Z (Z (.ref f)))(l:LK K f x q st oc od kV dc pm an cd ct sl)(c:CI K cd q)(k:KI K f)(i:W.isFn K (.ref f)=O):DM K C x q st f:=((m,i,k),_,pN l c k)
theorem Fun.b1{p1:Str}(F:Fun K x q st f fd)(z:∀kV dc pm an cd ct g,bindArgs (W.fnOf x q (iI st) (cA st) (au st) .none kV dc pm an cd ct) ([g],[])=pure [(p1,g)]:=by intros;rfl):Binds K fd [p1] []:=F.binds λkV dc pm an cd ct us hl=>Wq (P:=λus=>bindArgs _ (us,[])=pure (List.zip _ us)) (z kV dc pm an cd ct) us hl
theorem Fun.b2{p1 p2:Str}(F:Fun K x q st f fd)(Q:∀kV dc pm an cd ct z g,bindArgs (W.fnOf x q (iI st) (cA st) (au st) .none kV dc pm an cd ct) ([z,g],[])=pure [(p1,z),(p2,g)]:=by intros;rfl):Binds K fd [p1,p2] []:=F.binds λkV dc pm an cd ct us hl=>Wo (P:=λus=>bindArgs _ (us,[])=pure (List.zip _ us)) (Q kV dc pm an cd ct) us hl
theorem Fun.b3{p1 p2 p3:Str}(F:Fun K x q st f fd)(V:∀kV dc pm an cd ct Q z g,bindArgs (W.fnOf x q (iI st) (cA st) (au st) .none kV dc pm an cd ct) ([Q,z,g],[])=pure [(p1,Q),(p2,z),(p3,g)]:=by intros;rfl):Binds K fd [p1,p2,p3] []:=F.binds λkV dc pm an cd ct us hl=>Wn (P:=λus=>bindArgs _ (us,[])=pure (List.zip _ us)) (V kV dc pm an cd ct) us hl
theorem Fun.b5{p1 p2 p3 p4 p5:Str}(F:Fun K x q st f fd)(hb:∀kV dc pm an cd ct u1 V Q z g,bindArgs (W.fnOf x q (iI st) (cA st) (au st) .none kV dc pm an cd ct) ([u1,V,Q,z,g],[])=pure [(p1,u1),(p2,V),(p3,Q),(p4,z),(p5,g)]:=by intros;rfl):Binds K fd [p1,p2,p3,p4,p5] []:=F.binds λkV dc pm an cd ct us hl=>X2 (P:=λus=>bindArgs _ (us,[])=pure (List.zip _ us)) (hb kV dc pm an cd ct) us hl
end
variable{prs:List Str}
theorem aS.calm{w:Da}{K:BT}{k:Nat}{f:J}{ps:CO}(F:aS P w K mg base (CX1 P w) k f fd prs (A2 K ps)):aS P w K mg base CX0 k f fd prs (spQ K λts Q=>ps ts Q λ_ _ _=>False) where
 len:=λvs H Q E h=>by
  let(dl,ts,G,Qp,h1,h2,h3,h4):=h;exact F.len vs H Q (λ_ _ _=>False) (dl,ts,G,Qp,_,h1,h2,h3,h4,λ_ _ _ _ _ _ _ z=>z)
 run:=λA outer s H args us vs Q E hr he q hv h=>by
  let(dl,ts,G,Qp,h1,h2,h3,h4):=h;refine codeAny_mono (F.run A outer s H args us vs Q (λ_ _ _=>False) hr he q hv (dl,ts,G,Qp,_,h1,h2,h3,h4,λ_ _ _ _ _ _ _ z=>z)) λr s' g=>?_
  cases r with
  |ok o=>cases o <;> exact g
  |error e =>
   let(a,C,dx,T,H',_,_,_,_,_,_,_,_,_,z):=g;exact z.elim
mutual
def T.pln:T->Bool
 |.n=>O
 |.b _=>O
 |.i _=>O
 |.s _=>O
 |.t xs=>T.zA xs
 |.zl xs=>T.zA xs
 |.fd _ _ ks=>T.SM ks
 |_=>ϊ
def T.zA:List T->Bool
 |[]=>O
 |x::r=>x.pln&&T.zA r
def T.SM:List (Key×T)->Bool
 |[]=>O
 | (_,x)::r=>x.pln&&T.SM r
end
def nof{A:Prop}(h:ϊ=O):A:=absurd h r8
theorem aI.plain{K:BT}(kt:∀a vs,H a=Z (.tup vs)->H' a=Z (.tup vs))(Q:∀a o u,H a=Z (.frz o u)->H' a=Z (.frz o u)){v:V}{t:T}{F:List J}(h:aI K dl H v t F):t.pln=O->aI K dl H' v t F :=
 aI.rec (motive_2:=λv t F _=>T.zA t=O->aA K dl H' v t F) (motive_3:=λv t F _=>T.SM t=O->gY K dl H' v t F)
  (λ_=>.n) (λx _=>.b x) (λx _=>.i x) (λx _=>.s x) (λ_ h=>nof h) (λh _ g q=>.t (kt _ _ h) (g q)) (λ_ _ _ h=>nof h) (λ_ _ _ h=>nof h) (λ_ h=>nof h) (λ_ h=>nof h) (λ_ h=>nof h) (λh _ g q=>.fd (Q _ _ _ h) (g q)) (λ_ h=>nof h) (λ_ _ _ h=>nof h)
  (λ_ _ h=>nof h) (λ_ _ _ h=>nof h) (λ_ _ _ h=>nof h) (λ_ _ _ h=>nof h) (λh _ g q=>.zl (Q _ _ _ h) (g q)) (λ_ h=>nof h) (λ_ _ _ _ _ h=>nof h) (λ_=>.nil) (λ_ _ P z q=>.cons (P (tY _ _▸q).1) (z (tY _ _▸q).2)) (λ_=>.nil) (λ_ _ P z q=>.cons (P (tY _ _▸q).1) (z (tY _ _▸q).2)) h
theorem aA.plain{K:BT}{dl:Dl}{H H':Hp}(kt:∀a vs,H a=Z (.tup vs)->H' a=Z (.tup vs))(g:∀a o u,H a=Z (.frz o u)->H' a=Z (.frz o u)){vs:List V}{ts:List T}{F:List J}(h:aA K dl H vs ts F):T.zA ts=O->aA K dl H' vs ts F :=
 h.ind (λ_=>.nil) (λ_ _ _ _ _ _ h _ z q=>.cons (h.plain kt g (tY _ _▸q).1) (z (tY _ _▸q).2))
theorem aI.SN{K:BT}{v:V}{t:T}{F:List J}(h:aI K dl H v t F):t.pln=O->F=[] :=
 aI.rec (motive_3:=λ_ _ _ _=>True)
  (λ_=>rfl) (λ_ _=>rfl) (λ_ _=>rfl) (λ_ _=>rfl) (λ_ h=>nof h) (λ_ _ g=>g) (λ_ _ _ h=>nof h) (λ_ _ _ h=>nof h) (λ_ h=>nof h) (λ_ h=>nof h) (λ_ h=>nof h) (λ_ _ _ _=>rfl) (λ_ h=>nof h) (λ_ _ _ h=>nof h)
  (λ_ _ h=>nof h) (λ_ _ _ h=>nof h) (λ_ _ _ h=>nof h) (λ_ _ _ h=>nof h) (λ_ _ _ _=>rfl) (λ_ h=>nof h) (λ_ _ _ _ _ h=>nof h) (λ_=>rfl) (λ_ _ z q=>z7 z q) trivial (λ_ _ _ _=>trivial) h
theorem aA.SN{K:BT}{dl:Dl}{H:Hp}{vs:List V}{ts:List T}{F:List J}(h:aA K dl H vs ts F):T.zA ts=O->F=[]:=h.ind (λ_=>rfl) (λ_ _ _ _ _ _ h _ g=>z7 h.SN g)
section
variable{X:Cx}{K:BT}{σ:St}{e o:EQ}{te:TE}{qe:QE}
def Inv.Ph(I:Inv X gd σ H s)(ha:H a=Z (.lst xs)):∃o,Inv X gd σ (upd H a (.frz o (.lst xs))) s:=by
 have g:∀o v,X.H₀ a≠Z (.frz o v):=λo v e=>by
  have:=I.base.pO a o v e
  rw[ha]at this;cases this
 let(z,its,n,r,e):=(I.hok a _ ha);exact(_,I.Ve ha (λ_ z=>nomatch z) (λ_ z=>nomatch z) (λ_ z=>nomatch z) g (e,z,its,n,r,e))
def PR(te:TE):TE:=λσ H Q=>te σ H λv H1=>∃a xs,v=.ref a/\H1 a=Z (.lst xs)/\∀o,Q v (upd H1 a (.frz o (.lst xs)))
def Oy(he:PE X e te):PE X e (PR te):=by
 intro gd s σ H Q I h;refine thn (he gd s σ H _ I h) λu s' g=>?_
 let(v,H',P,r,a,xs,V,z,q):=g;let(o,K):=P.Ph z;exact(v,_,K,r,q o)
def VM(qe:QE):QE:=λq Q=>qe q λt=>match t with
 |.l ts=>T.zA ts=O/\Q (.zl ts)
 |_=>False
def FP(he:QPF X K e te qe):QPF X K e (PR te) (VM qe):=(Oy he.h,λdl H σ q Q R rd V k=>he.s dl H σ q _ _ rd V λv t F H1 e1 P f1 n1 g=>by
 split at g
 ·let(p,vs,G,U,U,h1,h2):=P.r.lst;obtain rfl:=h2.SN g.1;refine(p,vs,U,h1,λo=>?_)
  have e2:=e1.fresh (o:=.frz o (.lst vs)) (f1 p di) (P.n p di);have ne:∀{a:J}{u:HO},H1 a=Z u->(∀xs,u ≠ .lst xs)->a≠p:=λh n z=>by rw[z,h1]at h;exact n _ (Option.some.inj h).symm
  have ts:=h2.plain (H':=upd H1 p (.frz o (.lst vs))) (λa us h=>by rw[aw (ne h λ_ z=>nomatch z)];exact h) (λa o u h=>by rw[aw (ne h λ_ z=>nomatch z)];exact h) g.1
  exact k _ (.zl _) [] _ e2 (.zl aC ts,λ_ z=>nomatch z) (λ_ z=>nomatch z) mE g.2
 ·exact g.elim)
end
end L2
namespace L2
open PySem PySem.Spec PyProof.Rows
def iW(H:Hp)(F:List J):Hp:=λb=>if b∈F then Y else H b
variable{H:Hp}
def qV{F:List J}{b:J}(h:b∈F):iW H F b=none:=if_pos h
def kF{F:List J}{b:J}(h:b ∉ F):iW H F b=H b:=if_neg h
structure eM(dl:Dl)(H:Hp)(F:List J)(H':Hp):Prop where
 k:∀b o,H b=Z o->b ∉ F->Nd dl b->NR o->H' b=Z o
 r:∀a x,H a=Z (.room x)->a ∉ F->∃y,y<=x/\H' a=Z (.room y)
 l:∀b xs,b∈F->H b=Z (.lst xs)->∃ys,H' b=Z (.lst ys)
 d:Dls dl H'
abbrev uY:=List T->(T->T->Prop)->Prop
inductive Oth(K:BT)(dl:Dl)(H:Hp)(vs:List V)(ts:List T)(j:Nat)(F0:List J):Prop
 |mk(G:Nat->List J)(h1:(∀i v t,i≠j->vs[i]?=Z v->ts[i]?=Z t->Rp K dl H v t (G i)/\∀b∈G i,b ∉ F0))(h2:∀i,ts.length<=i->G i=[])
variable{dl:Dl}{j:Nat}
theorem Oth.im{K:BT}{vs:List V}{ts:List T}{F0:List J}(h:∀i v t,i≠j->vs[i]?=Z v->ts[i]?=Z t->Rp K dl H v t []):Oth K dl H vs ts j F0:=(λ_=>[],λi v t h1 h2 h3=>(h i v t h1 h2 h3,λ_ z=>nomatch z),λ_ _=>rfl)
inductive spL(K:BT)(j:Nat)(ps:uY)(vs:List V)(H:Hp)(Q:VK)(_:XK):Prop
 |mk(dl:Dl)(ts:List T)(v0:V)(t0:T)(F0:List J)(Qp:T->T->Prop)(h1:Dls dl H)(h2:vs.length=ts.length)(h3:vs[j]?=Z v0)(h4:ts[j]?=Z t0)(h5:Rp K dl H v0 t0 F0)(h6:F0.Nodup)(h7:Oth K dl H vs ts j F0)(h8:ps ts Qp)(h9:∀v r Fr t' F' H',eM dl H F0 H'->Rp K dl H' v0 t' F'->F'.Nodup->(∀b∈F',b∈F0\/H b=Y)->Rp K dl H' v r Fr->Fr.Nodup->(∀b∈Fr,b∈F0\/H b=Y)->(∀b∈Fr,b ∉ F')->Qp r t'->Q v H')
def hsq(H:Hp)(F:List J):List (V×T):=F.filterMap λb=>match H b with
 |some (.lst _)=>Z (.ref b,.q)
 |_=>Y
theorem LL{K:BT}{F:List J}:∀p∈hsq H F,Rp K dl H p.1 p.2 []:=λp hp=>by
 let(b,_,e):=Zh.mp hp
 split at e
 ·rename_i xs h;cases e;exact(.q h,λ_ z=>nomatch z)
 ·cases e
variable{xs:List V}
def Gv{F:List J}{b:J}(g:b∈F)(h:H b=Z (.lst xs)):(V.ref b,T.q)∈hsq H F:=Zh.mpr (b,g,by rw[h])
variable{N:List Str}
theorem DP{K:BT}{vs:List V}{ts:List T}{v0:V}{t0:T}{F0:List J}{hs:List (V×T)}(D:Dls dl H)(hl:vs.length=ts.length)(hv:vs[j]?=Z v0)(r0:Rp K dl H v0 t0 F0)(n0:F0.Nodup){G:Nat->List J}(ro:∀i v t,i≠j->vs[i]?=Z v->ts[i]?=Z t->Rp K dl H v t (G i)/\∀b∈G i,b ∉ F0)(rz:∀i,ts.length<=i->G i=[])(hj:j<ts.length)(hh:∀p∈hs,Rp K dl H p.1 p.2 []):
  Rel K dl (iW H F0) hs H (start N vs) ((ts.map Sl.r).set j (.o t0)++xU (N.length - ts.length) .no) (λi=>if i=j then F0 else G i):=by
 have lk:∀i y,((ts.map Sl.r).set j (.o t0)++xU (N.length - ts.length) Sl.no)[i]?=Z y->(i=j/\y=.o t0)\/(i≠j/\∃t,ts[i]?=Z t/\y=.r t)\/(ts.length<=i/\y=.no):=λi y h=>by
  by_cases hi:i<ts.length
  ·rw[CS (by simpa using hi)]at h
   obtain⟨e1,Q,_⟩|⟨e1,Q⟩:=get_set h
   ·exact .inl (e1,Q)
   ·rw[ti,rZ hi]at Q;exact .inr (.inl (e1,ts[i],by simp,(Option.some.inj Q).symm))
  ·rw[CP (by simpa using hi),YW]at h
   split at h
   ·exact .inr (.inr (by omega,(Option.some.inj h).symm))
   ·cases h
 have g:∀i v,vs[i]?=Z v->(start N vs)[i]?=Z (Z v):=λi v e=>by
  have hi:=(iZ.mp e).1;show(vs.map Z++xU (N.length - vs.length) Y)[i]?=_;rw[CS (by simpa using hi),ti,e]
  rfl
 have q:∀b o,iW H F0 b=Z o->H b=Z o:=λb o h=>by
  by_cases e:b∈F0
  ·rw[qV e]at h;cases h
  ·rw[kF e]at h;exact h
 refine(D,λi y t h1 h2=>?_,λi y h1 h2=>?_,λi hi=>?_,λi t h1=>?_,λp hp=>([],hh p hp,λ_ _ _ _ _ z=>nomatch z),(λb o h _ _=>q b o h,λb x h=>(x,Zc _,q b _ h)),?_)
 ·obtain⟨rfl,rfl⟩|⟨ne,u,e,rfl⟩|⟨_,rfl⟩:=lk i y h1
  ·cases h2;refine(v0,g _ _ hv,?_);rw[if_pos rfl];exact r0
  ·cases h2;obtain⟨v,ev⟩:∃v,vs[i]?=Z v:=(vs[i]'(by rw[hl];exact(iZ.mp e).1),rZ _)
   refine(v,g _ _ ev,?_);rw[if_neg ne];exact(ro i v t ne ev e).1
  ·cases h2
 ·obtain⟨rfl,rfl⟩|⟨ne,u,e,rfl⟩|⟨hi,rfl⟩:=lk i y h1
  ·cases h2
  ·cases h2
  ·rw[if_neg (by lia)];exact rz i hi
 ·have ah:ts.length<=i:=by simp at hi;lia
  rw[if_neg (by lia)];exact rz i ah
 ·obtain⟨rfl,e⟩|⟨ne,u,e,z⟩|⟨_,z⟩:=lk i _ h1
  ·refine(by rw[if_pos rfl];exact n0,λb P=>?_,λk hk b P=>?_)
   ·rw[if_pos rfl]at P;exact qV P
   ·rw[if_pos rfl]at P;rw[if_neg hk];intro z;by_cases ak:k<ts.length
    ·exact(ro k (vs[k]'(by lia)) ts[k] hk (rZ _) (rZ _)).2 b z P
    ·rw[rz k (by omega)]at z;cases z
  ·cases z
  ·cases z
 ·show _=(vs.map Z++xU (N.length - vs.length) Y).length;simp[hl]
def T.adr:T->Option J
 |.lp a _=>Z a
 |.dp a _=>Z a
 |.om a _ _ _=>Z a
 |_=>Y
theorem aI.adr{K:BT}{dl:Dl}{H:Hp}{v:V}{t:T}{F:List J}{a:J}(h:aI K dl H v t F)(e:t.adr=Z a):v=.ref a:=by
 cases t with
 |lp b xs=>cases e;let(_,_,z,_):=h.lpp;exact z
 |dp b xs=>cases e;let(_,_,z,_):=h.dpp;exact z
 |om b _ _ _=>cases e;let(_,_,_,z,_):=h.omm;exact z
 |_=>cases e
def fi.ow(j:Nat)(a:J)(Q:T->T->Prop):fi:={nx:=λq=>∃t',q[j]?=Z (.o t')/\t'.adr=Z a/\Q .n t',rt:=λ_=>False,ru:=λq r=>∃t',q[j]?=Z (.o t')/\t'.adr=Z a/\Q r t'}
variable{P:Db}{mg:Str->Option B}{base:Ev}{x:Str}{qual:Str}{st:Fk}{fd:Ch}{ps:List Str}
theorem Fun.okL{w:Da}{K:BT}{f:J}{k:Nat}{ah:uY}(F:Fun K x qual st f fd)(S:aE N ps (au st))(len:∀ts Q,ah ts Q->ts.length=ps.length)
  (jw:∀(cdv:B)(A:Do)(outer:List Env)(s:ϋ)(H:Hp)(E:XK),bS k (A.deeper (envOfC qual (au st) s.heap.objs.size f cdv)) ->
   ∃t qs,rW (pQ CX0 P w K mg base N qual (au st) f cdv A outer s H E).nox K (cA st) t qs/\∀ts Q t0 a,ah ts Q->ts[j]?=Z t0->t0.adr=Z a->qs (.ow j a Q) ((ts.map Sl.r).set j (.o t0)++xU (N.length - ts.length) .no))
  (Uh:∀ts Q,ah ts Q->∃t0 a,ts[j]?=Z t0/\t0.adr=Z a):aS P w K mg base CX0 (k+1) f fd ps (spL K j ah):=by
 refine F.ok S (λvs H Q E h=>?_) (λcdv A outer s H vs Q E hr h=>?_)
 ·let(dl,ts,v0,t0,F0,Qp,_,hl,_,_,_,_,_,h,_):=h;rw[hl];exact len ts Qp h
 ·let(dl,ts,v0,t0,F0,Qp,D,hl,hv,ht,r0,n0,ro,h,fin):=h;let(t,qs,hb,hq):=jw cdv A outer s H E hr;refine(t,hb.h,?_);let(aD,a,aq,ea):=Uh ts Qp h;rw[ht]at aq;cases aq;have z:=hq ts Qp t0 a h ht ea;have hj:=(iZ.mp ht).1;let(G,ro,rz):=ro;have R:=DP (N:=N) (hs:=hsq H F0) D hl hv r0 n0 ro rz hj LL;have av:=r0.r.adr ea;have ak:∀{b:J}{o:HO},H b=Z o->b ∉ F0->iW H F0 b=Z o:=λh n=>by rw[kF n];exact h
  have bB:∀{H':Hp}{σ:St}{q:Sq}{F':Nat->List J},Rel K dl (iW H F0) (hsq H F0) H' σ q F'->eM dl H F0 H':=λ{H' σ q F'} r' =>
   (λb o e n nd nr=>r'.f.k b o (ak e n) nd nr,λb x e n=>r'.f.r b x (ak e n),λb xs hb e=>(by
    let(Fp,rq,_):=r'.h _ (Gv hb e);cases rq.r with
    |q h=>exact(_,h)),r'.d)
  have fr:∀{b:J},iW H F0 b=Y->b∈F0\/H b=none:=λ{b} h=>by
   by_cases e:b∈F0
   ·exact .inl e
   ·rw[kF e]at h;exact .inr h
  have at':∀{H':Hp}{σ:St}{q:Sq}{F':Nat->List J}{t':T},Rel K dl (iW H F0) (hsq H F0) H' σ q F'->q[j]?=Z (.o t')->t'.adr=Z a->Rp K dl H' v0 t' (F' j):=λ{H' σ q F' t'} r' e1 e2=>by
   let(v',_,rp):=r'.g j _ _ e1 U;rw[av,<- rp.r.adr e2];exact rp
  refine hb.s dl (iW H F0) (hsq H F0) H _ _ _ _ (_,R) z (λH' σ q hr V=>?_,λ_ _ _ _ V=>V.elim,λ_ _ _ _ V=>V.elim,λ_ _ _ _ _ _ _ _ _ V=>V.elim,λH' σ q F' v r Fr r' rv f1 n1 dj V=>?_)
  ·let(F',r'):=hr;let(t',e1,e2,V):=V;let(o1,o2,_):=r'.o j t' e1;exact fin .non .n [] t' (F' j) H' (bB r') (at' r' e1 e2) o1 (λb hb=>fr (o2 b hb)) (.n,λ_ z=>nomatch z) mE (λ_ z=>nomatch z) (λ_ z=>nomatch z) V
  ·let(t',e1,e2,V):=V;let(o1,o2,_):=r'.o j t' e1;exact fin v r Fr t' (F' j) H' (bB r') (at' r' e1 e2) o1 (λb hb=>fr (o2 b hb)) rv n1 (λb hb=>fr (f1 b hb)) (dj j) V
variable{i:Nat}{F':List J}
section
variable{K:BT}{H₀ H':Hp}{hs:List (V×T)}{σ:St}{q:Sq}{F:Nat->List J}
def Rel.Wk{t t':T}{v:V}(r:Rel K dl H₀ hs H σ q F)(hi:q[i]?=Z (.o t))(hv:σ[i]?=Z (Z v))(f:eM dl H (F i) H')(hr:Rp K dl H' v t' F')(n':F'.Nodup)(hF:∀b∈F',b∈F i\/H b=Y):Rel K dl H₀ hs H' σ (q.set i (.o t')) (A8 F i F'):=by
 have th:∀{b:J},b∈F i->gH H b:=λP=>r.bO P
 have ne:∀{b:J}{o:HO},H b=Z o->o.mt=ϊ->b ∉ F i:=λ{b o} h n1 z=>by
  let(_,e,m):=th z;rw[h]at e;cases e;rw[n1]at m;cases m
 have tf:TF H H':=(λb vs h=>f.k b _ h (ne h U) (r.d.nd h (λ_ z=>nomatch z) λ_ z=>nomatch z) (λ_ z=>nomatch z),λb o u h=>f.k b _ h (ne h U) (r.d.nd h (λ_ z=>nomatch z) λ_ z=>nomatch z) (λ_ z=>nomatch z),
  λb φ h=>f.k b _ h (ne h U) (r.d.nd h (λ_ z=>nomatch z) λ_ z=>nomatch z) (λ_ z=>nomatch z),λb xs h=>(by
  by_cases P:b∈F i
  ·exact f.l b xs P h
  ·by_cases hn:Nd dl b
   ·exact(xs,f.k b _ h P hn (λ_ z=>nomatch z))
   ·obtain⟨p,hp,z⟩:∃p∈dl,¬(b≠p.1/\b≠p.2):=Classical.byContradiction λc=>hn λp hp=>Classical.byContradiction λz=>c (p,hp,z)
    let(s,n,ls,Q):=r.d p hp;let(s',n',ls',Q'):=f.d p hp;have h1:=en h Q.hd (λz=>nomatch z)
    have h2:=Classical.byContradiction λz'=>z (h1,z')
    exact(_,by rw[h2];exact Q'.hl)),λb x h=>f.r b x h (ne h U))
 have st:∀{w:V}{u:T}{Fw:List J},Rp K dl H w u Fw->(∀b∈Fw,b ∉ F i)->Rp K dl H' w u Fw:=λ{w u Fw} h np =>
  (h.r.d9 tf (λ_ z=>z) λb P o e=>f.k b o e (np b P) (h.n b P) (.of (h.r.there b P) e),h.n)
 let(o1,o2,o3):=r.o i t hi;have out:∀j,j≠i->∀b∈F',b ∉ F j:=λj hj b P z=>by
  obtain h|h:=hF b P
  ·exact o3 j hj b h z
  ·exact(r.bO z).no h
 refine(f.d,λj x u h1 h2=>?_,λj x h1 h2=>?_,λj hj=>?_,λj u h1=>?_,λp hp=>?_,(λb o h n nr=>?_,λb x h=>?_),by simp[r.l])
 ·obtain⟨rfl,rfl,_⟩|⟨ne',h1⟩:=get_set h1
  ·cases h2;exact(v,hv,by rw[bK];exact hr)
  ·let(w,h3,h4):=r.g j x u h1 h2;exact(w,h3,by rw[bg ne'];exact st h4 λb P z=>o3 j ne' b z P)
 ·obtain⟨rfl,rfl,_⟩|⟨ne',h1⟩:=get_set h1
  ·cases h2
  ·rw[bg ne'];exact r.n j x h1 h2
 ·have hl:=(iZ.mp hi).1;rw[AF]at hj;rw[bg (by lia)]
  exact r.z j hj
 ·obtain⟨rfl,e,_⟩|⟨ne',h1⟩:=get_set h1
  ·rw[bK];exact(n',λb P=>(hF b P).elim (o2 b) r.fz,λk hk b P=>by rw[bg hk];exact out k hk b P)
  ·let(p1,p2,p3):=r.o j u h1;rw[bg ne'];refine(p1,p2,λk hk b P z=>?_)
   by_cases ek:k=i
   ·subst ek;rw[bK]at z;exact out j ne' b z P
   ·rw[bg ek]at z;exact p3 k hk b P z
 ·let(Fp,h1,h2):=r.h p hp;refine(Fp,st h1 (λb P z=>h2 i t hi b z P),λj u hj b P z=>?_)
  obtain⟨rfl,e,_⟩|⟨ne',hj⟩:=get_set hj
  ·rw[bK]at P;obtain h|h:=hF b P
   ·exact h2 j t hi b h z
   ·exact gH.no (h1.r.there b z) h
  ·rw[bg ne']at P;exact h2 j u hj b P z
 ·exact f.k b o (r.f.k b o h n nr) (λz=>by rw[o2 b z]at h;cases h) n nr
 ·let(y,hy,e1):=r.f.r b x h;let(y',ah,e2):=f.r b y e1 (λz=>by rw[o2 b z]at h;cases h)
  exact(y',Y2 ah hy,e2)
end
section
variable{X:Cx}{K:BT}{H₀ H':Hp}{hs:List (V×T)}{σ:St}{q:Sq}{F:Nat->List J}{a b e o:EQ}{te tk tv:TE}{qe qk qv:QE}{pos pos' p:Pos}
def Rel.J3{t t':T}(r:Rel K dl H₀ hs H σ q F)(hi:q[i]?=Z (.o t))(Q:∀v,σ[i]?=Z (Z v)->aI K dl H v t (F i)->aI K dl H v t' (F i)):Rel K dl H₀ hs H σ (q.set i (.o t')) F:=by
 refine(r.d,λj x u h1 h2=>?_,λj x h1 h2=>?_,λj P=>r.z j (by rw[AF]at P;exact P),λj u h1=>?_,λp hp=>?_,r.f,by simp[r.l])
 ·obtain⟨rfl,rfl,_⟩|⟨ne,h1⟩:=get_set h1
  ·cases h2;let(v,h3,h4):=r.g j _ t hi U;exact(v,h3,Q v h3 h4.r,h4.n)
  ·exact r.g j x u h1 h2
 ·obtain⟨rfl,rfl,_⟩|⟨ne,h1⟩:=get_set h1
  ·cases h2
  ·exact r.n j x h1 h2
 ·obtain⟨rfl,_,_⟩|⟨ne,h1⟩:=get_set h1
  ·exact r.o j t hi
  ·exact r.o j u h1
 ·let(Fp,h1,h2):=r.h p hp;refine(Fp,h1,λj u P=>?_)
  obtain⟨rfl,_,_⟩|⟨ne,P⟩:=get_set P
  ·exact h2 j t hi
  ·exact h2 j u P
def Rel.asL{p:J}{xs:List T}(r:Rel K dl H₀ hs H σ q F)(hi:q[i]?=Z (.o (.lp p xs))):Rel K dl H₀ hs H σ (q.set i (.o (.l xs))) F:=r.J3 hi λv _ h=>by
 let(vs,G,U,e,h1,h2):=h.lpp;rw[e];exact .l h1 h2
def Rel.asP{p:J}{xs:List T}(r:Rel K dl H₀ hs H σ q F)(hi:q[i]?=Z (.o (.l xs)))(hv:σ[i]?=Z (Z (.ref p))):Rel K dl H₀ hs H σ (q.set i (.o (.lp p xs))) F:=r.J3 hi λv h3 h=>by
 rw[hv]at h3;cases h3;let(z,vs,G,g,e,h1,h2):=h.lst;cases g;rw[e];exact .lp h1 h2
def fc(he:QPF X K e te qe):QPS X K (.Return (Z e) pos) (Jw te) (λD q=>qe q λr=>D.ru q r):=(pw he.h,λdl H₀ hs H σ q Dq D (F,r) hq E =>
 he.s dl H σ q _ _ r.rd hq λv t F' H' e1 P f1 Q V=>E.ru H' σ q F v t F' (r.evo e1) P (λb g=>r.fz (f1 b g)) Q (λ_ b g z=>(r.bO z).no (f1 b g)) V)
def P1(i:Nat):QE:=λq Q=>match q[i]? with
 |some (.o (.lp _ xs))=>Q (.l xs)
 |_=>False
def qvp(i:Nat){pos:Pos}(V:‹X.N[i]?=Z x›)(hv:Vis X.env.scope x:=by first|exact Or.inl rfl|exact Or.inr (Or.inl U)|exact Or.inr (Or.inr U))(hd:AS x:=by decide)
  (P:(x ==("__classdict__":Str))=false:=by decide):QPE X K (.Name x pos) (bX i) (P1 i):=(zD V hv hd P,λdl H σ q Q R rd z k=>by
 unfold P1 at z
 split at z
 ·rename_i a ks e;let(v,F,h1,h2):=rd.g i _ _ e U;let(vs,G,U,U,h3,h4):=h2.r.lpp;exact(_,h1,k _ (.l ks) _ H (.refl rd.d) (.l h3 h4,h2.n) z)
 ·exact z.elim)
def Kv(i:Nat)(qk qv:QE):QS:=λD q=>qv q λt=>match q[i]? with
 |some (.o (.lp a xs))=>qk q λu=>match u with
  |.i k=>∃j,ixN xs.length k=Z j/\T.ims xs=O/\t.im=O/\D.nx (q.set i (.o (.lp a (xs.set j t))))
  |_=>False
 |_=>False
def Hr(hk:jz K tk qk)(hv:jz K tv qv):CM K (p7 tv (Ck (bX i) tk uc)) (Kv i qk qv):=λdl H₀ hs H σ q Dq D (F,r) P E=>by
 refine hv dl H σ q _ _ r.rd P λw t F1 H1 e1 r1 P=>?_
 split at P
 ·rename_i a xs ei;let(v,Q,rp):=(r.evo e1).g i _ _ ei U;refine(v,Q,hk dl H1 σ q _ _ (r.rd.evo e1) P λy u F2 H2 e2 r2 P=>?_)
  split at P
  ·let(j,hj,hm,ht,P):=P;let(U,_):=r2.r.int;obtain rfl:=r1.r.im ht;have ah:=rp.evo e1.d e2;let(vs,G,U,eF,h1,h2):=ah.r.lpp;have eG:=h2.im hm;subst eG;have V:i<q.length:=(iZ.mp ei).1;refine(a,vs,_,j,U,U,h1,by rw[h2.len];exact hj,?_)
   have rA:=r.asL ei;let(F3,r3):=rA.sM (i:=i) (xs:=xs) (u4 V) Q eF (e1.trans e2) (aA.set (r1.evo e1.d e2).r j h2 U) mE λ_ z=>nomatch z
   have r4:=r3.asP (i:=i) (u4 (by rw[AF];exact V)) Q
   rw[List.set_set,List.set_set]at r4;exact E.nx _ _ _ (_,r4) P
  ·exact P.elim
 ·exact P.elim
def Bi(ho:PE X o (bX i))(q:QPE X K a tk qk)(hv:QPE X K b tv qv)(hs:‹swapsWithSole [.Subscript o a pos'] b pos.line X.env=pure false›)(hw:‹swappedStores [.Subscript o a pos'] b X.env=pure none›)
  (h1:‹(assignEach [.Subscript o a pos'] X.env).map (·.2)=[assign (.Subscript o a pos') X.env]›)
  (ha:∀v,assign (.Subscript o a pos') X.env v=(do
   let g <- holding [v] (eval o X.env)
   let iv <- holding [v,g] (eval a X.env)
   standAt pos'
   holding [v,g,iv] (setItem g iv v)
   release [v,g,iv] []):=by intro _;rfl):QPS X K (.Assign [.Subscript o a pos'] b pos) (p7 tv (Ck (bX i) tk uc)) (Kv i qk qv) :=
 (DZ hv.h (zC ho q.h set_list ha) hs hw h1,Hr q.s hv.s)
end
variable{elts:List EQ}
section
variable{X:Cx}{K:BT}{a b:EQ}{ta:TE}{qa:QE}{pos p:Pos}
def Xd(qa:QE):QJ:=λq Q=>qa q λt=>match t with|.l xs=>Q (rB xs) q|_=>False
def Kj{x1}(hm:X.mg "enumerate"=Y)(ha:QPF X K a ta qa)(hg:Gl X "enumerate":=by exact U)(hs:‹AD X a›)(ah:‹AC X a []›)(hK:‹X.K=K›):
  QPJ X K (.Tuple elts x1 pos') (.Call (.Name "enumerate" p) [a] [] pos) (Cc K ϊ (bP ta f9)) (Xd qa):=(vS hK hg hm (by kernel_rfl) (bh ha.h dW ah) hs,λdl H₀ hs H σ q Q R (F0,P) hq k=>ha.s dl H σ q _ _ P.rd hq λv t F H' e1 r f n V=>by
 split at V
 ·have r1:=(P.evo e1).hold r λj u hj b hb z=>(P.bO hb).no (f b z)
  let(l1,g,G,U,U,h1,h2):=r.r.lst;exact(l1,U,(g,SqL.of h1),k _ _ _ H' q (F0,r1) qZ V)
 ·exact V.elim)
end
abbrev Way:=List (Sum Str Nat)
def putN(f:Str):List Str->List Str
 |[]=>[f]
 |g::r=>if g=f then g::r else g::putN f r
def gf{α:Type}(f:Str)(y:α):List Str->List α->List α
 |[],_=>[y]
 |g::r,x::ts=>if g=f then y::ts else x::gf f y r ts
 |_::_,[]=>[]
def T.sub:Way->T->Option T
 |[],x=>Z x
 |.inl f::p,.om _ _ ns ts=>match(ns.zip ts).lookup f with
  |some u=>T.sub p u
  |none=>Y
 |.inr m::p,.l ts=>match ts[m]? with
  |some u=>T.sub p u
  |none=>Y
 |.inr m::p,.lp _ ts=>match ts[m]? with
  |some u=>T.sub p u
  |none=>Y
 |_::_,_=>Y
def T.put(u:T):Way->T->T
 |[],_=>u
 |.inl f::p,.om a C ns ts=>match(ns.zip ts).lookup f with
  |some x=>.om a C ns (gf f (T.put u p x) ns ts)
  |none=>.om a C ns ts
 |.inr m::p,.l ts=>match ts[m]? with
  |some x=>.l (ts.set m (T.put u p x))
  |none=>.l ts
 |.inr m::p,.lp a ts=>match ts[m]? with
  |some x=>.lp a (ts.set m (T.put u p x))
  |none=>.lp a ts
 |_::_,x=>x
def VAt(H:Hp):Way->V->V->Prop
 |[],v,w=>v=w
 |.inl f::p,v,w=>∃a C dx fs x,v=.ref a/\H a=Z (.ins C dx fs)/\fs.lookup f=Z x/\VAt H p x w
 |.inr m::p,v,w=>∃a xs x,v=.ref a/\H a=Z (.lst xs)/\xs[m]?=Z x/\VAt H p x w
def VAt.uniq{p:Way}:∀{v w K:V},VAt H p v w->VAt H p v K->w=K:=by
 induction p with
 |nil=>exact λh h'=>h.symm.trans h'
 |cons s p Q =>
  intro v w K h h';cases s with
  |inl f =>
   let(a,C,dx,fs,x,e,h1,h2,h3):=h;let(a',C',aq,ak,x',P,z,q,g):=h';subst e;cases P;cases h1.symm.trans z;cases h2.symm.trans q;exact Q h3 g
  |inr m =>
   let(a,xs,x,e,h1,h2,h3):=h;let(a',ah,x',P,z,q,g):=h';subst e;cases P;cases h1.symm.trans z;cases h2.symm.trans q;exact Q h3 g
def VAt.snoc{s:Sum Str Nat}{p:Way}:∀{v w x:V},VAt H p v w->VAt H [s] w x->VAt H (p ++ [s]) v x:=by
 induction p with
 |nil=>intro v w x h h';cases h;exact h'
 |cons t p g =>
  intro v w x h h';cases t with
  |inl f=>let(a,C,dx,fs,x,e,h1,h2,h3):=h;exact(a,C,dx,fs,x,e,h1,h2,g h3 h')
  |inr m=>let(a,xs,x,e,h1,h2,h3):=h;exact(a,xs,x,e,h1,h2,g h3 h')
def T.Fo{f:Str}{p:Way}{y u:T}(h:T.sub (.inl f::p) y=Z u):∃a C ns ts x,y=.om a C ns ts/\(ns.zip ts).lookup f=Z x/\T.sub p x=Z u:=by
 cases y with
 |om a C ns ts =>
  unfold T.sub at h;cases e:(ns.zip ts).lookup f with
  |none=>rw[e]at h;cases h
  |some x=>rw[e]at h;exact(a,C,ns,ts,x,U,e,h)
 |_=>cases h
def T.Fm{m:Nat}{p:Way}{y u:T}(h:T.sub (.inr m::p) y=Z u):∃ts x,(y=.l ts\/∃a,y=.lp a ts)/\ts[m]?=Z x/\T.sub p x=Z u:=by
 cases y with
 |l ts =>
  unfold T.sub at h;cases e:ts[m]? with
  |none=>rw[e]at h;cases h
  |some x=>rw[e]at h;exact(ts,x,.inl U,e,h)
 |lp a ts =>
  unfold T.sub at h;cases e:ts[m]? with
  |none=>rw[e]at h;cases h
  |some x=>rw[e]at h;exact(ts,x,.inr (a,U),e,h)
 |_=>cases h
def T.sub_snoc{s:Sum Str Nat}{p:Way}:∀{t u x:T},T.sub p t=Z u->T.sub [s] u=Z x->T.sub (p ++ [s]) t=Z x:=by
 induction p with
 |nil=>intro t u x h h';cases h;exact h'
 |cons r p g =>
  intro t u x h h';cases r with
  |inl f =>
   let(a,C,ns,ts,y,U,e,h):=T.Fo h;show T.sub (.inl f ::(p ++ [s])) _=_;unfold T.sub;rw[e];exact g h h'
  |inr m =>
   obtain⟨ts,y,rfl |⟨_,rfl⟩,e,h⟩:=T.Fm h <;>
   ·show T.sub (.inr m ::(p ++ [s])) _=_;unfold T.sub;rw[e];exact g h h'
def Fd{f:Str}{v:V}:∀{ns:List Str}{vs:List V},ns.length=vs.length->fA f v (ns.zip vs)=(putN f ns).zip (gf f v ns vs):=by
 intro ns
 induction ns with
 |nil=>intro vs h;cases vs with|nil=>rfl|cons=>cases h
 |cons g r q =>
  intro vs h;cases vs with
  |nil=>cases h
  |cons x vs =>
   show fA f v ((g,x)::r.zip vs)=_;unfold fA putN gf
   split
   ·rfl
   ·rw[q (Nat.succ.inj h)];rfl
theorem zx{α:Type}{f:Str}{y:α}:∀{ns:List Str}{ts:List α},ns.length=ts.length->(putN f ns).length=(gf f y ns ts).length
 |[],[],_=>rfl
 |g::r,x::ts,h=>by
  unfold putN gf
  split
  ·exact h
  ·exact congrArg (· + 1) (zx (Nat.succ.inj h))
theorem Bn{f:Str}{v:V}:∀{ns:List Str}{vs:List V},(ns.zip vs).lookup f=Z v->putN f ns=ns/\(ns.length=vs.length->gf f v ns vs=vs)
 |[],_,h=>by cases h
 |g::r,[],h=>by cases h
 |g::r,x::vs,h=>by
  rw[show(g::r).zip (x::vs)=(g,x)::r.zip vs from U,v9]at h;unfold putN gf;by_cases e:g=f
  ·subst e;rw[beq_self_eq_true]at h;cases h;exact(if_pos U,λ_=>if_pos U)
  ·have q:=beq_eq_false_iff_ne.mpr λz=>e z.symm
   rw[q]at h;let(h1,h2):=Bn h;rw[if_neg e,if_neg e,h1];exact(U,λl=>by rw[h2 (Nat.succ.inj l)])
theorem yr{α β:Type}{f:Str}:∀{ns:List Str}{vs:List α}{ts:List β},vs.length=ts.length->((ns.zip ts).lookup f=Y ↔ (ns.zip vs).lookup f=Y)
 |[],_,_,_=>by simp
 |g::r,[],[],_=>by simp
 |g::r,x::vs,y::ts,h=>by
  rw[show(g::r).zip (x::vs)=(g,x)::r.zip vs from U,show(g::r).zip (y::ts)=(g,y)::r.zip ts from U,v9,v9]
  split
  ·simp
  ·exact yr (Nat.succ.inj h)
variable{a:J}
section
variable{K:BT}
theorem aA.fld{f:Str}{vs:List V}{ts:List T}{F:List J}(h:aA K dl H vs ts F):∀{ns:List Str}{c:T},(ns.zip ts).lookup f=Z c->∃w Fc G,(ns.zip vs).lookup f=Z w/\aI K dl H w c Fc/\F.Perm (Fc++G) /\
  ∀H' Q c' q,TF H H'->(∀b∈G,∀o,H b=Z o->H' b=Z o)->aI K dl H' Q c' q->∃F',aA K dl H' (gf f Q ns vs) (gf f c' ns ts) F'/\F'.Perm (q++G) :=
 h.ind (M:=λvs ts F=>∀{ns:List Str}{c:T},(ns.zip ts).lookup f=Z c->∃w Fc G,(ns.zip vs).lookup f=Z w/\aI K dl H w c Fc/\F.Perm (Fc++G) /\   ∀H' Q c' q,TF H H'->(∀b∈G,∀o,H b=Z o->H' b=Z o)->aI K dl H' Q c' q->∃F',aA K dl H' (gf f Q ns vs) (gf f c' ns ts) F'/\F'.Perm (q++G)) 
  (λ{ns c} e=>by cases ns <;> cases e) λv x vs ts F G hx hr ih ns c e=>by
  cases ns with
  |nil=>cases e
  |cons g r =>
   rw[show(g::r).zip (x::ts)=(g,x)::r.zip ts from U,v9]at e;by_cases eg:g=f
   ·subst eg;rw[beq_self_eq_true]at e;cases e;refine(v,F,G,?_,hx,.refl _,λH' Q c' q tf k h'=>(q++G,?_,.refl _))
    ·rw[show(g::r).zip (v::vs)=(g,v)::r.zip vs from U,v9,beq_self_eq_true]
    ·unfold gf;rw[if_pos U,if_pos rfl];exact .cons h' (hr.d9 tf (λ_ z=>z) k)
   ·have P:=beq_eq_false_iff_ne.mpr λz=>eg z.symm
    rw[P]at e;let(w,Fc,G1,h1,h2,h3,h4):=ih e;refine(w,Fc,F++G1,?_,h2,((h3.append_left F).trans (YE _ _ _)),λH' Q c' q tf k h'=>?_)
    ·rw[show(g::r).zip (v::vs)=(g,v)::r.zip vs from U,v9,P];exact h1
    ·let(F',q1,q2):=h4 H' Q c' q tf (λb P=>k b (mu _ P)) h'
     unfold gf;rw[if_neg eg,if_neg eg];exact(F++F',.cons (hx.d9 tf (λ_ z=>z) λb P=>k b (ot _ P)) q1,(q2.append_left F).trans (YE _ _ _))
theorem aA.EH{f:Str}{w:V}{c:T}{P:List J}(hw:aI K dl H w c P):∀{ns:List Str}{vs:List V}{ts:List T}{F:List J},aA K dl H vs ts F->ns.length=ts.length->(ns.zip ts).lookup f=Y->aA K dl H (gf f w ns vs) (gf f c ns ts) (F++(P ++ []))
 |[],_,_,_,.nil,_,_=>.cons (F:=P) hw .nil
 |[],_,_,_,.cons _ _,l,_=>nomatch l
 |g::r,_,_,_,.nil,l,_=>nomatch l
 |g::r,_,_,_,.cons (x:=x) (ts:=ts) hx hr,l,e=>by
  rw[show(g::r).zip (x::ts)=(g,x)::r.zip ts from U,v9]at e;by_cases q:g=f
  ·subst q;rw[beq_self_eq_true]at e;cases e
  ·have Q:=beq_eq_false_iff_ne.mpr λz=>q z.symm
   rw[Q]at e;unfold gf;rw[if_neg q,if_neg q,AI];exact .cons hx (aA.EH hw hr (Nat.succ.inj l) e)
theorem aA.itm{vs:List V}{ts:List T}{F:List J}(h:aA K dl H vs ts F):∀{i:Nat}{c:T},ts[i]?=Z c->∃w Q G,vs[i]?=Z w/\aI K dl H w c Q/\F.Perm (Q++G) /\
  ∀H' q P g,TF H H'->(∀b∈G,∀o,H b=Z o->H' b=Z o)->aI K dl H' q P g->∃F',aA K dl H' (vs.set i q) (ts.set i P) F'/\F'.Perm (g++G) :=
 h.ind (M:=λvs ts F=>∀{i:Nat}{c:T},ts[i]?=Z c->∃w Q G,vs[i]?=Z w/\aI K dl H w c Q/\F.Perm (Q++G) /\   ∀H' q P g,TF H H'->(∀b∈G,∀o,H b=Z o->H' b=Z o)->aI K dl H' q P g->∃F',aA K dl H' (vs.set i q) (ts.set i P) F'/\F'.Perm (g++G)) 
  (λ{i c} e=>nomatch e) λv x vs ts F G hx hr ih i c e=>by
  cases i with
  |zero =>
   cases e;exact(v,F,G,U,hx,.refl _,λH' q P g tf k h'=>(g++G,.cons h' (hr.d9 tf (λ_ z=>z) k),.refl _))
  |succ i =>
   let(w,Q,G1,h1,h2,h3,h4):=ih (by simpa using e)
   refine(w,Q,F++G1,by simpa using h1,h2,((h3.append_left F).trans (YE _ _ _)),λH' q P g tf k h'=>?_)
   let(F',q1,q2):=h4 H' q P g tf (λb hb=>k b (mu _ hb)) h'
   exact(F++F',.cons (hx.d9 tf (λ_ z=>z) λb hb=>k b (ot _ hb)) q1,(q2.append_left F).trans (YE _ _ _))
def pm2{b:J}{A ό C:List J}:(a::b ::(A++ό++C)).Perm (A++(a::b ::(ό++C))):=by
 rw[AI];exact(List.perm_middle.trans (List.perm_middle.cons _)).symm
def pm1{A ό C:List J}:(a ::(A++ό++C)).Perm (A++(a ::(ό++C))):=by
 rw[AI];exact List.perm_middle.symm
def Hv{α:Type}{xs:List α}{x:α}(h:xs[i]?=Z x):xs.set i x=xs:=by
 let(hl,U):=iZ.mp h;exact List.set_getElem_self hl
theorem aI.zip:∀(p:Way){v:V}{t u:T}{F:List J},aI K dl H v t F->T.sub p t=Z u->∃w z G,(∀H1:Hp,(∀b∈G,∀o,H b=Z o->H1 b=Z o)->VAt H1 p v w)/\aI K dl H w u z/\F.Perm (z++G) /\
  ∀H' u' g,TF H H'->(∀b∈G,∀o,H b=Z o->H' b=Z o)->aI K dl H' w u' g->∃F',aI K dl H' v (T.put u' p t) F'/\F'.Perm (g++G):=by
 intro p
 induction p with
 |nil =>
  intro v y u F h ex;cases ex;exact(v,F,[],λ_ _=>rfl,h,by rw[qp],λH' u' g _ _ h'=>(g,h',by rw[qp]))
 |cons s p ih =>
  intro v y u F h ex;cases s with
  |inl f =>
   let(a,C,ns,ts,c,U,ec,ex):=T.Fo ex;let(dx,vs,G0,U,U,h1,h2,h3,h4):=h.omm;let(w1,F1,Q,a1,a2,a3,a4):=h4.fld ec;let(w,z,G2,b1,b2,b3,b4):=ih a2 ex;refine(w,z,a::dx ::(G2++Q),λH1 k1=>(a,C,dx,_,w1,U,k1 a di _ h1,a1,b1 H1 λb q=>k1 b (aJ _ (aJ _ (ot _ q)))),b2,((a3.trans (b3.append_right Q)).cons dx |>.cons a).trans pm2,λH' u' g tf k h'=>?_)
   let(F',q1,q2):=b4 H' u' g tf (λb q=>k b (aJ _ (aJ _ (ot _ q)))) h'
   let(F2,q3,q4):=a4 H' w1 _ F' tf (λb q=>k b (aJ _ (aJ _ (mu _ q)))) q1
   let(s1,s2):=Bn a1;have hl:=h4.len;rw[s2 (by lia)]at q3
   refine(a::dx::F2,?_,((q4.trans (q2.append_right Q)).cons dx |>.cons a).trans pm2)
   unfold T.put;rw[ec];exact .om (k a di _ h1) (k dx (aJ _ di) _ h2) (h3.trans (h4.len.symm.trans q3.len)) q3
  |inr m =>
   let(ts,c,ey,ec,ex):=T.Fm ex;have go:∀{a vs G0},F=a::G0->v=.ref a->H a=Z (.lst vs)->aA K dl H vs ts G0->(∀{H' ah P F2},H' a=Z (.lst ah)->aA K dl H' ah P F2->aI K dl H' (.ref a) (match y with|.lp c0 _=>.lp c0 P|_=>.l P) (a::F2))->∃w z G,(∀H1:Hp,(∀b∈G,∀o,H b=Z o->H1 b=Z o)->VAt H1 (.inr m::p) v w)/\aI K dl H w u z/\F.Perm (z++G) /\
     ∀H' u' g,TF H H'->(∀b∈G,∀o,H b=Z o->H' b=Z o)->aI K dl H' w u' g->∃F',aI K dl H' v (T.put u' (.inr m::p) y) F'/\F'.Perm (g++G):=by
    intro a vs G0 e1 e2 h1 h4 back;subst e1 e2;let(w1,F1,Q,a1,a2,a3,a4):=h4.itm ec;let(w,z,G2,b1,b2,b3,b4):=ih a2 ex;refine(w,z,a ::(G2++Q),λH1 k1=>(a,_,w1,U,k1 a di _ h1,a1,b1 H1 λb q=>k1 b (aJ _ (ot _ q))),b2,((a3.trans (b3.append_right Q)).cons a).trans pm1,λH' u' g tf k h'=>?_)
    let(F',q1,q2):=b4 H' u' g tf (λb q=>k b (aJ _ (ot _ q))) h'
    let(F2,q3,q4):=a4 H' w1 _ F' tf (λb q=>k b (aJ _ (mu _ q))) q1
    rw[Hv a1]at q3;refine(a::F2,?_,((q4.trans (q2.append_right Q)).cons a).trans pm1);have bk:=back (k a di _ h1) q3;obtain rfl |⟨b,rfl⟩:=ey <;>
    ·unfold T.put;rw[ec];exact bk
   obtain rfl |⟨b,rfl⟩:=ey
   ·let(a,vs,G0,e1,e2,h1,h4):=h.lst;exact go e2 e1 h1 h4 λg1 g2=>.l g1 g2
   ·let(vs,G0,e1,e2,h1,h4):=h.lpp;exact go e2 e1 h1 h4 λg1 g2=>.lp g1 g2
end
variable{H':Hp}
def eM.tf{F:List J}(f:eM dl H F H')(th:∀b∈F,gH H b)(D:Dls dl H):TF H H':=by
 have ne:∀{b:J}{o:HO},H b=Z o->o.mt=ϊ->b ∉ F:=λ{b o} h K z=>by
  let(_,e,m):=th b z;rw[h]at e;cases e;rw[K]at m;cases m
 refine(λb vs h=>f.k b _ h (ne h U) (D.nd h (λ_ z=>nomatch z) λ_ z=>nomatch z) (λ_ z=>nomatch z),λb o u h=>f.k b _ h (ne h U) (D.nd h (λ_ z=>nomatch z) λ_ z=>nomatch z) (λ_ z=>nomatch z),
  λb φ h=>f.k b _ h (ne h U) (D.nd h (λ_ z=>nomatch z) λ_ z=>nomatch z) (λ_ z=>nomatch z),λb xs h=>?_,λb x h=>f.r b x h (ne h U))
 by_cases g:b∈F
 ·exact f.l b xs g h
 ·by_cases hn:Nd dl b
  ·exact(xs,f.k b _ h g hn (λ_ z=>nomatch z))
  ·obtain⟨p,hp,z⟩:∃p∈dl,¬(b≠p.1/\b≠p.2):=Classical.byContradiction λc=>hn λp hp=>Classical.byContradiction λz=>c (p,hp,z)
   let(s,n,ls,Q):=D p hp;let(s',V,ls',P):=f.d p hp;have h1:=en h Q.hd (λz=>nomatch z)
   have h2:=Classical.byContradiction λq=>z (h1,q)
   exact(_,by rw[h2];exact P.hl)
variable{G:List J}
section
variable{K:BT}{H₀:Hp}{hs:List (V×T)}{σ:St}{q:Sq}{F:Nat->List J}
def Rel.modZ{t u:T}{v w:V}{Fu:List J}{put:T->T}(r:Rel K dl H₀ hs H σ q F)(hi:q[i]?=Z (.o t))(hv:σ[i]?=Z (Z v))(h2:aI K dl H w u Fu)(h3:(F i).Perm (Fu++G))(h4:∀H' u' Q,TF H H'->(∀b∈G,∀o,H b=Z o->H' b=Z o)->aI K dl H' w u' Q->∃F',aI K dl H' v (put u') F'/\F'.Perm (Q++G)):Rp K dl H w u Fu/\Fu.Nodup /\
  ∀H' u' Q,eM dl H Fu H'->Rp K dl H' w u' Q->Q.Nodup->(∀b∈Q,b∈Fu\/H b=Y)->∃F',Rel K dl H₀ hs H' σ (q.set i (.o (put u'))) F':=by
 let(v',ah,rp):=r.g i _ t hi U;let(o1,o2,o3):=r.o i t hi;have nd:=(h3.nodup_iff.mp o1);let(n1,n2,n3):=ya.mp nd;have P:∀b,b∈Fu\/b∈G->b∈F i:=λb hb=>h3.mem_iff.mpr (lS.mpr hb)
 refine((h2,λb hb=>rp.n b (P b (.inl hb))),n1,λH' u' Q f r' n' hF=>?_)
 have kG:=λb hb o e=>f.k b o e (λz=>n3 b z b hb U) (rp.n b (P b (.inr hb))) (.of (r.bO (P b (.inr hb))) e)
 let(F',q1,q2):=h4 H' u' Q (f.tf (λb hb=>h2.there b hb) r.d) kG r'.r
 have f2:eM dl H (F i) H':=(λb o e n=>f.k b o e λz=>n (P b (.inl z)),λb x e n=>f.r b x e λz=>n (P b (.inl z)),λb xs hb e=>(by
  by_cases z:b∈Fu
  ·exact f.l b xs z e
  ·exact(xs,f.k b _ e z (rp.n b hb) λ_ z=>nomatch z)),f.d)
 refine(_,r.Wk hi hv f2 (q1,λb hb=>?_) (q2.nodup_iff.mpr (ya.mpr (n',n2,λx hx y hy e=>?_))) λb hb=>?_)
 ·obtain z|z:=lS.mp (q2.mem_iff.mp hb)
  ·exact r'.n b z
  ·exact rp.n b (P b (.inr z))
 ·subst e;obtain z|z:=hF x hx
  ·exact n3 x z x hy U
  ·exact(r.bO (P x (.inr hy))).no z
 ·obtain z|z:=lS.mp (q2.mem_iff.mp hb)
  ·obtain z|z:=hF b z
   ·exact .inl (P b (.inl z))
   ·exact .inr z
  ·exact .inl (P b (.inr z))
def Rel.mod{p:Way}{t u:T}(r:Rel K dl H₀ hs H σ q F)(hi:q[i]?=Z (.o t))(hu:T.sub p t=Z u):∃v w P,σ[i]?=Z (Z v)/\(∀H1,Evo dl H H1->VAt H1 p v w)/\Rp K dl H w u P/\P.Nodup /\
  ∀H' u' z,eM dl H P H'->Rp K dl H' w u' z->z.Nodup->(∀b∈z,b∈P\/H b=Y)->∃F',Rel K dl H₀ hs H' σ (q.set i (.o (T.put u' p t))) F':=by
 let(v,hv,rp):=r.g i _ t hi U;let(w,P,G,h1,h2,h3,h4):=rp.r.zip p hu;let(a,b,c):=r.modZ hi hv h2 h3 h4;have Q:∀b,b∈G->b∈F i:=λb V=>h3.mem_iff.mpr (mu _ V)
 exact(v,w,P,hv,λH1 e=>h1 H1 λb V o eo=>e.k b o eo (rp.n b (Q b V)) (.of (r.bO (Q b V)) eo),a,b,c)
def RdR.part{p:Way}{t u:T}{v w:V}(rd:RdR K dl H σ q)(hj:q[j]?=Z (.o t))(hv:σ[j]?=Z (Z v))(hu:T.sub p t=Z u)(hw:VAt H p v w):∃P,Rp K dl H w u P:=by
 let(v',F,h1,Q):=rd.g j _ t hj U;rw[hv]at h1;cases h1;let(w',P,G,h1,h2,h3,_):=Q.r.zip p hu;cases hw.uniq (h1 H λ_ _ _ z=>z)
 exact(P,h2,λb hb=>Q.n b (h3.mem_iff.mpr (ot _ hb)))
end
abbrev QL:=Sq->(Way->T->Prop)->Prop
def UK(K:BT)(j:Nat)(te:TE)(ql:QL):Prop:=∀(dl:Dl)(H:Hp)(σ:St)(q:Sq)(P:Way->T->Prop)(R:V->Hp->Prop),RdR K dl H σ q->ql q P ->
 (∀t v p u w,q[j]?=Z (.o t)->σ[j]?=Z (Z v)->T.sub p t=Z u->VAt H p v w->P p u->R w H)->te σ H R
structure QPL(X:Cx)(K:BT)(j:Nat)(e:EQ)(te:TE)(ql:QL):Prop where
 h:PE X e te
 s:UK K j te ql
section
variable{X:Cx}{K:BT}{a b e o:EQ}{te tb:TE}{ql:QL}{pos:Pos}{f:Str}{C:J}
def PY(j:Nat):QL:=λq P=>match q[j]? with
 |some (.o t)=>P [] t
 |_=>False
def aP{pos:Pos}(V:‹X.N[j]?=Z x›)(hv:Vis X.env.scope x:=by first|exact Or.inl rfl|exact Or.inr (Or.inl U)|exact Or.inr (Or.inr U))(hd:AS x:=by decide)
  (Q:(x ==("__classdict__":Str))=false:=by decide):QPL X K j (.Name x pos) (bX j) (PY j):=(zD V hv hd Q,λdl H σ q P R rd z k=>by
 unfold PY at z
 split at z
 ·rename_i t e;let(v,F,h1,h2):=rd.g j _ t e U;exact(v,h1,k t v [] t v e h1 U U z)
 ·exact z.elim)
def Vv(C:J)(f:Str)(ql:QL):QL:=λq P=>ql q λp u=>match u with
 |.om _ C' ns ts=>C'=C/\∃x,(ns.zip ts).lookup f=Z x/\P (p ++ [.inl f]) x
 |_=>False
def mU(hc:Cls K C)(hn:bU K C f)(he:QPL X K j e te ql)(hb:‹attributeBase e f X.env (eval e X.env)=eval e X.env›)(hK:‹X.K=K›):QPL X K j (.Attribute e f pos) (Ru K te f) (Vv C f ql) :=
 (by subst hK;exact Lb he.h hb,λdl H σ q P R rd hq k=>he.s dl H σ q _ _ rd hq λt v p u w V hv hs hw g=>by
  split at g
  ·rename_i x C' ns ts;let(U,y,Q,g):=g;let(Fu,rp):=rd.part V hv hs hw;let(dx,vs,G,U,U,h1,h2,h3,h4):=rp.r.omm;let(z,_,_,l1,_):=h4.fld Q;exact(x,_,dx,_,z,U,h1,hc,hn,l1,k t v _ y z V hv (T.sub_snoc hs (by unfold T.sub;rw[Q];rfl)) (hw.snoc (show VAt H [.inl f] (.ref x) z from(x,_,dx,_,z,U,h1,l1,U))) g)
  ·exact g.elim)
def XI(n:Int)(ql:QL):QL:=λq P=>ql q λp u=>match u with
 |.l xs=>∃m x,ixN xs.length n=Z m/\xs[m]?=Z x/\P (p ++ [.inr m]) x
 |_=>False
def Vt{n:Int}(he:QPL X K j e te ql)(hb:PE X b tb)(hn:∀σ H R,R (.int n) H->tb σ H R)(hs:rX b:=by intro _ _;rfl)(hK:‹X.K=K›):QPL X K j (.Subscript e b pos) (tOp (rIx K) te tb) (XI n ql) :=
 (by subst hK;exact F6 z6 he.h hb hs,λdl H σ q P R rd hq k=>he.s dl H σ q _ _ rd hq λt v p u w Q hv hs hw g=>by
  split at g
  ·let(m,x,hm,hx,g):=g;let(Fu,V):=rd.part Q hv hs hw;let(a,vs,G,U,U,h1,h2):=V.r.lst;let(z,_,_,l1,_):=h2.itm hx;refine hn _ _ _ (.inl (a,vs,n,z,U,U,SqL.of h1,pR (by rw[h2.len];exact hm) l1,k t v _ x z Q hv (T.sub_snoc hs (by unfold T.sub;rw[hx];rfl)) (hw.snoc (show VAt H [.inr m] (.ref a) z from(a,_,z,U,h1,l1,U))) g))
  ·exact g.elim)
def XN(ql:QL):QE:=λq Q=>ql q λ_ u=>Q u
def gb(he:QPL X K j e te ql):QPE X K e te (XN ql):=(he.h,λdl H σ q Q R rd P k=>he.s dl H σ q _ _ rd P λt v p u w V hv hs hw z=>by
 let(Fu,g):=rd.part V hv hs hw;exact k w u Fu H (.refl rd.d) g z)
end
def Dp{x b:J}{o:HO}{S:List J}(hx:x ∉ S)(g:b∈S):upd H x o b=H b:=aw λz=>hx (by rw[<- z];exact g)
def Jp{x b:J}{o:HO}{S:List J}(hx:x∈S)(g:b ∉ S):upd H x o b=H b:=aw λz=>g (by rw[z];exact hx)
variable{H1:Hp}
def eM.ze{g:List J}{x:J}{o:HO}(e:Evo dl H H1)(hx:x∈g)(hn:∀b∈g,Nd dl b)(hl:∀xs,H x=Z (.lst xs)->∃ys,o=.lst ys):eM dl H g (upd H1 x o) where
 k:=λb ob h nb n q=>by rw[Jp hx nb];exact e.k b ob h n q
 r:=λb y h nb=>by rw[Jp hx nb];exact e.r b y h
 l:=λb xs K h=>by
  by_cases z:b=x
  ·subst z;let(ys,U):=hl xs h;exact(ys,aC)
  ·exact(xs,by rw[aw z];exact e.k b _ h (hn b K) λ_ z=>nomatch z)
 d:=λp hp=>(e.d p hp).other (hn x hx p hp).1 (hn x hx p hp).2
section
variable{K:BT}
theorem Rp.fA{f:Str}{x C dx:J}{ns:List Str}{vs:List V}{ts:List T}{G Fy:List J}{y:V}{ty:T}{w:V}(hu:Rp K dl H w (.om x C ns ts) (x::dx::G))(e:Evo dl H H1)(D:Dls dl H)(q:H1 x=Z (.ins C dx (ns.zip vs)))(hy:Rp K dl H1 y ty Fy)(nu:(x::dx::G).Nodup)(ny:Fy.Nodup)(fy:∀b∈Fy,H b=Y)(hv:vs.length=ns.length):
  ∃ah,Rp K dl (upd H1 x (.ins C dx (L2.fA f y (ns.zip vs)))) w (.om x C (putN f ns) (gf f ty ns ts)) ah/\ah.Nodup/\∀b∈ah,b∈x::dx::G\/H b=none:=by
 have av:=hu.evo D e;let(aL,aG,G',U,eG,h1,h2,h3,h4):=av.r.omm;injection eG with _ eG
 injection eG with e1 eG
 subst e1 eG;rw[q]at h1;injection h1 with h1
 injection h1 with _ _ h1
 have aD:=h4.len;obtain rfl:=zip_inj hv (aD.trans h3.symm) h1;have ak:x≠dx:=λz=>(xh.mp nu).1 (by rw[z];exact di)
 have Q:=λz=>(xh.mp nu).1 (aJ _ z)
 have P:TF H1 (upd H1 x (.ins C dx (L2.fA f y (ns.zip vs)))):=eM.tf (eM.ze (.refl e.d) (di) (λb g=>by rw[aB.mp g];exact hu.n x di) (λxs h=>by rw[h]at q;cases q)) (λb g=>by rw[aB.mp g];exact(_,q,U)) e.d
 have th:=λb g=>hu.r.there b g
 have yx:=λb g z=>(th b z).no (fy b g)
 have ky:∀b∈Fy,∀o,H1 b=Z o->upd H1 x (.ins C dx (L2.fA f y (ns.zip vs))) b=Z o:=λb g o h=>by
  rw[aw λz=>yx b g (by rw[z];exact di)];exact h
 have ry:=hy.r.d9 P (λ_ z=>z) ky
 have hd2:upd H1 x (.ins C dx (L2.fA f y (ns.zip vs))) dx=Z (.own x):=by rw[aw ak.symm];exact h2
 have aq:upd H1 x (.ins C dx (L2.fA f y (ns.zip vs))) x=Z (.ins C dx ((putN f ns).zip (gf f y ns vs))):=by rw[aC,Fd (by lia)]
 obtain⟨F',q1,q2,q3⟩:∃F',aA K dl (upd H1 x (.ins C dx (L2.fA f y (ns.zip vs)))) (gf f y ns vs) (gf f ty ns ts) F'/\F'.Nodup/\∀b∈F',b∈G\/b∈Fy:=by
  have nG:=(xh.mp (xh.mp nu).2).2;cases hl:(ns.zip ts).lookup f with
  |none =>
   refine(G++(Fy ++ []),aA.EH ry (h4.d9 P (λ_ z=>z) λb g o h=>by rw[Dp Q g];exact h) h3 hl,?_,λb g=>?_)
   ·rw[qp];exact ya.mpr (nG,ny,λa ha b g z=>yx b g (by rw[<- z];exact aJ _ (aJ _ ha)))
   ·rw[qp]at g;exact lS.mp g
  |some c =>
   let(w1,Fc,G1,_,_,a3,a4):=h4.fld hl;let(F',q1,q2):=a4 _ y ty Fy P (λb g o h=>by rw[Dp Q (a3.mem_iff.mpr (mu _ g))];exact h) ry
   have n1:=(ya.mp (a3.nodup_iff.mp nG)).2.1;refine(F',q1,q2.nodup_iff.mpr (ya.mpr (ny,n1,λa ha b g z=>yx a ha (by rw[z];exact aJ _ (aJ _ (a3.mem_iff.mpr (mu _ g)))))),λb g=>?_)
   obtain z|z:=lS.mp (q2.mem_iff.mp g)
   ·exact .inr z
   ·exact .inl (a3.mem_iff.mpr (mu _ z))
 have out:∀b∈F',b≠x/\b≠dx:=λb g=>by
  obtain z|z:=q3 b g
  ·exact(λe=>Q (e▸z),λe=>(xh.mp (xh.mp nu).2).1 (e▸z))
  ·exact(λe=>yx b z (by rw[e];exact di),λe=>yx b z (by rw[e];exact aJ _ di))
 refine(x::dx::F',(.om aq hd2 (zx (by omega)) q1,λb g=>?_),xh.mpr (λz=>?_,xh.mpr (λz=>(out dx z).2 U,q2)),λb g=>?_)
 ·obtain z|g:=fH.mp g
  ·rw[z];exact hu.n x di
  ·obtain z|g:=fH.mp g
   ·rw[z];exact hu.n dx (aJ _ di)
   ·obtain z|z:=q3 b g
    ·exact hu.n b (aJ _ (aJ _ z))
    ·exact hy.n b z
 ·obtain z|z:=fH.mp z
  ·exact ak z
  ·exact(out x z).1 U
 ·obtain z|g:=fH.mp g
  ·rw[z];exact .inl di
  ·obtain z|g:=fH.mp g
   ·rw[z];exact .inl (aJ _ di)
   ·obtain z|z:=q3 b g
    ·exact .inl (aJ _ (aJ _ z))
    ·exact .inr (fy b z)
end
section
variable{X:Cx}{K:BT}{b o:EQ}{te tv:TE}{qv:QE}{ql:QL}{pos pos':Pos}{f:Str}{C:J}
def VD(j:Nat)(C:J)(f:Str)(ql:QL)(qv:QE):QS:=λD q=>qv q λy=>ql q λp u=>match u with
 |.om x C' ns ts=>C'=C/\ns.length<1000/\Ex3 (λt=>q[j]?=Z (.o t)) (λt=>(q.set j (.o (T.put (.om x C (putN f ns) (gf f y ns ts)) p t)))) D.nx
 |_=>False
def nO(hc:Cls K C)(hn:bU K C f)(he:QPL X K j o te ql)(hv:QPF X K b tv qv)(hs:‹swapsWith b (Z (.Attribute o f pos')) pos.line X.env=pure false›)(hK:‹X.K=K›):
  QPS X K (.Assign [.Attribute o f pos'] b pos) (ND K te tv f) (VD j C f ql qv):=(by subst hK;exact DX he.h hv.h hs,λdl H₀ hs H σ q Dq D (F,r) hq E=>by
 refine hv.s dl H σ q _ _ r.rd hq λy ty Fy H1 e1 r1 f1 n1 g=>(he.s dl H1 σ q _ _ (r.rd.evo e1) g λt v p u w hj ak hs hw g=>?_)
 split at g
 ·rename_i x C' ns ts;let(U,hl,t',V,g):=g;rw[hj]at V;cases V;let(v2,w2,Fu,Q,ah,ru,nu,md):=r.mod hj hs;rw[ak]at Q;cases Q;cases hw.uniq (ah H1 e1);let(dx,vs,G,U,U,h1,h2,h3,h4):=ru.r.omm;have av:=h4.len;have P:=e1.k x _ h1 (ru.n x di) (λ_ z=>nomatch z)
  let(aq,q1,q2,q3):=Rp.fA ru e1 r.d P r1 nu n1 f1 (by lia)
  let(F',r'):=md _ _ aq (eM.ze e1 di ru.n λxs h=>by rw[h]at h1;cases h1) q1 q2 q3
  exact(x,_,dx,_,U,P,hc,hn,by rw[Zw];lia,E.nx _ σ _ (_,r') g)
 ·exact g.elim)
end
variable{l:J}
section
variable{K:BT}
def Rp.putL{w:V}{xs ys:List T}{ws:List V}{q:List J}(P:Rp K dl H w (.l xs) (l::G))(D:Dls dl H)(nu:(l::G).Nodup)(e:Evo dl H H1)(rs:aA K dl H1 ws ys q)(nG:∀b∈q,Nd dl b)(hn:q.Nodup)(hG:∀b∈q,b∈G\/H b=Y):
  Rp K dl (upd H1 l (.lst ws)) w (.l ys) (l::q)/\(l::q).Nodup/\(∀b∈l::q,b∈l::G\/H b=Y)/\eM dl H (l::G) (upd H1 l (.lst ws)):=by
 let(l',vs,G0,U,eG,h1,h2):=P.r.lst;injection eG with e1 eG
 subst e1 eG;have lG:l ∉ q:=λz=>by
  obtain z|z:=hG l z
  ·exact(xh.mp nu).1 z
  ·rw[h1]at z;cases z
 have ah:=e.k l _ h1 (P.n l di) (λ_ z=>nomatch z)
 have Q:=eM.tf (eM.ze (.refl e.d) (di) (λb g=>by rw[aB.mp g];exact P.n l di) (λxs _=>(ws,U))) (λb g=>by rw[aB.mp g];exact(_,ah,U)) e.d
 refine((.l aC (rs.d9 Q (λ_ z=>z) λb g o h=>by rw[Dp lG g];exact h),λb g=>?_),xh.mpr (lG,hn),λb g=>?_,eM.ze e di P.n λxs _=>(ws,U))
 ·obtain z|z:=fH.mp g
  ·rw[z];exact P.n l di
  ·exact nG b z
 ·obtain z|z:=fH.mp g
  ·rw[z];exact .inl di
  ·exact(hG b z).imp (aJ _) id
end
section
variable{X:Cx}{K:BT}{a b e o:EQ}{te tv:TE}{qv:QE}{ql:QL}{pos apos a7 gD Ju:Pos}{f:Str}{C:J}
def VQ(j:Nat)(C:J)(f:Str)(ql:QL)(qv:QE):QS:=λD q=>ql q λp u=>match u with
 |.om x C' ns ts=>C'=C/\ns.length<1000/\∃n,(ns.zip ts).lookup f=Z (.i n)/\qv q λy=>match y with
  |.i m=>Ex3 (λt=>q[j]?=Z (.o t)) (λt=>(q.set j (.o (T.put (.om x C (putN f ns) (gf f (.i (n+m)) ns ts)) p t)))) D.nx
  |_=>False
 |_=>False
def NU(hc:Cls K C)(hn:bU K C f)(aq:UN X .Add RO)(he:QPL X K j o te ql)(hv:QPE X K b tv qv)(hK:‹X.K=K›):
  QPS X K (.AugAssign (.Attribute o f Ju) .Add b pos) (FK K te tv RO f) (VQ j C f ql qv):=(by subst hK;exact HG he.h hv.h aq,λdl H₀ hs H σ q Dq D (F,r) hq E=>by
 refine he.s dl H σ q _ _ r.rd hq λt v p u w hj ak hs hw g=>?_
 split at g
 ·rename_i x C' ns ts;let(U,hl,n,av,g):=g;let(v2,w2,Fu,Q,ah,ru,nu,md):=r.mod hj hs;rw[ak]at Q;cases Q;cases hw.uniq (ah H (.refl r.d));let(dx,vs,G,U,U,h1,h2,h3,h4):=ru.r.omm;let(w1,_,_,l1,l2,_):=h4.fld av;let(U,_):=l2.int;refine(x,_,dx,_,_,U,h1,hc,hn,l1,hv.s dl H σ q _ _ r.rd g λy ty Fy H1 e1 r1 g=>?_)
  split at g
  ·rename_i m;let(t',V,g):=g;rw[hj]at V;cases V;let(U,U):=r1.r.int;have aG:=h4.len;have P:=e1.k x _ h1 (ru.n x di) (λ_ z=>nomatch z)
   let(aD,q1,q2,q3):=Rp.fA ru e1 r.d P (.i _,λ_ z=>nomatch z) nu mE (λ_ z=>nomatch z) (by lia)
   let(F',r'):=md _ _ aD (eM.ze e1 di ru.n λxs h=>by rw[h]at h1;cases h1) q1 q2 q3
   exact(n,m,U,U,dx,_,P,by rw[Zw];lia,E.nx _ σ _ (_,r') g)
  ·exact g.elim
 ·exact g.elim)
def VR(j:Nat)(ql:QL)(qv:QE):QS:=λD q=>ql q λp u=>match u with
 |.l xs=>xs.length<px/\qv q λy=>Ex3 (λt=>q[j]?=Z (.o t)) (λt=>(q.set j (.o (T.put (.l (xs ++ [y])) p t)))) D.nx
 |_=>False
def NV(he:QPL X K j o te ql)(hv:QPF X K e tv qv)(hK:‹X.K=K›)(eC:‹attributeBase o "append" X.env (eval o X.env)=eval o X.env›)
  (lJ:‹At X a7 [e]›)
  (eB:‹(apos.endLine==a7.line)=true›) (hs:‹AC X e []›) (d6:‹(backTo a7 (fx [] X.env)).any (·.1)=false›)
  (aD:‹swapsWith (.Call (.Attribute o "append" apos) [e] [] a7) Y gD.line X.env=pure false›):
  QPS X K (.Expr (.Call (.Attribute o "append" apos) [e] [] a7) gD) (mG (tBM K "list" k8 te (bP tv f9))) (VR j ql qv) :=
 (jG (by subst hK;exact Bs PySem.F.plainAttrs_list PySem.F.slot_list_append PySem.F.type_list_append yq he.h (bh hv.h dW hs) eC lJ eB hs d6) aD,λdl H₀ hs H σ q Dq D (F,r) hq E=>by
 refine he.s dl H σ q _ _ r.rd hq λt v p u w hj av hs hw g=>?_
 split at g
 ·let(hl,g):=g;let(v2,w2,Fu,Q,aq,ru,nu,md):=r.mod hj hs;rw[av]at Q;cases Q;cases hw.uniq (aq H (.refl r.d));let(l,vs,G,U,U,h1,h2):=ru.r.lst;refine(.inl (U,vs,SqL.of h1),hv.s dl H σ q _ _ r.rd g λy ty Fy H1 e1 r1 f1 n1 g=>?_)
  let(t',V,g):=g;rw[hj]at V;cases V;have ak:=ru.evo r.d e1;let(l',aL,G',el,eG,ah,aG):=ak.r.lst;cases eG;have e0:=e1.k l _ h1 (ru.n l di) (λ_ z=>nomatch z)
  rw[e0]at ah;cases ah;let(q1,q2,q3,q4):=Rp.putL ru r.d nu e1 (aG.append (.cons r1.r .nil)) (λb P=>by
   rw[qp]at P;obtain z|z:=lS.mp P
   ·exact ru.n b (aJ _ z)
   ·exact r1.n b z) (by
   rw[qp];exact ya.mpr ((xh.mp nu).2,n1,λa ha b P z=>(ru.r.there a (aJ _ ha)).no (f1 a (by rw[z];exact P)))) (λb P=>by
   rw[qp]at P;obtain z|z:=lS.mp P
   ·exact .inl z
   ·exact .inr (f1 b z))
  let(F',r'):=md _ _ _ q4 q1 q2 q3;exact(l,_,y,U,U,e0,by rw[h2.len];exact hl,E.nx _ σ _ (_,r') g)
 ·exact g.elim)
end
def eM.pre{F:List J}(e:Evo dl H H1)(f:eM dl H1 F H')(hn:∀b∈F,Nd dl b):eM dl H F H' where
 k:=λb o h nb n g=>f.k b o (e.k b o h n g) nb n g
 r:=λb x h nb=>let(y,P,V):=e.r b x h;let(z,K,Q):=f.r b y V nb;(z,Y2 K P,Q)
 l:=λb xs q h=>f.l b xs q (e.k b _ h (hn b q) λ_ z=>nomatch z)
 d:=f.d
variable{n:Nat}{H₀:Hp}{q:Sq}
section
variable{X:Cx}{K:BT}{k:Nat}{b e o:EQ}{es:List EQ}{to:TE}{qo:QE}{tl:TA}{qa:QA}{ql:QL}{pos pos' apos gD:Pos}{m:Str}{C f:J}{prs:List Str}{ps:PSp}{pl:uY}
def Kx(C:J)(m:Str)(ps:PSp)(qo:QE)(qa:QA):QE:=λq Q=>qo q λt=>match t with
 |.om x C' ns ts=>C'=C/\(ns.zip ts).lookup m=Y/\qa q λus=>ps (.om x C' ns ts::us) Q
 |_=>False
def Hs(ho:jz K to qo)(ha:Ay K n tl qa):kN K (t8 C m (spQ K ps) [] E0 to tl) (Kx C m ps qo qa):=λdl H σ q Q R rd hq kk=>ho dl H σ q _ _ rd hq λw t Fu H1 V r1 g=>by
 split at g
 ·rename_i x C' ns ts;let(U,hl,g):=g;let(dx,vs,G,U,U,h1,h2,h3,h4):=r1.r.omm;refine(x,dx,_,U,h1,(yr h4.len).mp hl,ha dl H1 σ q _ _ (rd.evo V) g λws us Fa H2 P r2 _ g=>?_)
  rw[qp];have z:=r1.evo V.d P;refine(dl,_,_,_,P.d,(.cons z.r r2.r,λb hb=>(lS.mp hb).elim (z.n b) (r2.n b)),g,λv t F' H' e3 r3 f3 n3 g=>kk v t F' H' ((V.trans P).trans e3) r3 (λb hb=>(V.trans P).free (f3 b hb)) n3 g)
 ·exact g.elim
def vD:Ay K 0 f9 (λ_ Q=>Q []):=λdl H σ q Q R rd P g=>g [] [] [] H (.refl rd.d) (.nil,λ_ z=>nomatch z) U P
def eO(P:Cls K C)(hm:Meth K C m f)(G:aS X.prog X.w X.K X.mg X.base CX0 k f fd prs (spQ K ps))(hr:bS k X.A)(V:Binds K fd prs [])(ho:QPE X K o to qo)(hK:‹X.K=K›)
  {g:Sem Bool} (z:‹eval (.Call (.Attribute o m apos) [] [] pos) X.env=(do
   let q <- eval o X.env
   standAt apos.atName
   let(f,first) <- holding [q] (getMethod q m g)
   callWith pos f first (backTo pos (fx [] X.env)) (backToKw pos (keywordEach [] X.env)))›):
  QPF X K (.Call (.Attribute o m apos) [] [] pos) (t8 C m (spQ K ps) [] E0 to f9) (Kx C m ps qo λ_ Q=>Q []):=(by subst hK;exact vT ho.h P hm G hr V .nil ud z,Hs ho.s vD)
def DS(j:Nat)(C:J)(m:Str)(pl:uY)(ql:QL)(qa:QA)(q:Sq)(R:T->Sq->Prop):Prop:=ql q λp u=>match u with
 |.om x C' ns ts=>C'=C/\(ns.zip ts).lookup m=Y/\qa q λus=>T.ims us=O/\pl (.om x C' ns ts::us) λr u'=>u'.adr=Z x/\r.im=O/\Ex3 (λt=>q[j]?=Z (.o t)) (λt=>q.set j (.o (T.put u' p t))) (R r)
 |_=>False
def yi{hs:List (V×T)}{σ:St}{R:T->Sq->Prop}{Q:VK}(ho:UK K j to ql)(ha:Ay K n tl qa)(hr:cJ K dl H₀ hs H σ q)(hq:DS j C m pl ql qa q R)
  (kk:∀v r q' H',cJ K dl H₀ hs H' σ q'->Rp K dl H' v r []->R r q'->Q v H'):t8 C m (spL K 0 pl) [] E0 to tl σ H Q:=by
 let(F,r):=hr;refine ho dl H σ q _ _ r.rd hq λt v p u w hj hv av hw g=>?_
 split at g
 ·rename_i x C' ns ts;let(U,hl,g):=g;let(v2,w2,Fu,P,aq,ru,nu,md):=r.mod hj av;rw[hv]at P;cases P;cases hw.uniq (aq H (.refl r.d));let(dx,vs,G,U,eF,h1,h2,h3,h4):=ru.r.omm;refine(x,dx,_,U,h1,(yr h4.len).mp hl,ha dl H σ q _ _ r.rd g λws us Fa H2 e2 r2 _ g=>?_)
  let(aD,g):=g;rw[qp];refine(dl,_,.ref x,.om x C' ns ts,Fu,_,e2.d,by rw[mD,mD,r2.r.len],U,U,ru.evo r.d e2,nu,.im λi v t ne a1 a2=>?_,g,λv rr Fr t' F' H' bB ak n' aG rv _ _ _ g=>?_)
  ·cases i with
   |zero=>exact absurd U ne
   |succ i=>exact(r2.r.im1 aD i v t (by simpa using a1) (by simpa using a2),λ_ z=>nomatch z)
  ·let(_,ri,t0,ah,g):=g;rw[hj]at ah;cases ah;let(F2,r'):=md H' t' F' (bB.pre e2 ru.n) ak n' λb hb=>(aG b hb).imp id e2.free
   obtain rfl:=rv.r.im ri;exact kk v rr _ H' (F2,r') rv g
 ·exact g.elim
def Kf(hc:Cls K C)(hm:Meth K C m f)(G:aS X.prog X.w X.K X.mg X.base CX0 k f fd prs (spL K 0 pl))(hr:bS k X.A)(hb:Binds K fd prs [])(ho:QPL X K j o to ql)(ha:QPA X K (e::es) tl qa)(hK:‹X.K=K›)
  {g:Sem Bool} (z:‹AC X e es›) (P:‹AM X pos es›)
  (ht:‹eval (.Call (.Attribute o m apos) (e::es) [] pos) X.env=(do
   let Q <- eval o X.env
   standAt apos.atName
   let(f,first) <- holding [Q] (getMethod Q m g)
   callWith pos f first (backTo pos (fx (e::es) X.env)) (backToKw pos (keywordEach [] X.env)))›) (hs:‹swapsWith (.Call (.Attribute o m apos) (e::es) [] pos) Y gD.line X.env=pure false›):
  QPS X K (.Expr (.Call (.Attribute o m apos) (e::es) [] pos) gD) (mG (t8 C m (spL K 0 pl) [] E0 to tl)) (λD q=>DS j C m pl ql qa q λ_ q'=>D.nx q') :=
 (jG (by subst hK;exact Ox ho.h hc hm G hr hb .nil ud ha.h z P ht) hs,λdl H₀ hs H σ q Dq D r hq E=>yi ho.s ha.s r hq λv rr q' H' r' _ V=>E.nx H' σ q' r' V)
def aA.each{vs:List V}{ts:List T}{F:List J}(h:aA K dl H vs ts F):∃G:Nat->List J,(∀i v t,vs[i]?=Z v->ts[i]?=Z t->aI K dl H v t (G i)/\∀b∈G i,b∈F)/\∀i,ts.length<=i->G i=[] :=
 h.ind (λ_=>[],λi v t h=>by simp at h,λ_ _=>rfl) λv x vs ts z P r _ q=>by
  let(G,g1,g2):=q;refine(λi=>match i with | 0=>z|i+1=>G i,λi w t h1 h2=>?_,λi hi=>?_)
  ·cases i with
   |zero=>cases h1;cases h2;exact(r,λb g=>ot _ g)
   |succ i=>exact((g1 i w t (by simpa using h1) (by simpa using h2)).1,λb g=>mu _ ((g1 i w t (by simpa using h1) (by simpa using h2)).2 b g))
  ·cases i with
   |zero=>simp at hi
   |succ i=>exact g2 i (by simpa using hi)
def Ky(C:J)(pl:uY)(qa:QA):QE:=λq Q=>qa q λus=>∀x,pl (.om x C [] []::us) λr u'=>r=.n/\u'.adr=Z x/\Q u'
def Ht(ha:Ay K n tl qa):kN K (Fl C (spL K 0 pl) [] E0 tl) (Ky C pl qa):=λdl H σ q Q R rd hq kk=>ha dl H σ q _ _ rd hq λws us Fa H1 g r1 _ hz=>by
 intro x dx nx P ne;rw[qp];have e2:Evo dl H1 (upd (upd H1 dx (.own x)) x (.ins C dx [])):=((Evo.refl g.d).new P).new (by rw[aw ne.symm];exact nx)
 have r2:=r1.evo g.d e2;have ro:Rp K dl (upd (upd H1 dx (.own x)) x (.ins C dx [])) (.ref x) (.om x C [] []) [x,dx]:=(.om aC (by rw[aw ne,aC]) U .nil,λb V=>by
  obtain z|z:=fH.mp V
  ·rw[z];exact g.d.nd0 nx
  ·rw[aB.mp z];exact g.d.nd0 P)
 refine(dl,_,.ref x,.om x C [] [],[x,dx],_,e2.d,by rw[mD,mD,r2.r.len],U,U,ro,by simp[ne.symm],?_,hz x,λv rr Fr t' F' H' bB ah n' ak rv _ _ _ hz=>?_)
 ·let(G,g1,g2):=r1.r.each;refine(λi=>match i with | 0=>[]|i+1=>G i,λi v t hi a1 a2=>?_,λi hi=>?_)
  ·cases i with
   |zero=>exact absurd U hi
   |succ i =>
    let(p1,p2):=g1 i v t (by simpa using a1) (by simpa using a2)
    have rp:Rp K dl H1 v t (G i):=(p1,λb V=>r1.n b (p2 b V))
    refine(rp.evo g.d e2,λb V z=>?_)
    have th:=p1.there b V;obtain z|z:=fH.mp z
    ·rw[z]at th;exact th.no nx
    ·rw[aB.mp z]at th;exact th.no P
  ·cases i with
   |zero=>rfl
   |succ i=>exact g2 i (by simpa using hi)
 ·let(U,_,hz):=hz;let(U,_):=rv.r.non;have out:∀{b:J}{o:HO},H b=Z o->b ∉ [x,dx]:=λ{b o} h z=>by
   obtain z|z:=fH.mp z
   ·rw[z,g.free nx]at h;cases h
   ·rw[aB.mp z,g.free P]at h;cases h
  have ev:Evo dl H H':=(λb o h n nr=>bB.k b o (e2.k b o (g.k b o h n nr) n nr) (out h) n nr,bB.d,λb y h=>let(y1,l1,h1):=(g.trans e2).r b y h;let(y2,l2,h2):=bB.r b y1 h1 (out h);(y2,Y2 l2 l1,h2))
  refine(U,kk _ t' F' H' ev ah (λb V=>?_) n' hz)
  obtain z|z:=ak b V
  ·obtain z|z:=fH.mp z
   ·rw[z];exact g.free nx
   ·rw[aB.mp z];exact g.free P
  ·exact(g.trans e2).free z
def Kq(M:Mk K C f)(G:aS X.prog X.w X.K X.mg X.base CX0 k f fd prs (spL K 0 pl))(hr:bS (k+1) X.A)(hg:Gl X x)(hm:X.mg x=Z (.ref C))(P:Binds K fd prs [])(ha:QPA X K (e::es) tl qa)(Q:‹X.K=K›)
  (z:AS x:=by decide) (g:‹AC X e es›) (q:‹AM X pos es›):
  QPF X K (.Call (.Name x pos') (e::es) [] pos) (Fl C (spL K 0 pl) [] E0 tl) (Ky C pl qa):=(by subst Q;exact F5 M G hr hg hm P .nil ud ha.h z g q,Ht ha.s)
end
end L2
namespace PySem
open Sem (wp)
end PySem
namespace L2
open PySem PySem.Spec PyProof.Rows
end L2
namespace PySem
open Sem (wp)
end PySem
namespace L2
open PySem PySem.Spec PyProof.Rows
variable{C:J}
section
variable{X:Cx}{K:BT}{e b:EQ}{te:TE}{qe:QE}{pos:Pos}
def VO(C:J)(f:Str)(qe:QE):QE:=λq Q=>qe q λt=>match t with
 |.om _ C' ns ts=>C'=C/\Ex2 (λu=>(ns.zip ts).lookup f=Z u) Q
 |_=>False
def la{f:Str}(hc:Cls K C)(hn:bU K C f)(he:QPE X K e te qe)(z:‹attributeBase e f X.env (eval e X.env)=eval e X.env›)(hK:‹X.K=K›):QPE X K (.Attribute e f pos) (Ru K te f) (VO C f qe) :=
 (by subst hK;exact Lb he.h z,λdl H σ q Q R rd hq k=>he.s dl H σ q _ _ rd hq λv t F H1 e1 V g=>by
  split at g
  ·let(U,u,hu,g):=g;let(dx,vs,G,U,U,h1,h2,h3,h4):=V.r.omm;let(P,Fc,G1,l1,l2,l3,_):=h4.fld hu;exact(_,_,dx,_,P,U,h1,hc,hn,l1,k P u Fc H1 e1 (l2,λb z=>V.n b (aJ _ (aJ _ (l3.mem_iff.mpr (ot _ z))))) g)
  ·exact g.elim)
end
namespace TM
open Sem (wp)
open Builtin
end TM
end L2
namespace PySem
open AutoSeq1 (wpAny_loadPart')
open MeetsSeq MeetsSeq2 MeetsSeq3
end PySem
namespace L2
open PySem PySem.Spec PyProof.Rows
abbrev QEL:=Sq->(T->Sq->Prop)->Prop
def Xi(K:BT)(te:TE)(qe:QEL):Prop:=∀(dl:Dl)(H₀:Hp)(hs:List (V×T))(H:Hp)(σ:St)(q:Sq)(R:T->Sq->Prop)(Q:VK),cJ K dl H₀ hs H σ q->qe q R->(∀v t q' H',cJ K dl H₀ hs H' σ q'->Rp K dl H' v t []->R t q'->Q v H')->te σ H Q
structure Xm(X:Cx)(K:BT)(e:EQ)(te:TE)(qe:QEL):Prop where
 h:PE X e te
 s:Xi K te qe
section
variable{X:Cx}{K:BT}{j k:Nat}{o:EQ}{to:TE}{ql:QL}{pos apos:Pos}{m:Str}{C f:J}{fd:Ch}{prs:List Str}{pl:uY}
def kC(hc:Cls K C)(hm:Meth K C m f)(G:aS X.prog X.w X.K X.mg X.base CX0 k f fd prs (spL K 0 pl))(hr:bS k X.A)(hb:Binds K fd prs [])(ho:QPL X K j o to ql)(hK:‹X.K=K›)
  {g:Sem Bool} (V:‹eval (.Call (.Attribute o m apos) [] [] pos) X.env=(do
   let z <- eval o X.env
   standAt apos.atName
   let(f,first) <- holding [z] (getMethod z m g)
   callWith pos f first (backTo pos (fx [] X.env)) (backToKw pos (keywordEach [] X.env)))›):
  Xm X K (.Call (.Attribute o m apos) [] [] pos) (t8 C m (spL K 0 pl) [] E0 to f9) (DS j C m pl ql λ_ Q=>Q []) :=
 (by subst hK;exact vT ho.h hc hm G hr hb .nil ud V,λdl H₀ hs H σ q R Q r hq P=>yi ho.s vD r hq P)
end
section
variable{X:Cx}{K:BT}
theorem yd:∀(ys:List Str)(tk:Nat),Vals (ys.map V.str) (strsFrom tk ys)
 |[],_=>.nil
 |y::r,tk=>.cons (tk,U) (yd r (tk+1))
def split_len(x:Str)(c:Nat):(Txt.split x ⟨#[c]⟩).length<=x.length+2:=by
 unfold Txt.split
 split
 ·simp
 ·split
  ·simp
  ·rw[PyProof.Rows.len_partsBetween]
   have:=StrLaws.occ_length_le x ⟨#[c]⟩ 0 x.length (x.length+1)
   lia
theorem aA.ofS{dl:Dl}{H:Hp}:∀(ys:List Str),aA K dl H (ys.map V.str) (ys.map T.s) []
 |[]=>.nil
 |y::r=>.cons (.s y) (aA.ofS r)
def kc(n:Int):Str:=Str.ofString (toString n)
def IS:df X (.type "str") (λxs H Q=>∃n:Int,xs=[.int n]/\n.natAbs.log2<1920/\Q (.str (kc n)) H):=by
 intro gd s σ H xs us Q I r h;let(n,U,hn,q):=h;let(u,U,ru):=Vals.one r;let(t,U):=ru;exact PySem.P.str_of_int hn (.str _,H,I.tok _,(_,U),q)
theorem IY:df X (.type "int") (λxs H Q=>∃(x:Str)(n:Int),xs=[.str x]/\PySem.intText? x=Z n/\x.length<=640/\Q (.int n) H):=by
 intro gd s σ H xs us Q I r h;let(x,n,U,hn,hl,q):=h;let(u,U,ru):=Vals.one r;let(t,U):=ru;exact W.KIN.call_text hn hl (.int _,H,I.tok _,(_,U),q)
def VC:QC:=λts Q=>on1 ts λt=>match t with
 |.i n=>n.natAbs.log2<1920/\Q (.s (kc n))
 |_=>False
def VL:QC:=λts Q=>on1 ts λt=>match t with
 |.s x=>Ex4 (λn=>PySem.intText? x=Z n) (λ_=>x.length<=640) (λn=>.i n) Q
 |_=>False
def JJ:tS K (λxs H Q=>∃n:Int,xs=[.int n]/\n.natAbs.log2<1920/\Q (.str (kc n)) H) VC:=by
 intro dl H vs ts F Q R D r g k
 replace g:=on1.inv g
 let(t,U,g):=g;let(v,U,q):=r.one;cases t with
 |i n =>
  let(U,_):=q.r.int;exact(n,U,g.1,k _ _ [] H (.refl D) (.c (.s _)) (λ_ z=>nomatch z) mE g.2)
 |_=>exact g.elim
def JN:tS K (λxs H Q=>∃(x:Str)(n:Int),xs=[.str x]/\PySem.intText? x=Z n/\x.length<=640/\Q (.int n) H) VL:=by
 intro dl H vs ts F Q R D r g k
 replace g:=on1.inv g
 let(t,U,g):=g;let(v,U,q):=r.one;cases t with
 |s x =>
  let(U,_):=q.r.str;let(n,h1,h2,g):=g;exact(x,n,U,h1,h2,k _ _ [] H (.refl D) (.c (.i _)) (λ_ z=>nomatch z) mE g)
 |_=>exact g.elim
end
theorem GH{c:Nat}:∀{a b x y:List Nat},c ∉ a->c ∉ b->a++c::x=b++c::y->a=b/\x=y
 |[],[],_,_,_,_,h=>(U,(List.cons.inj h).2)
 |[],d::b,_,_,_,g,h=>absurd (List.cons.inj h).1.symm λz=>g (by rw[z];exact di)
 |d::a,[],_,_,ha,_,h=>absurd (List.cons.inj h).1 λz=>ha (by rw[z];exact di)
 |d::a,e::b,_,_,ha,g,h=>by
  let(h1,h2):=List.cons.inj h;let(h3,h4):=GH (λz=>ha (aJ _ z)) (λz=>g (aJ _ z)) h2
  exact(by rw[h1,h3],h4)
variable{x:Str}
def Ft{y:Str}(h:x.cps.toList=y.cps.toList):x=y:=by
 let⟨⟨a⟩⟩:=x;cases h;rfl
def kI{c:Nat}(x y:Str)(r:List Str):(Str.join ⟨#[c]⟩ (x::y::r)).cps.toList=x.cps.toList++c ::(Str.join ⟨#[c]⟩ (y::r)).cps.toList:=by
 show((x.cps ++ #[c])++(Str.join ⟨#[c]⟩ (y::r)).cps).toList=_;simp
theorem B7{c:Nat}:∀{ps ws:List Str},ps ≠ []->ws ≠ []->(∀p∈ps,c ∉ p.cps.toList)->(∀p∈ws,c ∉ p.cps.toList)->Str.join ⟨#[c]⟩ ps=Str.join ⟨#[c]⟩ ws->ps=ws
 |[],_,h,_,_,_,_=>absurd U h
 |_,[],_,h,_,_,_=>absurd U h
 |[p],[w],_,_,_,_,h=>by
  have h:p=w:=h;rw[h]
 |[p],w::K::r,_,_,hp,_,h=>by
  have h:=congrArg (λz=>z.cps.toList) h
  rw[kI]at h;have h:p.cps.toList=w.cps.toList++c::_:=h;exact absurd (by rw[h];simp) (hp p di)
 |p::p2::r,[w],_,_,_,hw,h=>by
  have h:=congrArg (λz=>z.cps.toList) h
  rw[kI]at h;have h:p.cps.toList++c::_=w.cps.toList:=h;exact absurd (by rw[<- h];simp) (hw w di)
 |p::p2::r,w::K::P,_,_,hp,hw,h=>by
  have h:=congrArg (λz=>z.cps.toList) h
  rw[kI,kI]at h;let(h1,h2):=GH (hp p di) (hw w di) h;rw[Ft h1,B7 (xR _ _) (xR _ _) (λq g=>hp q (aJ _ g)) (λq g=>hw q (aJ _ g)) (Ft h2)]
def vA(x:Str)(c:Nat):Txt.split x ⟨#[c]⟩ ≠ []:=by
 unfold Txt.split
 split
 ·exact xR _ _
 ·split
  ·exact xR _ _
  ·intro z
   have:=PyProof.Rows.len_partsBetween x (Builtin.Str.occurrences x ⟨#[c]⟩ 0 x.length (x.length+1)) (⟨#[c]⟩:Str).length
   rw[z]at this;cases this
def oX{c:Nat}{ws:List Str}(g:ws ≠ [])(hw:∀p∈ws,c ∉ p.cps.toList):Txt.split (Txt.join ⟨#[c]⟩ ws) ⟨#[c]⟩=ws:=by
 have e:Txt.join ⟨#[c]⟩ ws=Str.join ⟨#[c]⟩ ws:=StrLaws.glued_eq_join _ _;rw[e];exact B7 (vA _ _) g (StrLaws.split_free _ c) hw (StrLaws.join_split _ _)
section
variable{K:BT}{dl:Dl}{H₀ H H':Hp}{hs:List (V×T)}{σ:St}{q q':Sq}{F:Nat->List J}
def Rel.BW{S:List Nat}{u':Nat->T}{F':Nat->List J}(r:Rel K dl H₀ hs H σ q F)(hi:∀i∈S,∃t,q[i]?=Z (.o t))(f:eM dl H (S.flatMap F) H')(hr:∀i∈S,q'[i]?=Z (.o (u' i))->∃v,σ[i]?=Z (Z v)/\Rp K dl H' v (u' i) (F' i))(n':∀i∈S,(F' i).Nodup)(hF:∀i∈S,∀b∈F' i,b∈S.flatMap F\/H b=Y)(dj:∀i∈S,∀k∈S,k≠i->∀b∈F' i,b ∉ F' k)
  (hl:q'.length=q.length) (uo:∀i,i ∉ S->q'[i]?=q[i]?) (Iy:∀i∈S,q'[i]?=Z (.o (u' i))\/q'[i]?=Z .no/\F' i=[]):Rel K dl H₀ hs H' σ q' (λi=>if i∈S then F' i else F i):=by
 have ak:∀{b:J},b∈S.flatMap F->∃i∈S,b∈F i:=λh=>YY.mp h
 have th:∀b∈S.flatMap F,gH H b:=λb Q=>let(i,_,h):=ak Q;r.bO h
 have tf:=f.tf th r.d;have V4:∀j,j ∉ S->∀b∈F j,b ∉ S.flatMap F:=λj hj b Q z=>by
  let(i,P,h):=ak z;let(t,ht):=hi i P;exact(r.o i t ht).2.2 j (λe=>hj (e▸P)) b h Q
 have st:∀{w:V}{u:T}{Fw:List J},Rp K dl H w u Fw->(∀b∈Fw,b ∉ S.flatMap F)->Rp K dl H' w u Fw:=λ{w u Fw} h np =>
  (h.r.d9 tf (λ_ z=>z) λb Q o e=>f.k b o e (np b Q) (h.n b Q) (.of (h.r.there b Q) e),h.n)
 have out:∀i∈S,∀j,j ∉ S->∀b∈F' i,b ∉ F j:=λi P j hj b Q z=>by
  obtain h|h:=hF i P b Q
  ·exact V4 j hj b z h
  ·exact(r.bO z).no h
 have H0:∀{b:J},b∈S.flatMap F->H₀ b=none:=λh=>by
  let(i,P,h):=ak h;let(t,ht):=hi i P;exact(r.o i t ht).2.1 _ h
 refine(f.d,λj x u h1 h2=>?_,λj x h1 h2=>?_,λj hj=>?_,λj u h1=>?_,λp hp=>?_,(λb o h n nr=>?_,λb x h=>?_),by rw[hl];exact r.l)
 ·by_cases P:j∈S
  ·obtain z |⟨z,_⟩:=Iy j P
   ·let(v,h3,h4):=hr j P z;rw[z]at h1;cases h1;cases h2;exact(v,h3,by rw[if_pos P];exact h4)
   ·rw[z]at h1;cases h1;cases h2
  ·rw[uo j P]at h1;let(w,h3,h4):=r.g j x u h1 h2;exact(w,h3,by rw[if_neg P];exact st h4 (V4 j P))
 ·by_cases P:j∈S
  ·obtain z |⟨z,e⟩:=Iy j P
   ·rw[z]at h1;cases h1;cases h2
   ·rw[if_pos P];exact e
  ·rw[uo j P]at h1;rw[if_neg P];exact r.n j x h1 h2
 ·by_cases P:j∈S
  ·obtain z |⟨z,e⟩:=Iy j P
   ·rw[Y7 (by lia)]at z
    cases z
   ·rw[if_pos P];exact e
  ·rw[if_neg P];exact r.z j (by lia)
 ·by_cases P:j∈S
  ·rw[if_pos P];refine(n' j P,λb Q=>(hF j P b Q).elim H0 r.fz,λk hk b Q=>?_)
   by_cases ah:k∈S
   ·rw[if_pos ah];exact dj j P k ah hk b Q
   ·rw[if_neg ah];exact out j P k ah b Q
  ·rw[uo j P]at h1;let(p1,p2,p3):=r.o j u h1;rw[if_neg P];refine(p1,p2,λk hk b Q z=>?_)
   by_cases ah:k∈S
   ·rw[if_pos ah]at z;exact out k ah j P b z Q
   ·rw[if_neg ah]at z;exact p3 k hk b Q z
 ·let(Fp,h1,h2):=r.h p hp;have np:∀b∈Fp,b ∉ S.flatMap F:=λb Q z=>by
   let(i,P,h):=ak z;let(t,ht):=hi i P;exact h2 i t ht b h Q
  refine(Fp,st h1 np,λj u hj b Q z=>?_)
  by_cases P:j∈S
  ·rw[if_pos P]at Q;obtain h|h:=hF j P b Q
   ·exact np b z h
   ·exact gH.no (h1.r.there b z) h
  ·rw[uo j P]at hj;rw[if_neg P]at Q;exact h2 j u hj b Q z
 ·exact f.k b o (r.f.k b o h n nr) (λz=>by rw[H0 z]at h;cases h) n nr
 ·let(y,hy,e1):=r.f.r b x h;let(y',aq,e2):=f.r b y e1 (λz=>by rw[H0 z]at h;cases h)
  exact(y',Y2 aq hy,e2)
def Rel.Md{S:List Nat}(r:Rel K dl H₀ hs H σ q F)(hi:∀i∈S,∃t,q[i]?=Z (.o t))(f:eM dl H (S.flatMap F) H')
  (hl:q'.length=q.length) (Q:∀i,i ∉ S->q'[i]?=q[i]?) (P:∀i∈S,q'[i]?=Z .no):cJ K dl H₀ hs H' σ q' :=
 (_,r.BW (u':=λ_=>.n) hi f (λi g z=>by rw[P i g]at z;cases z) (λ_ _=>mE) (λ_ _ _ z=>nomatch z) (λ_ _ _ _ _ _ z=>nomatch z) hl Q λi g=>.inr (P i g,U))
end
abbrev iT:=List T->(T->List T->Prop)->QW->Prop
structure Told(K:BT)(dl:Dl)(H H':Hp)(vs:List V)(js S:List Nat)(F:Nat->List J)(us:List T)(F':Nat->List J)(Fr:List J):Prop where
 l:us.length=js.length
 r:∀(n i:Nat)(u:T)(v:V),js[n]?=Z i->us[n]?=Z u->vs[i]?=Z v->Rp K dl H' v u (F' n)
 n:∀n,n<js.length->(F' n).Nodup/\(∀b∈F' n,b∈S.flatMap F\/H b=Y)/\∀b∈Fr,b ∉ F' n
 d:∀n m,n≠m->n<js.length->m<js.length->∀b∈F' n,b ∉ F' m
inductive spG(K:BT)(js S:List Nat)(ps:iT)(vs:List V)(H:Hp)(Q:VK)(E:XK):Prop
 |mk(dl:Dl)(ts:List T)(F:Nat->List J)(Qp:T->List T->Prop)(Wp:QW)(h1:Dls dl H)(h2:vs.length=ts.length)(h3:∀i v t,vs[i]?=Z v->ts[i]?=Z t->Rp K dl H v t (F i))(h4:∀i,ts.length<=i->F i=[])(h5:∀i∈S,(F i).Nodup/\∀k,k≠i->∀b∈F i,b ∉ F k)(h6:ps ts Qp Wp)
  (h7:∀v r Fr us F' H',eM dl H (S.flatMap F) H'->Told K dl H H' vs js S F us F' Fr->Rp K dl H' v r Fr->Fr.Nodup->(∀b∈Fr,b∈S.flatMap F\/H b=Y)->Qp r us->Q v H')
  (h8:∀a C ns us H',eM dl H (S.flatMap F) H'->Rp K dl H' (.ref a) (.xc C ns us) []->Wp C ns us->E (.ref C) (Z a) H')
def sls(js:List Nat):Nat->List T->Sq
 |_,[]=>[]
 |n,t::r=>(if js.elem n then .o t else .r t)::sls js (n+1) r
theorem qf{js:List Nat}:∀{n:Nat}{ts:List T},(sls js n ts).length=ts.length
 |_,[]=>rfl
 |n,t::r=>congrArg (· + 1) (qf)
theorem JE{js:List Nat}:∀{n:Nat}{ts:List T}{i:Nat}{y:Sl},(sls js n ts)[i]?=Z y->∃t,ts[i]?=Z t/\(n+i∈js/\y=.o t\/n+i ∉ js/\y=.r t)
 |n,[],i,y,h=>nomatch h
 |n,t::r,0,y,h=>by
  refine(t,U,?_);have h:=Option.some.inj h;by_cases e:n∈js
  ·rw[if_pos (List.elem_eq_true_of_mem e)]at h;exact .inl (e,h.symm)
  ·rw[if_neg (λz=>e (List.mem_of_elem_eq_true z))]at h
   exact .inr (e,h.symm)
 |n,t::r,i+1,y,h=>by
  let(u,h1,h2):=JE (i:=i) h;rw[Nat.add_right_comm]at h2;exact(u,h1,h2)
variable{dl:Dl}{H:Hp}{N:List Str}{js:List Nat}
theorem DQ{K:BT}{vs:List V}{ts:List T}{F:Nat->List J}(D:Dls dl H)(hl:vs.length=ts.length)(hr:∀i v t,vs[i]?=Z v->ts[i]?=Z t->Rp K dl H v t (F i))(P:∀i,ts.length<=i->F i=[])(hs:∀i∈js,(F i).Nodup/\∀k,k≠i->∀b∈F i,b ∉ F k):
  Rel K dl (iW H (js.flatMap F)) (hsq H (js.flatMap F)) H (start N vs) (sls js 0 ts++xU (N.length - ts.length) .no) F:=by
 have lk:∀i y,(sls js 0 ts++xU (N.length - ts.length) Sl.no)[i]?=Z y->(∃t,ts[i]?=Z t/\(i∈js/\y=.o t\/i ∉ js/\y=.r t))\/(ts.length<=i/\y=.no):=λi y h=>by
  by_cases hi:i<ts.length
  ·rw[CS (by rw[qf];exact hi)]at h
   let(t,h1,h2):=JE h;rw[Nat.zero_add]at h2;exact .inl (t,h1,h2)
  ·rw[CP (by rw[qf];lia),YW]at h
   split at h
   ·exact .inr (by lia,(Option.some.inj h).symm)
   ·cases h
 have q:∀i v,vs[i]?=Z v->(start N vs)[i]?=Z (Z v):=λi v e=>by
  have hi:=(iZ.mp e).1;show(vs.map Z++xU (N.length - vs.length) Y)[i]?=_;rw[CS (by simpa using hi),ti,e]
  rfl
 have g:∀b o,iW H (js.flatMap F) b=Z o->H b=Z o:=λb o h=>by
  by_cases e:b∈js.flatMap F
  ·rw[qV e]at h;cases h
  ·rw[kF e]at h;exact h
 refine(D,λi y t h1 h2=>?_,λi y h1 h2=>?_,λi hi=>?_,λi t h1=>?_,λp hp=>([],LL p hp,λ_ _ _ _ _ z=>nomatch z),(λb o h _ _=>g b o h,λb x h=>(x,Zc _,g b _ h)),?_)
 ·obtain⟨u,e,z⟩|⟨_,rfl⟩:=lk i y h1
  ·have:y.get=Z u:=by obtain⟨_,rfl⟩|⟨_,rfl⟩:=z <;> rfl
   rw[this]at h2;cases h2;have hi:=(iZ.mp e).1;have ev:vs[i]?=Z (vs[i]'(by lia)):=rZ _
   exact(_,q _ _ ev,hr i _ _ ev e)
  ·cases h2
 ·obtain⟨u,e,⟨_,rfl⟩|⟨_,rfl⟩⟩|⟨hi,rfl⟩:=lk i y h1
  ·cases h2
  ·cases h2
  ·exact P i hi
 ·refine P i ?_;rw[oa,qf]at hi
  lia
 ·obtain⟨u,e,⟨hi,_⟩|⟨_,z⟩⟩|⟨_,z⟩:=lk i _ h1
  ·exact((hs i hi).1,λb Q=>qV (YY.mpr (i,hi,Q)),(hs i hi).2)
  ·cases z
  ·cases z
 ·show _=(vs.map Z++xU (N.length - vs.length) Y).length;simp[qf,hl]
def D7:List Nat->List J->Sq->List T->Prop
 |[],[],_,[]=>True
 |j::js,a::as,q,u::us=>q[j]?=Z (.o u)/\u.adr=Z a/\D7 js as q us
 |_,_,_,_=>False
def Ja:List Nat->List T->List J->Prop
 |[],_,[]=>True
 |j::js,ts,a::as=>(∃t,ts[j]?=Z t/\t.adr=Z a)/\Ja js ts as
 |_,_,_=>False
theorem D7.at{q:Sq}{ts:List T}:∀{js:List Nat}{as:List J}{us:List T},D7 js as q us->Ja js ts as->us.length=js.length/\∀(n i:Nat)(u:T),js[n]?=Z i->us[n]?=Z u->q[i]?=Z (.o u)/\∃t a,ts[i]?=Z t/\t.adr=Z a/\u.adr=Z a
 |[],[],[],_,_=>(U,λ_ _ _ h=>nomatch h)
 |j::js,a::as,u::us,(h1,h2,h3),((t,h4,h5),h6)=>by
  let(e,h):=D7.at h3 h6;refine(congrArg (· + 1) e,λn i w z g=>?_)
  cases n with
  |zero=>cases z;cases g;exact(h1,t,a,h4,h5,h2)
  |succ n=>exact h n i w z g
def fi.og(js:List Nat)(as:List J)(Q:T->List T->Prop):fi:={nx:=λq=>∃us,D7 js as q us/\Q .n us,rt:=λ_=>False,ru:=λq r=>∃us,D7 js as q us/\Q r us}
variable{P:Db}{mg:Str->Option B}{base:Ev}{qual:Str}{st:Fk}{fd:Ch}{ps:List Str}
theorem Fun.okG{w:Da}{K:PySem.W.Frag}{f:J}{k:Nat}{V:List Nat}{ah:iT}(F:Fun K x qual st f fd)(S:aE N ps (au st))(len:∀ts Q W,ah ts Q W->ts.length=ps.length)(aD:js.Nodup)(Ya:∀j∈js,j∈V)
  (jw:∀(cdv:B)(A:Do)(outer:List Env)(s:ϋ)(H:Hp)(E:XK),bS k (A.deeper (envOfC qual (au st) s.heap.objs.size f cdv)) ->
   ∃t qs,kO (pQ (CX1 P w) P w K mg base N qual (au st) f cdv A outer s H E) K (cA st) t qs/\∀ts Q W as,ah ts Q W->Ja js ts as->qs (λ_=>W) (.og js as Q) (sls V 0 ts++xU (N.length - ts.length) .no))
  (Uh:∀ts Q W,ah ts Q W->∃as,Ja js ts as):aS P w K mg base (CX1 P w) (k+1) f fd ps (spG K js V ah):=by
 refine F.okX S (λvs H Q E h=>?_) (λcdv A outer s H vs Q E hr h=>?_)
 ·let(dl,ts,_,Qp,Wp,_,hl,_,_,_,h,_,_):=h;rw[hl];exact len ts Qp Wp h
 ·let(dl,ts,F0,Qp,Wp,D,hl,aq,hz,av,h,fin,fix):=h;let(t,qs,hb,hq):=jw cdv A outer s H E hr;refine(t λ_=>E,hb.h _ vV vK,?_)
  let(as,ha):=Uh ts Qp Wp h;have z:=hq ts Qp Wp as h ha;have R:=DQ (N:=N) (js:=V) D hl aq hz av;have ak:∀{b:J}{o:HO},H b=Z o->b ∉ V.flatMap F0->iW H (V.flatMap F0) b=Z o:=λh n=>by rw[kF n];exact h
  have bB:∀{H':Hp}{σ:St}{q:Sq}{F':Nat->List J},Rel K dl (iW H (V.flatMap F0)) (hsq H (V.flatMap F0)) H' σ q F'->eM dl H (V.flatMap F0) H':=λ{H' σ q F'} r' =>
   (λb o e n nd nr=>r'.f.k b o (ak e n) nd nr,λb x e n=>r'.f.r b x (ak e n),λb xs hb e=>(by
    let(Fp,rq,_):=r'.h _ (Gv hb e);cases rq.r with
    |q h=>exact(_,h)),r'.d)
  have fr:∀{b:J},iW H (V.flatMap F0) b=Y->b∈V.flatMap F0\/H b=none:=λ{b} h=>by
   by_cases e:b∈V.flatMap F0
   ·exact .inl e
   ·rw[kF e]at h;exact .inr h
  have told:∀{H':Hp}{σ:St}{q:Sq}{F':Nat->List J}{us:List T}{Fr:List J},Rel K dl (iW H (V.flatMap F0)) (hsq H (V.flatMap F0)) H' σ q F'->D7 js as q us->(∀j,∀b∈Fr,b ∉ F' j)->Told K dl H H' vs js V F0 us (λn=>F' (js[n]?.getD 0)) Fr:=λ{H' σ q F' us Fr} r' ho aG=>by
   let(el,at'):=ho.at ha;have ix:∀n,n<js.length->∃i u,js[n]?=Z i/\us[n]?=Z u:=λn hn=>(js[n],us[n]'(by omega),rZ _,rZ _)
   refine(el,λn i u v e1 e2 e3=>?_,λn hn=>?_,λn m ne hn hm=>?_)
   ·let(h1,t0,a,h2,h3,h4):=at' n i u e1 e2;let(v',_,rp):=r'.g i _ _ h1 U;rw[e1,(aq i v t0 e3 h2).r.adr h3,<- rp.r.adr h4];exact rp
   ·let(i,u,e1,e2):=ix n hn;let(h1,_):=at' n i u e1 e2;let(o1,o2,_):=r'.o i u h1;rw[e1,ZP];exact(o1,λb hb=>fr (o2 b hb),aG i)
   ·let(i,u,e1,e2):=ix n hn;let(k,u2,e3,e4):=ix m hm;let(h1,_):=at' n i u e1 e2;rw[e1,e3,ZP,ZP];refine(r'.o i u h1).2.2 k λz=>ne ?_
    subst z;exact(List.getElem?_inj hn aD).mp (e1.trans e3.symm)
  refine hb.s dl (iW H (V.flatMap F0)) (hsq H (V.flatMap F0)) H _ _ _ _ _ _ (_,R) z (λH' σ q hr hz=>?_,λ_ _ _ _ hz=>hz.elim,λ_ _ _ _ hz=>hz.elim,λ_ _ _ _ _ _ _ _ _ hz=>hz.elim,λH' σ q F' v r Fr r' rv f1 n1 dj hz=>?_) λH' σ q a C ns us hr rx hw=>?_
  ·let(F',r'):=hr;let(us,ho,hz):=hz;exact fin .non .n [] us _ H' (bB r') (told r' ho λ_ _ z=>nomatch z) (.n,λ_ z=>nomatch z) mE (λ_ z=>nomatch z) hz
  ·let(us,ho,hz):=hz;exact fin v r Fr us _ H' (bB r') (told r' ho dj) rv n1 (λb hb=>fr (f1 b hb)) hz
  ·let(F',r'):=hr;exact fix a C ns us H' (bB r') rx hw
def lv(a:J):T->T
 |.l xs=>.lp a xs
 |t=>t
def lb:T->T->T
 |.l _,.lp _ ys=>.l ys
 |_,u=>u
variable{G:List J}{j:Nat}
section
variable{K:BT}{H₀ H':Hp}{hs:List (V×T)}{σ:St}{q q':Sq}{F:Nat->List J}
def Gh{v:V}{t:T}(h:aI K dl H v t G):∃a,aI K dl H v (lv a t) G/\∀H' u g,aI K dl H' v u g->aI K dl H' v (lb t u) g:=by
 cases t with
 |l xs =>
  let(a,vs,P,U,U,h1,h2):=h.lst;refine(a,.lp h1 h2,λH' u g h=>?_)
  cases u with
  |lp b ys =>
   let(q,z,e,U,h3,h4):=h.lpp;cases e;exact .l h3 h4
  |_=>exact h
 |_=>exact(0,h,λ_ _ _ h=>h)
def aA.im0{vs:List V}{ts:List T}{F:List J}(h:aA K dl H vs ts F)(z:F=[])(i:Nat)(v:V)(t:T)(h1:vs[i]?=Z v)(h2:ts[i]?=Z t):aI K dl H v t []:=by
 subst z;let(G,g,_):=h.each;let(a,b):=g i v t h1 h2;rw[Zs.mpr λc q=>nomatch b c q]at a
 exact a
def Qg{p:Way}{t u:T}{v w:V}{ws:List V}{ts:List T}{ps:iT}{R:T->Sq->Prop}{W:Sq->QW}{Q:VK}{Es:St->XK}(r:Rel K dl H₀ hs H σ q F)(hj:q[j]?=Z (.o t))(hv:σ[j]?=Z (Z v))(hu:T.sub p t=Z u)(hw:VAt H p v w)(rs:Rps K dl H ws ts [])
  (hp:∀a,ps (lv a u::ts) (λr us=>r.im=O/\on1 us λu'=>R r (q.set j (.o (T.put (lb u u') p t)))) (W (q.set j .no))) (kk:∀v t q' H',cJ K dl H₀ hs H' σ q'->Rp K dl H' v t []->R t q'->Q v H') (kx:XOk K dl H₀ hs W Es):spG K [0] [0] ps (w::ws) H Q (Es σ):=by
 let(v2,w2,Fu,ak,av,ru,nu,md):=r.mod hj hu;rw[hv]at ak;cases ak;cases hw.uniq (av H (.refl r.d));let(a,r1,bk):=Gh ru.r;have eU:[0].flatMap (λi=>if i=0 then Fu else [])=Fu:=by simp
 refine(dl,_,λi=>if i=0 then Fu else [],_,_,r.d,congrArg (· + 1) rs.r.len,λi x y e1 e2=>?_,λi hi=>if_neg ?_,λi hi=>?_,hp a,λv r' Fr us F' H' P told rv _ _ hz=>?_,λa C ns us H' P rx aq=>?_)
 ·cases i with
  |zero=>cases e1;cases e2;exact(r1,ru.n)
  |succ i=>exact(rs.r.im0 U i x y (by simpa using e1) (by simpa using e2),λ_ z=>nomatch z)
 ·rw[mD]at hi;lia
 ·rw[aB.mp hi];exact(nu,λk hk b _ z=>by rw[if_neg hk]at z;cases z)
 ·let(im,hz):=hz;let(u',U,hz):=on1.inv hz;have rp:=told.r 0 0 u' w U U U;let(n1,n2,_):=told.n 0 Z1;rw[eU]at P n2;let(F2,r2):=md H' _ (F' 0) P (bk H' u' _ rp.r,rp.n) n1 n2;obtain rfl:=rv.r.im im;exact kk v r' _ H' (F2,r2) rv hz
 ·rw[eU]at P;have sub:∀b∈Fu,b∈F j:=by
   let(v3,ah,rp):=r.g j _ t hj U;rw[hv]at ah;cases ah;let(w3,aD,G3,h1,h2,h3,_):=rp.r.zip p hu;cases hw.uniq (h1 H λ_ _ _ z=>z)
   intro b hb;rw[ru.r.uniq h2]at hb;exact h3.mem_iff.mpr (ot _ hb)
  have eF:[j].flatMap F=F j:=by simp
  have Lv:eM dl H ([j].flatMap F) H':=by
   rw[eF];let(v3,ah,rp):=r.g j _ t hj U;exact(λb o e n=>P.k b o e λz=>n (sub b z),λb x e n=>P.r b x e λz=>n (sub b z),λb xs hb e=>(by
    by_cases z:b∈Fu
    ·exact P.l b xs z e
    ·exact(xs,P.k b _ e z (rp.n b hb) λ_ z=>nomatch z)),P.d)
  have r2:=r.Md (q':=q.set j .no) (λi hi=>by rw[aB.mp hi];exact(t,hj)) Lv (by simp) (λi hi=>ui λz=>hi (by rw[z];exact aB.mpr U)) (λi hi=>by rw[aB.mp hi];exact u4 (iZ.mp hj).1)
  exact kx H' σ _ a C ns us r2 rx aq
def Qf{k:Nat}{p p2:Way}{t u t2 u2:T}{v w v2 w2:V}{ws:List V}{ts:List T}{ps:iT}{R:T->Sq->Prop}{W:Sq->QW}{Q:VK}{Es:St->XK}(r:Rel K dl H₀ hs H σ q F)(ak:j≠k)(hj:q[j]?=Z (.o t))(hv:σ[j]?=Z (Z v))(hu:T.sub p t=Z u)(hw:VAt H p v w)(hk:q[k]?=Z (.o t2))(aL:σ[k]?=Z (Z v2))(a7:T.sub p2 t2=Z u2)(a6:VAt H p2 v2 w2)(rs:Rps K dl H ws ts [])
  (hp:∀a b,ps (lv a u::lv b u2::ts) (λr us=>r.im=O/\on2 us λx y=>R r ((q.set j (.o (T.put (lb u x) p t))).set k (.o (T.put (lb u2 y) p2 t2)))) (W ((q.set j .no).set k .no))) (kk:∀v t q' H',cJ K dl H₀ hs H' σ q'->Rp K dl H' v t []->R t q'->Q v H') (kx:XOk K dl H₀ hs W Es):spG K [0,1] [0,1] ps (w::w2::ws) H Q (Es σ):=by
 let(v',av,rp):=r.g j _ t hj U;rw[hv]at av;cases av;let(v',av,aq):=r.g k _ t2 hk U;rw[aL]at av;cases av;let(w',Fu,G,a1,a2,a3,a4):=rp.r.zip p hu;cases hw.uniq (a1 H λ_ _ _ z=>z)
 let(w',ah,G2,b1,b2,b3,b4):=aq.r.zip p2 a7;cases a6.uniq (b1 H λ_ _ _ z=>z)
 let(a,r1,bk):=Gh a2;let(b,r2,bb):=Gh b2;let(o1,o2,o3):=r.o j t hj;let(q1,q2,q3):=r.o k t2 hk;have m1:∀b,b∈Fu\/b∈G->b∈F j:=λb P=>a3.mem_iff.mpr (lS.mpr P)
 have m2:∀b,b∈ah\/b∈G2->b∈F k:=λb P=>b3.mem_iff.mpr (lS.mpr P)
 let(n1,n2,n3):=ya.mp (a3.nodup_iff.mp o1);let(k1,k2,k3):=ya.mp (b3.nodup_iff.mp q1);have apart:∀b,b∈F j->b ∉ F k:=λb P=>o3 k (Ne.symm ak) b P
 have eU:[0,1].flatMap (λi:Nat=>if i=0 then Fu else if i=1 then ah else [])=Fu++ah:=by simp
 have eF:[j,k].flatMap F=F j++F k:=by simp
 have sub:∀{b},b∈Fu++ah->b ∈ [j,k].flatMap F:=λ{b} h=>by
  rw[eF];exact(lS.mp h).elim (λz=>ot _ (m1 b (.inl z))) λz=>mu _ (m2 b (.inl z))
 have widen:∀{H'},eM dl H (Fu++ah) H'->eM dl H ([j,k].flatMap F) H':=λ{H'} bB =>
  (λb o e n=>bB.k b o e λz=>n (sub z),λb x e n=>bB.r b x e λz=>n (sub z),λb xs P e=>(by
   by_cases z:b∈Fu++ah
   ·exact bB.l b xs z e
   ·rw[eF]at P;exact(xs,bB.k b _ e z ((lS.mp P).elim (rp.n b) (aq.n b)) λ_ z=>nomatch z)),bB.d)
 refine(dl,_,λi=>if i=0 then Fu else if i=1 then ah else [],_,_,r.d,congrArg (· + 2) rs.r.len,λi x y e1 e2=>?_,λi hi=>?_,λi hi=>?_,hp a b,λvr r' Fr us F' H' bB told rv _ _ hz=>?_,λa C ns us H' bB rx a5=>?_)
 ·match i with
  | 0=>cases e1;cases e2;exact(r1,λb P=>rp.n b (m1 b (.inl P)))
  | 1=>cases e1;cases e2;exact(r2,λb P=>aq.n b (m2 b (.inl P)))
  |i+2=>exact(rs.r.im0 U i x y (by simpa using e1) (by simpa using e2),λ_ z=>nomatch z)
 ·rw[mD,mD]at hi;rw[if_neg (by lia),if_neg (by lia)]
 ·obtain z|z:=fH.mp hi
  ·rw[z];refine(n1,λm hm b P z=>?_)
   rw[if_neg hm]at z
   split at z
   ·exact apart b (m1 b (.inl P)) (m2 b (.inl z))
   ·cases z
  ·rw[aB.mp z];refine(k1,λm hm b P z=>?_)
   have P:b∈ah:=P
   split at z
   ·exact apart b (m1 b (.inl z)) (m2 b (.inl P))
   ·first|cases z|(rw[if_neg hm]at z;cases z)
 ·let(im,hz):=hz;let(x,y,U,hz):=on2.inv hz;have c1:=told.r 0 0 x w U U U;have c2:=told.r 1 1 y w2 U U U;let(d1,d2,_):=told.n 0 Nat.zero_lt_two;let(d3,d4,_):=told.n 1 Nat.one_lt_two;have d5:=told.d 0 1 Nat.zero_ne_one Nat.zero_lt_two Nat.one_lt_two;rw[eU]at bB d2 d4;have tf:=bB.tf (λb P=>(lS.mp P).elim (λz=>a2.there b z) λz=>b2.there b z) r.d
  let(E1,g1,g2):=a4 H' _ (F' 0) tf (λb P o e=>bB.k b o e (λz=>(lS.mp z).elim (λz=>n3 b z b P U) λz=>apart b (m1 b (.inr P)) (m2 b (.inl z))) (rp.n b (m1 b (.inr P))) (.of (r.bO (m1 b (.inr P))) e)) (bk H' x _ c1.r)
  let(E2,g3,g4):=b4 H' _ (F' 1) tf (λb P o e=>bB.k b o e (λz=>(lS.mp z).elim (λz=>apart b (m1 b (.inl z)) (m2 b (.inr P))) λz=>k3 b z b P U) (aq.n b (m2 b (.inr P))) (.of (r.bO (m2 b (.inr P))) e)) (bb H' y _ c2.r)
  have bc:∀b∈F' 0,b∈Fu++ah\/H b=none:=d2
  have hG:∀b,b∈G->b ∉ F' 0/\b ∉ F' 1:=λb P=>(λz=>(d2 b z).elim (λz=>(lS.mp z).elim (λz=>n3 b z b P U) λz=>apart b (m1 b (.inr P)) (m2 b (.inl z))) λz=>(r.bO (m1 b (.inr P))).no z,λz=>(d4 b z).elim (λz=>(lS.mp z).elim (λz=>n3 b z b P U) λz=>apart b (m1 b (.inr P)) (m2 b (.inl z))) λz=>(r.bO (m1 b (.inr P))).no z)
  have aV:∀b,b∈G2->b ∉ F' 0/\b ∉ F' 1:=λb P=>(λz=>(d2 b z).elim (λz=>(lS.mp z).elim (λz=>apart b (m1 b (.inl z)) (m2 b (.inr P))) λz=>k3 b z b P U) λz=>(r.bO (m2 b (.inr P))).no z,λz=>(d4 b z).elim (λz=>(lS.mp z).elim (λz=>apart b (m1 b (.inl z)) (m2 b (.inr P))) λz=>k3 b z b P U) λz=>(r.bO (m2 b (.inr P))).no z)
  have aG:∀{b},b∈E1->b∈F' 0\/b∈G:=λh=>lS.mp (g2.mem_iff.mp h)
  have aD:∀{b},b∈E2->b∈F' 1\/b∈G2:=λh=>lS.mp (g4.mem_iff.mp h)
  have a0:∀b∈E1,b ∉ E2:=λb h1 h2=>by
   obtain h1|h1:=aG h1
   ·obtain h2|h2:=aD h2
    ·exact d5 b h1 h2
    ·exact(aV b h2).1 h1
   ·obtain h2|h2:=aD h2
    ·exact(hG b h1).2 h2
    ·exact apart b (m1 b (.inr h1)) (m2 b (.inr h2))
  have r3:=r.BW (S:=[j,k]) (u':=λi=>if i=j then T.put (lb u x) p t else T.put (lb u2 y) p2 t2) (F':=λi=>if i=j then E1 else E2) (q':=(q.set j (.o (T.put (lb u x) p t))).set k (.o (T.put (lb u2 y) p2 t2)))
   (λi hi=>?_) (widen bB) (λi hi _=>?_) (λi hi=>?_) (λi hi b P=>?_) (λi hi m hm ne b P=>?_) (by simp) (λi hi=>?_) (λi hi=>?_)
  ·obtain rfl:=rv.r.im im;exact kk vr r' _ H' (_,r3) rv hz
  ·obtain z|z:=fH.mp hi
   ·rw[z];exact(t,hj)
   ·rw[aB.mp z];exact(t2,hk)
  ·obtain z|z:=fH.mp hi
   ·rw[z];simp only[if_pos];exact(v,hv,g1,λb P=>(aG P).elim (c1.n b) λh=>rp.n b (m1 b (.inr h)))
   ·rw[aB.mp z];simp only[if_neg (Ne.symm ak)];exact(v2,aL,g3,λb P=>(aD P).elim (c2.n b) λh=>aq.n b (m2 b (.inr h)))
  ·obtain z|z:=fH.mp hi
   ·rw[z,if_pos rfl];exact g2.nodup_iff.mpr (ya.mpr (d1,n2,λa ha b P e=>(hG b P).1 (e▸ha)))
   ·rw[aB.mp z,if_neg (Ne.symm ak)];exact g4.nodup_iff.mpr (ya.mpr (d3,k2,λa ha b P e=>(aV b P).2 (e▸ha)))
  ·rw[eF];obtain z|z:=fH.mp hi
   ·rw[z,if_pos rfl]at P;obtain h|h:=aG P
    ·exact(d2 b h).imp (λz=>eF▸sub z) id
    ·exact .inl (ot _ (m1 b (.inr h)))
   ·rw[aB.mp z,if_neg (Ne.symm ak)]at P;obtain h|h:=aD P
    ·exact(d4 b h).imp (λz=>eF▸sub z) id
    ·exact .inl (mu _ (m2 b (.inr h)))
  ·obtain z|z:=fH.mp hi
   ·rw[z,if_pos rfl]at P;rw[if_neg (λe=>ne (e.trans z.symm))]
    exact a0 b P
   ·have ei:=aB.mp z;rw[ei,if_neg (Ne.symm ak)]at P;obtain y|y:=fH.mp hm
    ·rw[if_pos y];exact λh=>a0 b h P
    ·exact absurd ((aB.mp y).trans ei.symm) ne
  ·rw[ui λz=>hi (by rw[z];exact aJ _ di),ui λz=>hi (by rw[z];exact di)]
  ·obtain z|z:=fH.mp hi
   ·left;rw[z,if_pos U,ui (Ne.symm ak),u4 (iZ.mp hj).1]
   ·left;rw[aB.mp z,if_neg (Ne.symm ak),u4 (by rw[AF];exact(iZ.mp hk).1)]
 ·rw[eU]at bB;have r2:=r.Md (S:=[j,k]) (q':=(q.set j .no).set k .no) (λi hi=>?_) (widen bB) (by simp) (λi hi=>?_) (λi hi=>?_)
  ·exact kx H' σ _ a C ns us r2 rx a5
  ·obtain z|z:=fH.mp hi
   ·rw[z];exact(t,hj)
   ·rw[aB.mp z];exact(t2,hk)
  ·rw[ui λz=>hi (by rw[z];exact aJ _ di),ui λz=>hi (by rw[z];exact di)]
  ·obtain z|z:=fH.mp hi
   ·rw[z,ui (Ne.symm ak),u4 (iZ.mp hj).1]
   ·rw[aB.mp z,u4 (by rw[AF];exact(iZ.mp hk).1)]
end
abbrev QG:=Sq->(T->Sq->Prop)->(Sq->QW)->Prop
def Xh(K:PySem.W.Frag)(te:(St->XK)->TE)(qg:QG):Prop:=∀(dl:Dl)(H₀:Hp)(hs:List (V×T))(H:Hp)(σ:St)(q:Sq)(R:T->Sq->Prop)(W:Sq->QW)(Q:VK)(Es:St->XK),cJ K dl H₀ hs H σ q->qg q R W->(∀v t q' H',cJ K dl H₀ hs H' σ q'->Rp K dl H' v t []->R t q'->Q v H')->XOk K dl H₀ hs W Es->te Es σ H Q
structure QPG(X:Cx)(K:BT)(e:EQ)(te:(St->XK)->TE)(qg:QG):Prop where
 h:∀Es,gZ (CX1 X.prog X.w) X Es->PE X e (te Es)
 s:Xh K te qg
abbrev QAG:=Sq->(List T->Sq->Prop)->(Sq->QW)->Prop
def Xj(K:PySem.W.Frag)(te:(St->XK)->TA)(qa:QAG):Prop:=∀(dl:Dl)(H₀:Hp)(hs:List (V×T))(H:Hp)(σ:St)(q:Sq)(R:List T->Sq->Prop)(W:Sq->QW)(Q:List V->Hp->Prop)(Es:St->XK),cJ K dl H₀ hs H σ q->qa q R W->(∀vs ts q' H',cJ K dl H₀ hs H' σ q'->Rps K dl H' vs ts []->R ts q'->Q vs H')->XOk K dl H₀ hs W Es->te Es σ H Q
structure Az(X:Cx)(K:BT)(es:List EQ)(te:(St->XK)->TA)(qa:QAG):Prop where
 h:∀Es,gZ (CX1 X.prog X.w) X Es->PA X es (te Es)
 s:Xj K te qa
def sy(C:J)(m:Str)(sp:Sp)(Es:St->XK)(ta:TE)(t:TA):TE:=λσ H Q=>ta σ H λx H1=>∃a dx fs,x=.ref a/\H1 a=Z (.ins C dx fs)/\fs.lookup m=Y/\t σ H1 λvs g=>sp (x::vs) g Q (Es σ)
variable{gd:List (J×Obj)}{s:ϋ}{us:List B}{pl:Sem Bool}
section
variable{X:Cx}{CX:CXT}{k:Nat}{f C:J}{sp:Sp}{Es:St->XK}{m:Str}{pos apos:Pos}{e o:EQ}{es:List EQ}{ta:TE}{t:TA}
theorem FL{σ:St}{Q:VK}{vs:List V}(F:aS X.prog X.w X.K X.mg X.base CX k f fd ps sp)(hr:bS k X.A)(z:Binds X.K fd ps [])(hx:gZ CX X Es)
  (I:Inv X gd σ H s) (r:Vals vs us) (h:sp vs H Q (Es σ)):XV X (call (.ref f) us) (EP X gd σ Q) X.xe s:=by
 have hl:(us ++ []).length=ps.length:=by rw[qp,<- r.length];exact F.len _ _ _ _ h
 have q:=z s us I.kIn hl;rw[qp]at q;refine wpAny_call (codeAny_mono (F.run X.A X.stack s H (us,[]) us vs Q (Es σ) hr I.L9 q r h) λr s' g=>?_)
 cases r with
 |error e=>exact hx gd σ H s e s' I g
 |ok fl =>
  cases fl with
  |ret u=>exact I.after g
  |next=>exact False.elim g
  |brk=>exact False.elim g
  |cont=>exact False.elim g
theorem Br{pl:Sem Bool}(he:PE X o ta)(c:Cls X.K C)(hm:Meth X.K C m f)(F:aS X.prog X.w X.K X.mg X.base CX k f fd ps sp)(hr:bS k X.A)(hb:Binds X.K fd ps [])(hx:gZ CX X Es)(ha:PA X (e::es) t)
  (g:‹AC X e es›) (z:‹AM X pos es›)
  (ht:‹eval (.Call (.Attribute o m apos) (e::es) [] pos) X.env=(do
   let ov <- eval o X.env
   standAt apos.atName
   let(f,first) <- holding [ov] (getMethod ov m pl)
   callWith pos f first (backTo pos (fx (e::es) X.env)) (backToKw pos (keywordEach [] X.env)))›):
  PE X (.Call (.Attribute o m apos) (e::es) [] pos) (sy C m sp Es ta t):=by
 intro gd s σ H Q I h;refine W.methodCall_KW (thn (he gd s σ H _ I h) λu s1 P=>?_) ht
 let(x,H1,V,rx,a,dx,fs,ex,ea,l,q):=P;subst ex;obtain rfl:=rx;refine lK V ea c hm l ?_;exact W.callWith_K V.ok.mod.kin hm.kp (thn (ha pos gd s1 σ H1 _ V q) λus s2 (vs,H2,I2,r,q2)=>(I2.kIn,FL (vs:=.ref a::vs) F hr hb hx I2 (.cons U r) q2)) g z
theorem HL(he:PE X o ta)(c:Cls X.K C)(hm:Meth X.K C m f)(F:aS X.prog X.w X.K X.mg X.base CX k f fd ps sp)(hr:bS k X.A)(hb:Binds X.K fd ps [])(hx:gZ CX X Es)
  (ht:‹eval (.Call (.Attribute o m apos) [] [] pos) X.env=(do
   let P <- eval o X.env
   standAt apos.atName
   let(f,first) <- holding [P] (getMethod P m pl)
   callWith pos f first (backTo pos (fx [] X.env)) (backToKw pos (keywordEach [] X.env)))›):
  PE X (.Call (.Attribute o m apos) [] [] pos) (sy C m sp Es ta f9):=by
 intro gd s σ H Q I h;refine W.methodCall_KW (thn (he gd s σ H _ I h) λu s1 g=>?_) ht
 let(x,H1,z,V,a,dx,fs,ex,ea,l,q):=g;subst ex;obtain rfl:=V;exact lK z ea c hm l (W.callWith_K0 z.kIn hm.kp (FL (vs:=[.ref a]) F hr hb hx z (.cons U .nil) q))
end
variable{n:Nat}
section
variable{X:Cx}{K:BT}{i k:Nat}{a b e o:EQ}{es:List EQ}{te to:TE}{tg:(St->XK)->TE}{ta:(St->XK)->TA}{qe:QE}{qg:QG}{qa:QAG}{tl:TA}{ql:QA}{qo:QL}{qel:QEL}{pos apos pos':Pos}{m:Str}{C f:J}{prs:List Str}{ps:iT}{pq:PSp}{H₀:Hp}{hs:List (V×T)}{σ:St}{q:Sq}
def cJ.hold{v:V}{t:T}(r:cJ K dl H₀ hs H σ q)(h:Rp K dl H v t []):cJ K dl H₀ ((v,t)::hs) H σ q:=by
 let(F,r):=r;refine(F,r.d,r.g,r.n,r.z,r.o,λp hp=>?_,r.f,r.l)
 obtain z|z:=fH.mp hp
 ·rw[z];exact([],h,λ_ _ _ _ _ z=>nomatch z)
 ·exact r.h p z
def cJ.Rh{v:V}{t:T}(r:cJ K dl H₀ ((v,t)::hs) H σ q)(im:t.im=O):cJ K dl H₀ hs H σ q/\Rp K dl H v t []:=by
 let(F,r):=r;let(Fp,g,_):=r.h (v,t) di;obtain rfl:=g.r.im im;exact((F,r.jB (hv:=[(v,t)])),g)
def hU(h:QPE X K e te qe):QPG X K e (λ_=>te) (λq R _=>qe q λt=>t.im=O/\R t q):=(λ_ _=>h.h,λdl H₀ hs H σ q R W Q Es (F,r) V z _=>h.s dl H σ q _ _ r.rd V λv t Fv H' e1 g (im,P)=>by
 obtain rfl:=g.r.im im;exact z v t q H' (F,r.evo e1) g P)
def vL(h:Xm X K e te qel):QPG X K e (λ_=>te) (λq R _=>qel q R):=(λ_ _=>h.h,λdl H₀ hs H σ q R W Q Es r z g _=>h.s dl H₀ hs H σ q R Q r z g)
def cz:Az X K [] (λ_=>f9) (λq R _=>R [] q):=(λ_ _=>dW,λdl H₀ hs H σ q R W Q Es r P g _=>g [] [] q H r (.nil,λ_ z=>nomatch z) P)
def cQ(he:QPG X K e tg qg)(hr:Az X K es ta qa)(hs:‹AC X e es›):Az X K (e::es) (λEs=>bP (tg Es) (ta Es)) (λq R W=>qg q (λt q'=>t.im=O/\qa q' (λts P=>R (t::ts) P) W) W) :=
 (λEs a=>bh (he.h Es a) (hr.h Es a) hs,λdl H₀ hs H σ q R W Q Es r hq kk kx=>he.s dl H₀ hs H σ q _ W _ Es r hq (λv t q' H' r' rv (im,V) =>
  hr.s dl H₀ ((v,t)::hs) H' σ q' _ W _ Es (r'.hold rv) V (λvs ts P H2 r2 rs V=>by
   let(r3,g):=r2.Rh im;exact kk _ _ P H2 r3 (.cons g.r rs.r,λ_ z=>nomatch z) V) (kx.holds (hv:=[(v,t)]))) kx)
def mV{P}(ha:Az X K es ta qa):QPG X K (.Tuple es P pos) (λEs=>Jv (ta Es)) (λq R W=>qa q (λts q'=>ts.length<=px/\R (.t ts) q') W) :=
 (λEs a=>D4 (ha.h Es a),λdl H₀ hs H σ q R W Q Es r hq kk V=>ha.s dl H₀ hs H σ q _ W _ Es r hq (λvs ts q' H' (F,r') rs (hl,hz)=>(by rw[rs.r.len];exact hl,λp hp=>by
  have ev:Evo dl H' (upd H' p (.tup vs)):=(Evo.refl r'.d).new hp;have g:=rs.evo r'.d ev;exact kk _ _ q' _ (F,r'.evo ev) (.t aC g.r,λ_ z=>nomatch z) hz)) V)
theorem HE(F:aS X.prog X.w X.K X.mg X.base CX0 k f fd prs (spQ K pq))(hr:bS k X.A)(hg:Gl X x)(hm:X.mg x=Z (.ref f))(hk:W.keepIn X.K (.ref f)=O)(hb:Binds X.K fd prs [])(ho:PE X o (bX i))(ha:Az X K es ta qa)
  (ak:AS x:=by decide) (he:‹AC X o es›) (ah:‹AM X pos es›):
  QPG X K (.Call (.Name x pos') (o::es) [] pos) (λEs=>A1 (spQ K pq) [] E0 (bP (bX i) (ta Es))) (λq R W=>(∃t,q[i]?=Z (.o t))/\qa q (λts q'=>Ex2 (λt=>q'[i]?=Z (.o t)) λt=>pq (t::ts) λt=>t.im=O/\R t q') W) :=
 (λEs a=>zF F hr hg hm hk hb .nil ud (bh ho (ha.h Es a) he) ak he ah,λdl H₀ hs H σ q R W Q Es r V kk kx=>by
  let((t0,e0),V):=V;let(F,r):=r;let(v,hv,av):=r.g i _ _ e0 U;refine(v,hv,ha.s dl H₀ hs H σ q _ W _ Es (F,r) V (λvs ts q' H' (F,r') rs z=>?_) kx)
  let(t,e1,z):=z;let(v',P,rp):=r'.g i _ _ e1 U;rw[hv]at P;cases P;rw[qp];refine(dl,t::ts,F i ++ [],_,r'.d,(.cons rp.r rs.r,λb hb=>rp.n b (by rwa [qp]at hb)),z,λv t F' H2 ev rv _ _ aq=>?_)
  let(im,z):=aq;obtain rfl:=rv.r.im im;exact kk v t q' H2 (F,r'.evo ev) rv z)
def Sb(i:Nat)(ps:iT)(qa:QAG):QG:=λq R W=>(∃t,q[i]?=Z (.o t))/\qa q (λts q'=>Ex2 (λt=>q'[i]?=Z (.o t)) λt=>∀a,ps (lv a t::ts) (λr us=>r.im=O/\on1 us λu=>R r (q'.set i (.o (lb t u)))) (W (q'.set i .no))) W
theorem jr(F:aS X.prog X.w X.K X.mg X.base (CX1 X.prog X.w) k f fd prs (spG K [0] [0] ps))(hr:bS k X.A)(hg:Gl X x)(hm:X.mg x=Z (.ref f))(hk:W.keepIn X.K (.ref f)=O)(hb:Binds X.K fd prs [])(ho:PE X o (bX i))(ha:Az X K es ta qa)
  (ah:AS x:=by decide) (he:‹AC X o es›) (V:‹AM X pos es›):
  QPG X K (.Call (.Name x pos') (o::es) [] pos) (λEs=>sA (spG K [0] [0] ps) Es (bP (bX i) (ta Es))) (Sb i ps qa) :=
 (λEs a=>qQ F hr hg hm hk hb a (bh ho (ha.h Es a) he) ah he V,λdl H₀ hs H σ q R W Q Es r P kk kx=>by
  let((t0,e0),P):=P;let(F,r):=r;let(v,hv,ak):=r.g i _ _ e0 U;refine(v,hv,ha.s dl H₀ hs H σ q _ W _ Es (F,r) P (λvs ts q' H' (F,r') rs z=>?_) kx)
  let(t,e1,z):=z;exact Qg r' e1 hv (p:=[]) U U rs z kk kx)
def R9(i j:Nat)(ps:iT)(qa:QAG):QG:=λq R W=>(∃t,q[i]?=Z (.o t))/\(∃t,q[j]?=Z (.o t))/\qa q (λts q'=>Ex2 (λt=>q'[i]?=Z (.o t)) λt=>Ex2 (λt=>q'[j]?=Z (.o t)) λg=>∀a b,ps (lv a t::lv b g::ts) (λr us=>r.im=O/\on2 us λu z=>R r ((q'.set i (.o (lb t u))).set j (.o (lb g z)))) (W ((q'.set i .no).set j .no))) W
theorem Km{o2:EQ}(aq:i≠j)(F:aS X.prog X.w X.K X.mg X.base (CX1 X.prog X.w) k f fd prs (spG K [0,1] [0,1] ps))(hr:bS k X.A)(hg:Gl X x)(hm:X.mg x=Z (.ref f))(hk:W.keepIn X.K (.ref f)=O)(hb:Binds X.K fd prs [])(ho:PE X o (bX i))(ak:PE X o2 (bX j))(ha:Az X K es ta qa)
  (aD:AS x:=by decide) (he:‹fx (o::o2::es) X.env=(ϊ,eval o X.env)::fx (o2::es) X.env›) (av:‹AC X o2 es›) (ah:‹(backTo pos (fx (o2::es) X.env)).any (·.1)=false›):
  QPG X K (.Call (.Name x pos') (o::o2::es) [] pos) (λEs=>sA (spG K [0,1] [0,1] ps) Es (bP (bX i) (bP (bX j) (ta Es)))) (R9 i j ps qa) :=
 (λEs a=>qQ F hr hg hm hk hb a (bh ho (bh ak (ha.h Es a) av) he) aD he ah,λdl H₀ hs H σ q R W Q Es r V kk kx=>by
  let((t0,e0),(t1,e1),V):=V;let(F,r):=r;let(v,hv,_):=r.g i _ _ e0 U;let(v2,z,_):=r.g j _ _ e1 U;refine(v,hv,v2,z,ha.s dl H₀ hs H σ q _ W _ Es (F,r) V (λvs ts q' H' (F,r') rs P=>?_) kx)
  let(t,e1,t2,e2,P):=P;exact Qf r' aq e1 hv (p:=[]) U U e2 z (p2:=[]) U U rs P kk kx)
def DT(j:Nat)(C:J)(m:Str)(ps:iT)(ql:QL)(qa:QA):QG:=λq R W=>ql q λp u=>match u with
 |.om x C' ns ts=>C'=C/\(ns.zip ts).lookup m=Y/\qa q λus=>T.ims us=O/\Ex2 (λt=>q[j]?=Z (.o t)) λt=>ps (.om x C' ns ts::us) (λr us=>r.im=O/\on1 us λu'=>R r (q.set j (.o (T.put u' p t)))) (W (q.set j .no))
 |_=>False
def yj(ho:UK K j to qo)(ha:Ay K n tl ql):Xh K (λEs=>sy C m (spG K [0] [0] ps) Es to tl) (DT j C m ps qo ql):=λdl H₀ hs H σ q R W Q Es hr hq kk kx=>by
 let(F,r):=hr;refine ho dl H σ q _ _ r.rd hq λt v p u w hj hv z hw g=>?_
 split at g
 ·rename_i x C' ns ts;let(U,hl,g):=g;let(Fu,ru):=r.rd.part hj hv z hw;let(dx,vs,G,U,eF,h1,h2,h3,h4):=ru.r.omm;let(v2,w2,aq,V,P,_):=r.mod hj z;rw[hv]at V;cases V;cases hw.uniq (P H (.refl r.d));refine(x,dx,_,U,h1,(yr h4.len).mp hl,ha dl H σ q _ _ r.rd g λws us Fa H2 e2 r2 _ g=>?_)
  let(ak,g):=g;obtain rfl:=r2.r.im ak;let(t',ah,g):=g;rw[hj]at ah;cases ah;exact Qg (r.evo e2) hj hv z (P H2 e2) r2 (λ_=>g) kk kx
 ·exact g.elim
def gq(V:Cls K C)(hm:Meth K C m f)(G:aS X.prog X.w X.K X.mg X.base (CX1 X.prog X.w) k f fd prs (spG K [0] [0] ps))(hr:bS k X.A)(hb:Binds K fd prs [])(ho:QPL X K j o to qo)(ha:QPA X K (e::es) tl ql)(hK:‹X.K=K›)
  {g:Sem Bool} (q:‹AC X e es›) (z:‹AM X pos es›)
  (Q:‹eval (.Call (.Attribute o m apos) (e::es) [] pos) X.env=(do
   let P <- eval o X.env
   standAt apos.atName
   let(f,first) <- holding [P] (getMethod P m g)
   callWith pos f first (backTo pos (fx (e::es) X.env)) (backToKw pos (keywordEach [] X.env)))›):
  QPG X K (.Call (.Attribute o m apos) (e::es) [] pos) (λEs=>sy C m (spG K [0] [0] ps) Es to tl) (DT j C m ps qo ql):=(λEs a=>by subst hK;exact Br ho.h V hm G hr hb a ha.h q z Q,yj ho.s ha.s)
def cH(P:Cls K C)(hm:Meth K C m f)(G:aS X.prog X.w X.K X.mg X.base (CX1 X.prog X.w) k f fd prs (spG K [0] [0] ps))(hr:bS k X.A)(V:Binds K fd prs [])(ho:QPL X K j o to qo)(hK:‹X.K=K›)
  {g:Sem Bool} (z:‹eval (.Call (.Attribute o m apos) [] [] pos) X.env=(do
   let q <- eval o X.env
   standAt apos.atName
   let(f,first) <- holding [q] (getMethod q m g)
   callWith pos f first (backTo pos (fx [] X.env)) (backToKw pos (keywordEach [] X.env)))›):
  QPG X K (.Call (.Attribute o m apos) [] [] pos) (λEs=>sy C m (spG K [0] [0] ps) Es to f9) (DT j C m ps qo λ_ Q=>Q []):=(λEs a=>by subst hK;exact HL ho.h P hm G hr V a z,yj ho.s vD)
def N4(j i:Nat)(C:J)(m:Str)(ps:iT)(ql:QL):QG:=λq R W=>ql q λp u=>match u with
 |.om x C' ns ts=>C'=C/\(ns.zip ts).lookup m=Y/\Ex2 (λt=>q[j]?=Z (.o t)) λt=>Ex2 (λt=>q[i]?=Z (.o t)) λg=>∀b,ps [.om x C' ns ts,lv b g] (λr us=>r.im=O/\on2 us λu' z=>R r ((q.set j (.o (T.put u' p t))).set i (.o (lb g z)))) (W ((q.set j .no).set i .no))
 |_=>False
def Bk(aG:j≠i)(hc:Cls K C)(hm:Meth K C m f)(G:aS X.prog X.w X.K X.mg X.base (CX1 X.prog X.w) k f fd prs (spG K [0,1] [0,1] ps))(hr:bS k X.A)(hb:Binds K fd prs [])(ho:QPL X K j o to qo)(he:PE X e (bX i))(hK:‹X.K=K›)
  {av:Sem Bool} (ah:‹AC X e []›) (aD:‹(backTo pos (fx [] X.env)).any (·.1)=false›)
  (ht:‹eval (.Call (.Attribute o m apos) [e] [] pos) X.env=(do
   let ov <- eval o X.env
   standAt apos.atName
   let(f,first) <- holding [ov] (getMethod ov m av)
   callWith pos f first (backTo pos (fx [e] X.env)) (backToKw pos (keywordEach [] X.env)))›):
  QPG X K (.Call (.Attribute o m apos) [e] [] pos) (λEs=>sy C m (spG K [0,1] [0,1] ps) Es to (bP (bX i) f9)) (N4 j i C m ps qo):=(λEs a=>by subst hK;exact Br ho.h hc hm G hr hb a (bh he dW ah) ah aD ht,λdl H₀ hs H σ q R W Q Es hr hq kk kx=>by
 let(F,r):=hr;refine ho.s dl H σ q _ _ r.rd hq λt v p u w hj hv ak hw P=>?_
 split at P
 ·rename_i x C' ns ts;let(U,hl,t',aq,t2,hi,P):=P;rw[hj]at aq;cases aq;let(Fu,ru):=r.rd.part hj hv ak hw;let(dx,vs,G,U,eF,h1,h2,h3,h4):=ru.r.omm;let(v2,V,_):=r.g i _ _ hi U;exact(x,dx,_,U,h1,(yr h4.len).mp hl,v2,V,(Qf r aG hj hv ak hw hi V (p2:=[]) U U (ws:=[]) (ts:=[]) (.nil,λ_ z=>nomatch z) (λ_ b=>P b) kk kx))
 ·exact P.elim)
end
variable{op:CmpOp}{rq:Q2}
section
variable{X:Cx}{K:BT}{i:Nat}{a b e o c:EQ}{es:List EQ}{sa sb:List Fk}{tb to:TE}{tg:(St->XK)->TE}{ta:(St->XK)->TA}{ts us:(St->XK)->TS}{qs qr:QSX}{qb:QE}{qg:QG}{qa:QAG}{qo:QL}{pos apos pos' a7 gD:Pos}{m:Str}{C:J}{H₀:Hp}{hs:List (V×T)}{σ:St}{q:Sq}
def dB(he:QPG X K e tg qg)(hs:‹swapsWith e Y pos.line X.env=pure false›):ox X K (.Expr e pos) (λEs=>mG (tg Es)) (λW D q=>qg q (λ_ q'=>D.nx q') W) :=
 (λEs a _=>jG (he.h Es a) hs,λdl H₀ hs H σ q Dq D W Es r z E x=>he.s dl H₀ hs H σ q _ W _ Es r z (λv t q' H' r' _ g=>E.nx H' σ q' r' g) x)
def qF(he:QPG X K e tg qg):ox X K (.Return (Z e) pos) (λEs=>Jw (tg Es)) (λW D q=>qg q (λt q'=>D.ru q' t) W) :=
 (λEs a _=>pw (he.h Es a),λdl H₀ hs H σ q Dq D W Es r Q E x=>he.s dl H₀ hs H σ q _ W _ Es r Q (λv t q' H' (F,r') g P=>E.ru H' σ q' F v t [] r' g (λ_ z=>nomatch z) mE (λ_ _ z=>nomatch z) P) x)
def cZ(V:X.N.Nodup)(he:QPG X K e tg qg)(hi:‹X.N[i]?=Z x›)(hx:Loc X.env.scope x:=by first|exact .inl rfl|exact .inr U)(hs:‹swapsWith e (Z (.Name x pos')) pos.line X.env=pure false›)(hf:AT X x:=by first|exact .inl rfl|exact .inr rfl|assumption):
  ox X K (.Assign [.Name x pos'] e pos) (λEs=>p7 (tg Es) (jJ i)) (λW D q=>qg q (λt q'=>D.nx (q'.set i (.o t))) W):=(λEs a _=>lj V hi hx (he.h Es a) hs hf,λdl H₀ hs H σ q Dq D W Es r Q E x=>he.s dl H₀ hs H σ q _ W _ Es r Q (λv t q' H' (F,r') g P=>E.nx H' _ _ (r'.gf (.refl r'.d) g (λ_ z=>nomatch z) mE) P) x)
def Ke(Q:X.N.Nodup)(ha:Az X K es ta qa)(hi:‹X.N[i]?=Z x›)(hx:Loc X.env.scope x:=by first|exact .inl rfl|exact .inr U)(hs:‹swapsWith (.List es a7) (Z (.Name x pos')) pos.line X.env=pure false›)(hf:AT X x:=by first|exact .inl rfl|exact .inr rfl|assumption):
  ox X K (.Assign [.Name x pos'] (.List es a7) pos) (λEs=>p7 (Rr (ta Es)) (jJ i)) (λW D q=>qa q (λts q'=>ts.length<=px/\D.nx (q'.set i (.o (.l ts)))) W):=(λEs a _=>lj Q hi hx (K7 (ha.h Es a)) hs hf,λdl H₀ hs H σ q Dq D W Es r P E x=>ha.s dl H₀ hs H σ q _ W _ Es r P (λvs ts q' H' (F,r') rs (hl,z)=>(by rw[rs.r.len];exact hl,λp hp=>by
  have ev:Evo dl H' (upd H' p (.lst vs)):=(Evo.refl r'.d).new hp;exact E.nx _ _ _ (r'.gf ev (.l aC (rs.evo r'.d ev).r,λb g=>by rw[aB.mp g];exact r'.d.nd0 hp) (λb g=>by rw[aB.mp g];exact hp) (by simp)) z)) x)
def jD(ho:PE X o (bX i))(he:QPG X K e tg qg)(hK:‹X.K=K›)(eC:‹attributeBase o "append" X.env (eval o X.env)=eval o X.env›)
  (lJ:‹At X a7 [e]›)
  (eB:‹(apos.endLine==a7.line)=true›) (hs:‹AC X e []›) (d6:‹(backTo a7 (fx [] X.env)).any (·.1)=false›)
  (aq:‹swapsWith (.Call (.Attribute o "append" apos) [e] [] a7) Y gD.line X.env=pure false›):
  ox X K (.Expr (.Call (.Attribute o "append" apos) [e] [] a7) gD) (λEs=>mG (tBM K "list" k8 (bX i) (bP (tg Es) f9))) (λW D q=>(∃xs,q[i]?=Z (.o (.l xs)))/\qg q (λt q'=>Ex2 (λxs=>q'[i]?=Z (.o (.l xs))) λxs=>xs.length<px/\D.nx (q'.set i (.o (.l (xs ++ [t]))))) W) :=
 (λEs a _=>jG (pJ hK ho (he.h Es a) eC lJ eB hs d6) aq,λdl H₀ hs H σ q Dq D W Es (F,r) hq E x=>by
  let((xs,ei),hq):=hq;let(v,hv,rp):=r.g i _ _ ei U;let(p,vs,G,U,eF,h1,h2):=rp.r.lst;refine(_,hv,.inl (U,vs,SqL.of h1),he.s dl H₀ hs H σ q _ W _ Es (F,r) hq (λw t q' H' (F',r') rw hz=>?_) x)
  let(ys,z,hl,hz):=hz;let(v',P,ak):=r'.g i _ _ z U;rw[hv]at P;cases P;let(o1,o2,o3):=r'.o i _ z;let(p',ah,G',e2,V,av,Q):=ak.r.lst;cases e2;refine(p,ah,w,U,U,av,by rw[Q.len];exact hl,(E.nx _ σ _ (r'.sM z hv V (.refl r'.d) (Q.append (.cons rw.r .nil)) ?_ λb hb=>?_) hz))
  ·rw[qp,qp];rw[V]at o1;exact(xh.mp o1).2
  ·rw[qp,qp]at hb;exact .inl hb)
def NP(hc:Cls K C)(hn:bU K C m)(ho:QPL X K j o to qo)(he:QPG X K e tg qg)(hs:‹swapsWith e (Z (.Attribute o m pos')) pos.line X.env=pure false›)(hK:‹X.K=K›):
  ox X K (.Assign [.Attribute o m pos'] e pos) (λEs=>ND K to (tg Es) m) (λW D q=>qg q (λy q'=>qo q' λp u=>match u with
   |.om x C' ns ts=>C'=C/\ns.length<1000/\Ex3 (λt=>q'[j]?=Z (.o t)) (λt=>(q'.set j (.o (T.put (.om x C (putN m ns) (gf m y ns ts)) p t)))) D.nx
   |_=>False) W):=(λEs a _=>by subst hK;exact DX ho.h (he.h Es a) hs,λdl H₀ hs H σ q Dq D W Es r hq E x=>by
 refine he.s dl H₀ hs H σ q _ W _ Es r hq (λy ty q' H1 (F,r) r1 g=>(ho.s dl H1 σ q' _ _ r.rd g λt v p u w hj ah hs hw g=>?_)) x
 split at g
 ·rename_i x C' ns ts;let(U,hl,t',Q,g):=g;rw[hj]at Q;cases Q;let(v2,w2,Fu,P,V,ru,nu,md):=r.mod hj hs;rw[ah]at P;cases P;cases hw.uniq (V H1 (.refl r.d));let(dx,vs,G,U,U,h1,h2,h3,h4):=ru.r.omm;have aq:=h4.len;let(ak,q1,q2,q3):=Rp.fA ru (.refl r.d) r.d h1 r1 nu mE (λ_ z=>nomatch z) (by lia)
  let(F',r'):=md _ _ ak (eM.ze (.refl r.d) di ru.n λxs h=>by rw[h]at h1;cases h1) q1 q2 q3
  exact(x,_,dx,_,U,h1,hc,hn,by rw[Zw];lia,E.nx _ σ _ (_,r') g)
 ·exact g.elim)
def RP{r:R2}(V:OpR X (compareOp op) r)(Q:gX K r rq)(ah:behindInMarks op b=ϊ)(he:QPG X K a tg qg)(hb:QPE X K b tb qb)(h1:kO X K sa ts qs)(h2:kO X K sb us qr):
  ox X K (.If (.Compare a [op] [b] a7) sa sb pos) (λEs=>Nj (A0 (tOp r (tg Es) tb)) (ts Es) (us Es)) (λW D q=>qg q (λv q'=>qb q' λu=>rq v u λt=>match t with|.b c=>if c=O then qs W D q' else qr W D q' |_=>False) W) :=
 (λEs a b=>FV (nQ V (he.h Es a) hb.h ah) (h1.h Es a b) (h2.h Es a b),λdl H₀ hs H σ q Dq D W Es r hq E x=>by
  refine he.s dl H₀ hs H σ q _ W _ Es r hq (λv t q' H' (F,r') rv g=>(hb.s dl H' σ q' _ _ r'.rd g λw u Fw H1 e1 P g=>(Q dl H1 v w t u [] Fw _ _ e1.d (rv.evo r'.d e1) P g λy z Fx H2 e2 rx _ _ g=>?_))) x
  have r2:cJ K dl H₀ hs H2 σ q':=(F,(r'.evo e1).evo e2);cases z with
  |b c =>
   let(U,_):=rx.r.bl;refine(c,U,?_);cases c with
   |true=>exact h1.s dl H₀ hs H2 σ q' Dq D W Es r2 g E x
   |false=>exact h2.s dl H₀ hs H2 σ q' Dq D W Es r2 g E x
  |_=>exact g.elim)
end
section
variable{X:Cx}{K:BT}{i k:Nat}{a b e o c:EQ}{es:List EQ}{te tb to:TE}{ta:(St->XK)->TA}{qa:QAG}{ql:QA}{qo:QL}{pos apos pos' a7 gD:Pos}{m:Str}{C f:J}{prs:List Str}{ps:iT}{H₀:Hp}{hs:List (V×T)}{σ:St}{q:Sq}
def Vu(n:Int)(ql:QL):QL:=λq P=>ql q λp u=>match u with
 |.lp _ xs=>∃m x,ixN xs.length n=Z m/\xs[m]?=Z x/\P (p ++ [.inr m]) x
 |_=>False
def Kh{n:Int}(he:QPL X K j e te qo)(hb:PE X b tb)(hn:∀σ H R,R (.int n) H->tb σ H R)(hs:rX b:=by intro _ _;rfl)(hK:‹X.K=K›):QPL X K j (.Subscript e b pos) (tOp (rIx K) te tb) (Vu n qo) :=
 (by subst hK;exact F6 z6 he.h hb hs,λdl H σ q P R rd hq k=>he.s dl H σ q _ _ rd hq λt v p u w Q hv hs hw g=>by
  split at g
  ·let(m,x,hm,hx,g):=g;let(Fu,V):=rd.part Q hv hs hw;let(vs,G,U,U,h1,h2):=V.r.lpp;let(z,_,_,l1,_):=h2.itm hx;refine hn _ _ _ (.inl (_,vs,n,z,U,U,SqL.of h1,pR (by rw[h2.len];exact hm) l1,k t v _ x z Q hv (T.sub_snoc hs (by unfold T.sub;rw[hx];rfl)) (hw.snoc (show VAt H [.inr m] (.ref _) z from(_,_,z,U,h1,l1,U))) g))
  ·exact g.elim)
def Kg(Q:i≠j)(hc:Cls K C)(hn:bU K C m)(ho:QPL X K j o to qo)(he:PE X e (bX i))(hs:‹swapsWith e (Z (.Attribute o m pos')) pos.line X.env=pure false›)(hK:‹X.K=K›):
  QPS X K (.Assign [.Attribute o m pos'] e pos) (ND K to (bX i) m) (λD q=>Ex2 (λy=>q[i]?=Z (.o y)) λy=>qo q λp u=>match u with
   |.om x C' ns ts=>C'=C/\ns.length<1000/\(ns.zip ts).lookup m=Y/\Ex3 (λt=>q[j]?=Z (.o t)) (λt=>((q.set i .no).set j (.o (T.put (.om x C (putN m ns) (gf m y ns ts)) p t)))) D.nx
   |_=>False):=(by subst hK;exact DX ho.h he hs,λdl H₀ hs H σ q Dq D (F,r) hq E=>by
 let(y,hy,hq):=hq;let(vy,aL,ry):=r.g i _ y hy U;refine(vy,aL,ho.s dl H σ q _ _ r.rd hq λt v p u w hj hv aV hw hz=>?_)
 split at hz
 ·rename_i x C' ns ts;let(U,hl,a0,t',ak,hz):=hz;rw[hj]at ak;cases ak;let(v',ah,rp):=r.g j _ t hj U;rw[hv]at ah;cases ah;let(w',Fu,G,a1,a2,a3,a4):=rp.r.zip p aV;cases hw.uniq (a1 H λ_ _ _ z=>z)
  let(dx,vs,G1,U,U,h1,h2,h3,h4):=a2.omm;let(o1,o2,o3):=r.o j t hj;let(y1,y2,y3):=r.o i y hy;have a5:=h4.len;have m1:∀b,b∈x::dx::G1\/b∈G->b∈F j:=λb P=>a3.mem_iff.mpr (lS.mpr P)
  let(n1,n2,n3):=ya.mp (a3.nodup_iff.mp o1);have apart:∀b,b∈F j->b ∉ F i:=λb P=>o3 i Q b P
  have eF:[i,j].flatMap F=F i++F j:=by simp
  let H':=upd H x (.ins C' dx (L2.fA m vy (ns.zip vs)))
  have V:=m1 x (.inl di);have bB:eM dl H [x] H':=eM.ze (.refl r.d) (aB.mpr U) (λb P=>by rw[aB.mp P];exact rp.n x V) (λxs h=>by rw[h]at h1;cases h1)
  have tf:=bB.tf (λb P=>by rw[aB.mp P];exact r.bO V) r.d
  have keep:∀b,b≠x->∀o,H b=Z o->H' b=Z o:=λb ne o h=>by show upd _ _ _ _=_;rw[aw ne];exact h
  have nx:=xh.mp n1;have aq:=ry.r.d9 tf (λ_ z=>z) λb P=>keep b λz=>apart b (z▸V) P
  have av:=h4.d9 tf (λ_ z=>z) λb P=>keep b λz=>nx.1 (by rw[<- z];exact aJ _ P)
  have rN:=aA.EH (f:=m) aq av h3 a0;have hd2:H' dx=Z (.own x):=keep dx (λz=>nx.1 (by rw[<- z];exact di)) _ h2
  have aG:H' x=Z (.ins C' dx ((putN m ns).zip (gf m vy ns vs))):=by show upd _ _ _ _=_;rw[aC,Fd (by lia)]
  have aD:aI K dl H' (.ref x) (.om x C' (putN m ns) (gf m y ns ts)) _:=.om aG hd2 (zx (by lia)) rN
  let(F2,g1,g2):=a4 H' _ _ tf (λb P o h=>keep b (λz=>n3 x di b P z.symm) o h) aD
  have mem:∀b∈F2,b∈F j\/b∈F i:=λb P=>by
   obtain z|z:=lS.mp (g2.mem_iff.mp P)
   ·obtain z|z:=fH.mp z
    ·exact .inl (z▸V)
    ·obtain z|z:=fH.mp z
     ·exact .inl (m1 b (.inl (by rw[z];exact aJ _ di)))
     ·obtain z|z:=lS.mp z
      ·exact .inl (m1 b (.inl (aJ _ (aJ _ z))))
      ·rw[qp]at z;exact .inr z
   ·exact .inl (m1 b (.inr z))
  have nd:F2.Nodup:=by
   refine g2.nodup_iff.mpr ?_;rw[qp];have p0:(x::dx ::(G1++F i)++G).Perm ((x::dx::G1++G)++F i):=by
    show(x::dx ::(G1++F i++G)).Perm (x::dx ::(G1++G++F i));refine(List.Perm.cons _ (List.Perm.cons _ ?_));rw[AI,AI];exact List.perm_append_comm.append_left G1
   exact p0.nodup_iff.mpr (ya.mpr (a3.nodup_iff.mp o1,y1,λc hc d hd e=>apart c (a3.mem_iff.mpr hc) (e▸hd)))
  have Lv:eM dl H ([i,j].flatMap F) H':=by
   rw[eF];refine(λb o e n=>bB.k b o e λz=>n (by rw[aB.mp z];exact mu _ V),λb y e n=>bB.r b y e λz=>n (by rw[aB.mp z];exact mu _ V),λb xs P e=>?_,bB.d)
   by_cases z:b ∈ [x]
   ·exact bB.l b xs z e
   ·exact(xs,bB.k b _ e z ((lS.mp P).elim (ry.n b) (rp.n b)) λ_ z=>nomatch z)
  have r3:=r.BW (S:=[i,j]) (u':=λ_=>T.put (.om x C' (putN m ns) (gf m y ns ts)) p t) (F':=λn=>if n=j then F2 else []) (q':=(q.set i .no).set j (.o (T.put (.om x C' (putN m ns) (gf m y ns ts)) p t)))
   (λn hn=>by
    obtain z|z:=fH.mp hn
    ·rw[z];exact(y,hy)
    ·rw[aB.mp z];exact(t,hj)) Lv
   (λn hn z=>by
    obtain e|e:=fH.mp hn
    ·rw[e,ui Q.symm,u4 (iZ.mp hy).1]at z;cases z
    ·rw[aB.mp e];simp only[if_pos];exact(v,hv,g1,λb P=>(mem b P).elim (rp.n b) (ry.n b)))
   (λn hn=>by split;exact nd;exact mE)
   (λn hn b P=>by
    rw[eF]
    split at P
    ·exact .inl ((mem b P).elim (mu _) (ot _))
    ·cases P)
   (λn hn l hl ne b P z=>by
    split at P
    ·rename_i e1
     split at z
     ·rename_i e2;exact ne (e2.trans e1.symm)
     ·cases z
    ·cases P)
   (by simp) (λn hn=>by rw[ui λz=>hn (by rw[z];exact aJ _ di),ui λz=>hn (by rw[z];exact di)])
   (λn hn=>by
    obtain e|e:=fH.mp hn
    ·right;rw[e,ui Q.symm,u4 (iZ.mp hy).1];exact(U,if_neg Q)
    ·left;rw[aB.mp e,u4 (by rw[AF];exact(iZ.mp hj).1)])
  exact(x,C',dx,_,U,h1,hc,hn,by rw[Zw];lia,E.nx _ σ _ (_,r3) hz)
 ·exact hz.elim)
def V3:Passes (CX1 X.prog X.w) X E0:=λ_ _ _ _ _ _ _ h=>by
 let(_,_,_,_,_,_,_,_,_,_,_,_,_,_,g):=h;exact g.elim
def Sd(k i:Nat)(C:J)(ps:iT)(qa:QAG):QSX:=λW D q=>(∃xs,q[k]?=Z (.o (.l xs)))/\(∃t,q[i]?=Z (.o t))/\qa q (λts q'=>Ex2 (λxs=>q'[k]?=Z (.o (.l xs))) λxs=>Ex2 (λt=>q'[i]?=Z (.o t)) λt=>xs.length<px/\∀x,ps (.om x C [] []::t::ts) (λr us=>r=.n/\on1 us λu=>D.nx ((q'.set i .no).set k (.o (.l (xs ++ [u]))))) λ_ _ _=>False) W
def HC(ak:i≠k)(M:Mk K C f)(G:aS X.prog X.w X.K X.mg X.base (CX1 X.prog X.w) j f fd prs (spG K [0] [0,1] ps))(hr:bS (j+1) X.A)(hg:Gl X x)(hm:X.mg x=Z (.ref C))(P:Binds K fd prs [])(ho:PE X o (bX k))(hy:PE X b (bX i))(ha:Az X K es ta qa)(hK:‹X.K=K›)
  (eC:‹attributeBase o "append" X.env (eval o X.env)=eval o X.env›)
  (lJ:‹((backTo a7 (fx [.Call (.Name x pos') (b::es) [] pos] X.env)).all (λx=>!x.1)&&(backToKw a7 (keywordEach [] X.env)).all (λx=>x.1.isSome)
   && decide (([.Call (.Name x pos') (b::es) [] pos]:List EQ).length+([]:List Keyword).length+(if([]:List Keyword).isEmpty then 0 else 1)<30))=true›)
  (eB:‹(apos.endLine==a7.line)=true›) (hs:‹fx [.Call (.Name x pos') (b::es) [] pos] X.env=(ϊ,eval (.Call (.Name x pos') (b::es) [] pos) X.env)::fx [] X.env›) (d6:‹(backTo a7 (fx [] X.env)).any (·.1)=false›)
  (a6:‹swapsWith (.Call (.Attribute o "append" apos) [.Call (.Name x pos') (b::es) [] pos] [] a7) Y gD.line X.env=pure false›)
  (bc:AS x:=by decide) (aL:‹AC X b es›) (bb:‹AM X pos es›):
  ox X K (.Expr (.Call (.Attribute o "append" apos) [.Call (.Name x pos') (b::es) [] pos] [] a7) gD) (λEs=>mG (tBM K "list" k8 (bX k) (bP (Fl C (spG K [0] [0,1] ps) [] E0 (bP (bX i) (ta Es))) f9))) (Sd k i C ps qa) :=
 (λEs a _=>jG (pJ hK ho (by subst hK;exact F5 M G hr hg hm P .nil V3 (bh hy (ha.h Es a) aL) bc aL bb) eC lJ eB hs d6) a6,λdl H₀ hs H σ q Dq D W Es (F,r) hq E kx=>by
  let((xs,ek),(t0,ei),hq):=hq;let(v,hv,rp):=r.g k _ _ ek U;let(p,vs,G0,U,eF,h1,h2):=rp.r.lst;let(vy,aG,_):=r.g i _ _ ei U;refine(_,hv,.inl (U,vs,SqL.of h1),vy,aG,ha.s dl H₀ hs H σ q _ W _ Es (F,r) hq (λws ts q' H' (F',r') rs hz=>?_) kx)
  clear eF h1 h2 rp ek ei;let(xs,ek,t,ei,hl,hz):=hz;let(v',ah,rp):=r'.g k _ _ ek U;rw[hv]at ah;cases ah;let(p',vs,G0,ep,eF,h1,h2):=rp.r.lst;cases ep;let(v',ah,ry):=r'.g i _ _ ei U;rw[aG]at ah;cases ah;let(o1,o2,o3):=r'.o k _ ek;let(y1,y2,y3):=r'.o i _ ei;have apart:∀b,b∈F' k->b ∉ F' i:=λb P=>o3 i ak b P
  intro z dz nz V ne;show spG K [0] [0,1] ps (.ref z ::(vy::ws ++ [])) _ _ E0;rw[qp];have Q:Evo dl H' (upd (upd H' dz (.own z)) z (.ins C dz [])):=((Evo.refl r'.d).new V).new (by rw[aw ne.symm];exact nz)
  have ro:Rp K dl (upd (upd H' dz (.own z)) z (.ins C dz [])) (.ref z) (.om z C [] []) [z,dz]:=(.om aC (by rw[aw ne,aC]) U .nil,λb P=>by
   obtain e|e:=fH.mp P
   ·rw[e];exact r'.d.nd0 nz
   ·rw[aB.mp e];exact r'.d.nd0 V)
  have old:∀{n b},b∈F' n->b ∉ [z,dz]:=λ{n b} P e=>by
   have th:=r'.bO P;obtain e|e:=fH.mp e
   ·rw[e]at th;exact th.no nz
   ·rw[aB.mp e]at th;exact th.no V
  have eU:[0,1].flatMap (λn:Nat=>if n=0 then [z,dz]else if n=1 then F' i else [])=[z,dz]++F' i:=by simp
  have aD:=ry.evo r'.d Q;have a5:=rs.evo r'.d Q;refine(dl,_,λn=>if n=0 then [z,dz]else if n=1 then F' i else [],_,_,Q.d,congrArg (· + 2) rs.r.len,λn x y e1 Q=>?_,λn hn=>?_,λn hn=>?_,hz z,λvr r2 Fr us F2 H2 bB told rv _ _ hz=>?_,λ_ _ _ _ _ _ _ hw=>hw.elim)
  ·match n with
   | 0=>cases e1;cases Q;exact ro
   | 1=>cases e1;cases Q;exact aD
   |n+2=>exact(a5.r.im0 U n x y (by simpa using e1) (by simpa using Q),λ_ z=>nomatch z)
  ·rw[mD,mD]at hn;rw[if_neg (by lia),if_neg (by lia)]
  ·obtain e|e:=fH.mp hn
   ·rw[e];refine(by simp[ne.symm],λl hl b P h=>?_)
    rw[if_neg hl]at h
    split at h
    ·exact old h P
    ·cases h
   ·rw[aB.mp e];refine(y1,λl hl b P h=>?_)
    split at h
    ·exact old P h
    ·first|cases h|(rw[if_neg hl]at h;cases h)
  ·let(U,hz):=hz;let(u,U,hz):=on1.inv hz;let(U,_):=rv.r.non;have c1:=told.r 0 0 u (.ref z) U U U;let(d1,d2,_):=told.n 0 Z1;rw[eU]at bB d2;have sep:∀b∈F' k,b ∉ [z,dz]++F' i:=λb P h=>(lS.mp h).elim (old P) (apart b P)
   have kp:∀b∈F' k,∀o,H' b=Z o->H2 b=Z o:=λb P o h=>bB.k b o (Q.k b o h (rp.n b P) (.of (r'.bO P) h)) (sep b P) (rp.n b P) (.of (r'.bO P) h)
   have pk:p∈F' k:=by rw[eF];exact di
   have gk:∀b∈G0,b∈F' k:=λb P=>by rw[eF];exact aJ _ P
   have aV:=kp p pk _ h1;have a0:∀b ∈ [z,dz]++F' i,gH (upd (upd H' dz (.own z)) z (.ins C dz [])) b:=λb P=>(lS.mp P).elim (λh=>ro.r.there b h) λh=>aD.r.there b h
   have av:=(Q.tf r'.d);have a4:=bB.tf a0 Q.d;have l2:=(h2.d9 av (λ_ z=>z) λb P o h=>Q.k b o h (rp.n b (gk b P)) (.of (r'.bO (gk b P)) h)).d9 a4 (λ_ z=>z) λb P o h=>bB.k b o h (sep b (gk b P)) (rp.n b (gk b P)) (.of ((h2.d9 av (λ_ z=>z) λb P o h=>Q.k b o h (rp.n b (gk b P)) (.of (r'.bO (gk b P)) h)).there b P) h)
   have pn:=rp.n p pk;have S4:∀b∈F2 0,b ∉ F' k:=λb P h=>(d2 b P).elim (sep b h) λe=>(r'.bO h).no (Q.free e)
   have a3:=eM.tf (eM.ze (o:=.lst (vs ++ [.ref z])) (.refl bB.d) (aB.mpr U) (λb P=>by rw[aB.mp P];exact pn) (λxs _=>(_,U))) (λb P=>by rw[aB.mp P];exact(_,aV,U)) bB.d
   rw[eF]at o1;have aq:=xh.mp o1;have rl:aI K dl (upd H2 p (.lst (vs ++ [.ref z]))) (.ref p) (.l (xs ++ [u])) (p ::(G0++(F2 0 ++ []))):=.l aC ((l2.append (.cons c1.r .nil)).d9 a3 (λ_ z=>z) λb P o h=>by
    rw[aw λe=>?_];exact h
    subst e;obtain P|P:=lS.mp P
    ·exact aq.1 P
    ·rw[qp]at P;exact S4 _ P pk)
   rw[qp]at rl;have eS:[i,k].flatMap F'=F' i++F' k:=by simp
   have Wl:eM dl H' ([i,k].flatMap F') (upd H2 p (.lst (vs ++ [.ref z]))):=by
    rw[eS];refine(λb o e n nd nr=>?_,λb y e n=>?_,λb ys P e=>?_,λd hd=>(bB.d d hd).other (pn d hd).1 (pn d hd).2)
    ·rw[aw λe=>n (by rw[e];exact mu _ pk)]
     exact bB.k b o (Q.k b o e nd nr) (λh=>(lS.mp h).elim (λh=>by
      obtain h|h:=fH.mp h
      ·rw[h,nz]at e;cases e
      ·rw[aB.mp h,V]at e;cases e) λh=>n (ot _ h)) nd nr
    ·rw[aw λe=>n (by rw[e];exact mu _ pk)]
     let(y1,g1,g2):=Q.r b y e;let(y2,g3,g4):=bB.r b y1 g2 (λh=>(lS.mp h).elim (λh=>by
      obtain h|h:=fH.mp h
      ·rw[h,nz]at e;cases e
      ·rw[aB.mp h,V]at e;cases e) λh=>n (ot _ h))
     exact(y2,Y2 g3 g1,g4)
    ·by_cases ep:b=p
     ·rw[ep];exact(_,aC)
     ·rw[aw ep];obtain P|P:=lS.mp P
      ·exact bB.l b ys (mu _ P) (Q.k b _ e (ry.n b P) λ_ z=>nomatch z)
      ·exact(ys,kp b P _ e)
   have r3:=r'.BW (S:=[i,k]) (u':=λ_=>.l (xs ++ [u])) (F':=λn=>if n=k then p ::(G0++F2 0)else []) (q':=(q'.set i .no).set k (.o (.l (xs ++ [u]))))
    (λn hn=>by
     obtain e|e:=fH.mp hn
     ·rw[e];exact(t,ei)
     ·rw[aB.mp e];exact(_,ek)) Wl
    (λn hn e=>by
     obtain h|h:=fH.mp hn
     ·rw[h,ui ak.symm,u4 (iZ.mp ei).1]at e;cases e
     ·rw[aB.mp h];simp only[if_pos];refine(.ref p,hv,rl,λb P=>?_)
      obtain e|P:=fH.mp P
      ·rw[e];exact pn
      ·exact(lS.mp P).elim (λh=>rp.n b (gk b h)) (c1.n b))
    (λn hn=>by
     split
     ·refine xh.mpr (λh=>(lS.mp h).elim aq.1 λh=>S4 _ h pk,ya.mpr (aq.2,d1,λc hc d hd e=>S4 d hd (e▸gk c hc)))
     ·exact mE)
    (λn hn b P=>by
     rw[eS]
     split at P
     ·obtain e|P:=fH.mp P
      ·rw[e];exact .inl (mu _ pk)
      ·obtain h|h:=lS.mp P
       ·exact .inl (mu _ (gk b h))
       ·obtain h|h:=d2 b h
        ·obtain h|h:=lS.mp h
         ·obtain h|h:=fH.mp h
          ·rw[h];exact .inr nz
          ·rw[aB.mp h];exact .inr V
         ·exact .inl (ot _ h)
        ·exact .inr (Q.free h)
     ·cases P)
    (λn hn l hl ne b P h=>by
     split at P
     ·rename_i e1
      split at h
      ·rename_i Q;exact ne (Q.trans e1.symm)
      ·cases h
     ·cases P)
    (by simp) (λn hn=>by rw[ui λe=>hn (by rw[e];exact aJ _ di),ui λe=>hn (by rw[e];exact di)])
    (λn hn=>by
     obtain e|e:=fH.mp hn
     ·right;rw[e,ui ak.symm,u4 (iZ.mp ei).1];exact(U,if_neg ak)
     ·left;rw[aB.mp e,u4 (by rw[AF];exact(iZ.mp ek).1)])
   exact(U,p,vs,.ref z,U,U,aV,by rw[h2.len];exact hl,E.nx _ σ _ (_,r3) hz))
end
variable{tg:EQ}
section
variable{X:Cx}{K:BT}{i k:Nat}{a b e o c:EQ}{pos apos a7 p1 p2:Pos}{m:Str}{C f:J}{prs:List Str}{ps:PSp}{H₀:Hp}{hs:List (V×T)}{σ:St}{q:Sq}
theorem aA.PL:∀{ts us:List T}{vs:List V}{F:List J},aA K dl H vs (ts++us) F->∃q g P z,vs=q++g/\F=P++z/\aA K dl H q ts P/\aA K dl H g us z
 |[],us,vs,F,h=>([],vs,[],F,U,U,.nil,h)
 |t::ts,us,vs,F,h=>by
  cases h with
  |cons hx hr =>
   let(q,g,P,z,U,U,g1,g2):=aA.PL hr;exact(_::q,g,_++P,z,U,(AI ..).symm,.cons hx g1,g2)
inductive Xl(k:Nat)(C:J)(m:Str)(ps:PSp)(q:Sq)(R:T->Sq->Prop):Prop
 |mk (a ys x ns ts) (h1:q[k]?=Z (.o (.lp a (ys ++ [.om x C ns ts])))) (h2:(ns.zip ts).lookup m=Y) (h3:ps [.om x C ns ts] λt=>t.im=O/\R t (q.set k (.o (.lp a ys))))
def NY(hc:Cls K C)(hm:Meth K C m f)(G:aS X.prog X.w X.K X.mg X.base CX0 j f fd prs (spQ K ps))(hr:bS j X.A)(P:Binds K fd prs [])(ho:PE X o (bX k))(hK:‹X.K=K›)
  (eC:‹attributeBase o "pop" X.env (eval o X.env)=eval o X.env›) (eB:‹(apos.endLine==a7.line)=true›)
  {av:Sem Bool} (ht:‹eval (.Call (.Attribute (.Call (.Attribute o "pop" apos) [] [] a7) m p1) [] [] pos) X.env=(do
   let ov <- eval (.Call (.Attribute o "pop" apos) [] [] a7) X.env
   standAt p1.atName
   let(f,first) <- holding [ov] (getMethod ov m av)
   callWith pos f first (backTo pos (fx [] X.env)) (backToKw pos (keywordEach [] X.env)))›):
  QPG X K (.Call (.Attribute (.Call (.Attribute o "pop" apos) [] [] a7) m p1) [] [] pos) (λ_=>t8 C m (spQ K ps) [] E0 (Rv K "list" Vk (bX k)) f9) (λq R _=>Xl k C m ps q R) :=
 (λ_ _=>by subst hK;exact vT (D6 PySem.F.plainAttrs_list PySem.F.slot_list_pop PySem.F.type_list_pop Lm ho eC eB) hc hm G hr P .nil ud ht,λdl H₀ hs H σ q R W Q Es (F,r) hq kk _=>by
  let(a,ys,x,ns,ts,ek,hl,hz):=hq;let(v,hv,rp):=r.g k _ _ ek U;let(o1,o2,o3):=r.o k _ ek;let(vs,G0,U,eF,h1,h2):=rp.r.lpp;let(ah,aV,F1,F2,U,U,g1,g2):=h2.PL;cases g2 with
  |cons hx hn =>
   rename_i w ws Fx Fn;cases hn;rw[qp]at eF;have ak:a∈F k:=by rw[eF];exact di
   have s1:∀b∈F1,b∈F k:=λb P=>by rw[eF];exact aJ _ (ot _ P)
   have s2:∀b∈Fx,b∈F k:=λb P=>by rw[eF];exact aJ _ (mu _ P)
   rw[eF]at o1;let(n0,n1):=xh.mp o1;let(n2,n3,n4):=ya.mp n1;have an:=rp.n a ak;have V:eM dl H [a] (upd H a (.lst ah)):=eM.ze (.refl r.d) (aB.mpr U) (λb P=>by rw[aB.mp P];exact an) (λ_ _=>(_,U))
   have tf:=V.tf (λb P=>by rw[aB.mp P];exact r.bO ak) r.d
   have kp:∀b,b≠a->∀o,H b=Z o->upd H a (.lst ah) b=Z o:=λb ne o h=>by rw[aw ne];exact h
   have aL:=g1.d9 tf (λ_ z=>z) λb P=>kp b λz=>n0 (by rw[<- z];exact ot _ P)
   have aq:=hx.d9 tf (λ_ z=>z) λb P=>kp b λz=>n0 (by rw[<- z];exact mu _ P)
   have eS:[k].flatMap F=F k:=by simp
   have r2:=r.BW (u':=λ_=>.lp a ys) (q':=q.set k (.o (.lp a ys)))
    (λn hn=>by rw[aB.mp hn];exact(_,ek))
    (by
     rw[eS];refine(λb o e n=>V.k b o e λz=>n (by rw[aB.mp z];exact ak),λb y e n=>V.r b y e λz=>n (by rw[aB.mp z];exact ak),λb xs P e=>?_,V.d)
     by_cases z:b ∈ [a]
     ·exact V.l b xs z e
     ·exact(xs,V.k b _ e z (rp.n b P) λ_ z=>nomatch z))
    (λn hn _=>by
     rw[aB.mp hn];exact(_,hv,.lp aC aL,λb P=>rp.n b ((fH.mp P).elim (λz=>z▸ak) (s1 b))))
    (λ_ _=>xh.mpr (λz=>n0 (ot _ z),n2))
    (λ_ _ b P=>.inl (by rw[eS];exact(fH.mp P).elim (λz=>z▸ak) (s1 b)))
    (λn hn l hl ne=>absurd ((aB.mp hl).trans (aB.mp hn).symm) ne)
    (by simp) (λn hn=>by rw[ui λz=>hn (by rw[z];exact aB.mpr U)])
    (λn hn=>by left;rw[aB.mp hn,u4 (iZ.mp ek).1])
   have aD:=aq;let(dx,ws,G1,U,eG,i1,i2,i3,i4):=aD.omm;refine(_,hv,.inl (U,_,SqL.of h1),a,_,.ref x,U,U,h1,by simp,?_)
   rw[Z6];refine(x,dx,_,U,i1,(yr i4.len).mp hl,?_);refine(dl,[.om x C ns ts],Fx ++ [],_,r2.d,(.cons aq .nil,λb P=>rp.n b (s2 b (by rwa [qp]at P))),hz,λv t F' H2 ev rv _ _ aG=>?_)
   let(im,hz):=aG;obtain rfl:=rv.r.im im;exact kk v t _ H2 (_,r2.evo ev) rv hz)
def Itv(K:BT)(a:J)(n:Nat):It :=
 (λi H=>i<n/\∃xs,SqL K H a xs/\xs.length=n,λi H x H'=>H'=H/\∀xs,SqL K H a xs->xs[n - 1 - i]?=Z x,λi _=>i=n)
theorem Jt{w:Da}{K:BT}(a it:J)(n:Nat):Turn P w K tg (Itv K a n) [it] it (λi h=>h.IsRevIter it a ((n:Int) - 1 - i)) where
 mem:=by simp
 obj:=λi h st b q=>by
  have e:=by simpa using q
  subst e;let(o,e,c,d):=st;exact(o,e,λv z=>by rw[d]at z;cases z)
 keep:=λi h h' st k=>st.at λo e=>k it (by simp) o e
 item:=by
  intro X hP hw hK hc i gd s σ H E I hf st hg;subst hP hw hK;let(hi,xs,hq,hx):=hg;let(its,rv,p,hz):=I.list hq;let(u,hu,ru):=rv.get (x:=xs[n - 1 - i]'(by lia)) (rZ _)
  let(f0,f1,f2,V,f4,Q):=hf it (by simp)
  have g:s.heap.IsRevIter it a ((n - 1 - i:Nat)):=by rw[show((n - 1 - i:Nat):Int)=(n:Int) - 1 - i by lia];exact st
  refine wpAny_pyNext_rev_item g p.isList (by simpa using hu) λh' g sb=>?_
  have I1:=I.turned (t':=s.toks) (λb o q e=>(sb.2 b q).trans e) f0 f1 V f4 Q
  let(o,e,c,d):=id g;exact(u,U,Cj e c d (by decide) (_,H,I1,ru,(U,λys hy=>by rw[I.wj hy hq];exact rZ _),by rw[show(n) - 1 - ((i+1:Nat):Int)=((n - 1 - i:Nat)) - 1 by lia];exact g,λb q=>(hf b q).1))
 done:=by
  intro X hP hw hK hc i gd s σ H E I hf st hg;subst hg;let(f0,f1,f2,V,f4,Q):=hf it (by simp)
  exact wpAny_pyNext_rev_end (I.ok.hd hc) (by rw[show(-1:Int)=(i:Int) - 1 - i by lia];exact st) λh' eb=>(U,I.turned (λb o q e=>eb b o q e) f0 f1 V f4 Q)
 self:=λ_ _ _ _ _ st h=>wpAny_pyIter_revIter st h
def WA(K:BT)(tl:TE):TI:=λσ H R=>tl σ H λx H1=>∃a xs,x=.ref a/\SqL K H1 a xs/\R (Itv K a xs.length) H1
def SR{l:EQ}{tl:TE}(hg:Gl X "reversed")(hm:X.mg "reversed"=Y)(hl:PE X l tl)(hs:‹AD X l›):PI X tg (.Call (.Name "reversed" p2) [l] [] pos) (WA X.K tl):=by
 intro gd s σ H R I h;refine Je (nc I hg hm boot_reversed (PyProof.Rows.callWith_type1 ?_ hs U));rw[hs];refine Calls.spliced_cons (thn (hl gd s σ H _ I h) λu s1 z=>?_)
 let(x,H1,g,Q,a,xs,ex,V,q):=z;subst ex;cases Q;refine Calls.spliced_nil ?_;let(its,P,pl,hz):=g.list V;refine call_reversed_list pl.isList ?_;refine wpAny_pyIter_revIter (_,u0 _ U,U,U) ?_;refine(s1.heap.objs.size,[s1.heap.objs.size],_,_,H1,U,g.kept λb o e=>hL _ e,Jt a _ xs.length,(_,u0 _ U,U,by simp[revObj,P.length]),λb hb=>?_,q)
 have e:=by simpa using hb
 subst e;exact g.ID (qd _) (g.hok.fresh (qd _))
def TU{a:J}{xs:List T}:AB K dl (Itv K a xs.length) xs.reverse [(.ref a,.l xs)] where
 go:=λH i D h hi=>by
  let(F,r):=h _ (aB.mpr U);let(p,vs,G,e,_,h1,h2):=r.r.lst;cases e;exact(by rw[Yg]at hi;exact hi,vs,SqL.of h1,h2.len)
 yld:=λH i x fp v H' D h hx y=>by
  have r:=h _ (aB.mpr U);let(p,vs,G,e,z,h1,h2):=r.r.lst;cases e;let(U,y):=y;have hi:=(iZ.mp hx).1;rw[Yg]at hi;rw[Z4 hi]at hx;let(w,Q,hw,g,hs):=h2.get hx;have P:=y vs (SqL.of h1);rw[hw]at P;cases P;refine(.refl D,Q,(g,λb q=>r.n b ?_),λb q=>.inr (_,aB.mpr U,?_))
  ·rw[z];exact aJ _ (hs b q)
  ·rw[z];exact aJ _ (hs b q)
 stop:=λH D h=>Yg
def Xa(i:Nat):QJ:=λq Q=>match q[i]? with
 |some (.r (.l xs))=>Q xs.reverse q
 |_=>False
def RU(hg:Gl X "reversed")(hm:X.mg "reversed"=Y)(h:PE X e (bX i))(hs:‹AD X e›)(hK:‹X.K=K›):QPJ X K tg (.Call (.Name "reversed" p2) [e] [] pos) (WA K (bX i)) (Xa i):=(by subst hK;exact SR hg hm h hs,λdl H₀ hs H σ q Q R (F0,V) P k=>by
 unfold Xa at P
 split at P
 ·rename_i xs e1;let(v,hv,r):=V.g i _ _ e1 U;have r1:=V.hold r λj u hj b hb=>(V.o j u hj).2.2 i (λz=>by rw[z,hj]at e1;cases e1) b hb
  let(p,vs,G,U,_,h1,h2):=r.r.lst;refine(_,hv,p,vs,U,SqL.of h1,?_);rw[h2.len];exact k _ _ _ H q (F0,r1) TU P
 ·exact P.elim)
end
variable{r':R2}
section
variable{X:Cx}{K:BT}{a b c e:EQ}{ta tb tc:TE}{qa qb qc:QE}{pos:Pos}
def R7(rq g:Q2)(qa qb qc:QE):QE:=λq Q=>qa q λt=>qb q λu=>rq t u λz=>match z with
 |.b k=>if k=O then qc q λw=>g u w Q else Q (.b ϊ)
 |_=>False
def Ks{P:CmpOp}{r:R2}{ah:Q2}(ho:OpR X (compareOp op) r)(hs:gX K r rq)(aq:OpR X (compareOp P) r')(ak:gX K r' ah)(ha:QPE X K a ta qa)(hb:QPE X K b tb qb)(hc:QPE X K c tc qc)
  (hm:lastMarks [op,P] [b,c]=false:=by with_unfolding_all rfl):QPF X K (.Compare a [op,P] [b,c] pos) (Jz r r' ta tb tc) (R7 rq ah qa qb qc):=(Lc ho aq ha.h hb.h hc.h hm,λdl H σ q Q R rd hq k =>
 ha.s dl H σ q _ _ rd hq λv t F H1 e1 r1 hq=>hb.s dl H1 σ q _ _ (rd.evo e1) hq λw u G H2 e2 r2 hq=>hs dl H2 v w t u F G _ _ e2.d (r1.evo e1.d e2) r2 hq λx z F3 H3 e3 r3 _ _ V=>by
  cases z with
  |b l =>
   let(U,_):=r3.r.bl;refine(l,U,?_);have g:=(e1.trans e2).trans e3;cases l with
   |false=>exact k _ _ [] H3 g (.c (.b ϊ)) (λ_ z=>nomatch z) mE V
   |true =>
    exact hc.s dl H3 σ q _ _ (rd.evo g) V λy s F4 H4 e4 r4 V=>ak dl H4 w y u s G F4 _ _ e4.d ((r2.evo e2.d e3).evo e3.d e4) r4 V λx z F' H5 e5 r5 f5 n5 V=>k x z F' H5 ((g.trans e4).trans e5) r5 (λb hb=>(g.trans e4).free (f5 b hb)) n5 V
  |_=>exact V.elim)
def DR(h:QPE X K e ta qa):QPI X K tg e (Wz ta) (asS qa):=(SQ h.h,λdl H σ q Q R rd P k=>h.s dl H σ q _ _ rd P λv t F H' V r g=>by
 split at g
 ·let(U,_):=r.r.str;exact(_,U,k _ _ [] H' V TR (λ_ z=>nomatch z) g)
 ·exact g.elim)
end
section
variable{X:Cx}{K:BT}{H₀:Hp}{hs:List (V×T)}{σ:St}{q:Sq}{F:Nat->List J}{i k:Nat}{ps:iT}{e:EQ}{es:List EQ}{tl:TA}{ql:QA}{pos pos':Pos}{f:J}{prs:List Str}
def Wm{t:T}{v:V}{vs:List V}{ts:List T}{R:T->Sq->Prop}{W:Sq->QW}{Q:VK}{Es:St->XK}(r:Rel K dl H₀ hs H σ q F)(hi:q[i]?=Z (.o t))(hv:σ[i]?=Z (Z v))(hl:vs.length=ts.length)(hj:vs[j]?=Z v)(ro:∀n w u,n≠j->vs[n]?=Z w->ts[n]?=Z u->Rp K dl H w u [])
  (hp:∀a,ps (ts.set j (lv a t)) (λr us=>r.im=O/\on1 us λu=>R r (q.set i (.o (lb t u)))) (W (q.set i .no))) (kk:∀v t q' H',cJ K dl H₀ hs H' σ q'->Rp K dl H' v t []->R t q'->Q v H') (kx:XOk K dl H₀ hs W Es):spG K [j] [j] ps vs H Q (Es σ):=by
 let(v2,w2,Fu,ak,av,ru,nu,md):=r.mod (p:=[]) hi U;rw[hv]at ak;cases ak;cases av H (.refl r.d);let(v3,ah,rp):=r.g i _ t hi U;rw[hv]at ah;cases ah;obtain rfl:=ru.r.uniq rp.r;let(a,r1,bk):=Gh ru.r;have aD:=(iZ.mp hj).1;have eU:[j].flatMap (λn=>if n=j then F i else [])=F i:=by simp
 refine(dl,_,λn=>if n=j then F i else [],_,_,r.d,by rw[AF];exact hl,λn w u e1 e2=>?_,λn hn=>if_neg λz=>?_,λn hn=>?_,hp a,λv r' Fr us F' H' bB told rv _ _ P=>?_,λa C ns us H' bB rx aq=>?_)
 ·by_cases e:n=j
  ·subst e;rw[hj]at e1;cases e1;rw[u4 (by lia)]at e2
   cases e2;rw[if_pos rfl];exact(r1,ru.n)
  ·rw[if_neg e];rw[ui (Ne.symm e)]at e2;exact ro n w u e e1 e2
 ·rw[AF]at hn;lia
 ·rw[aB.mp hn,if_pos rfl];exact(nu,λk hk b _ z=>by rw[if_neg hk]at z;cases z)
 ·let(im,P):=P;let(u',U,P):=on1.inv P;have rp:=told.r 0 j u' _ U U hj;let(n1,n2,_):=told.n 0 Z1;rw[eU]at bB n2;let(F2,r2):=md H' _ (F' 0) bB (bk H' u' _ rp.r,rp.n) n1 n2;obtain rfl:=rv.r.im im;exact kk v r' _ H' (F2,r2) rv P
 ·rw[eU]at bB;have eF:[i].flatMap F=F i:=by simp
  have r2:=r.Md (q':=q.set i .no) (λn hn=>by rw[aB.mp hn];exact(t,hi)) (by rw[eF];exact bB) (by simp) (λn hn=>ui λz=>hn (by rw[z];exact aB.mpr U)) (λn hn=>by rw[aB.mp hn];exact u4 (iZ.mp hi).1)
  exact kx H' σ _ a C ns us r2 rx aq
def R8(i j:Nat)(ps:iT)(ql:QA):QG:=λq R W=>Ex2 (λt=>q[i]?=Z (.o t)) λt=>ql q λts=>∀a,ps (ts.set j (lv a t)) (λr us=>r.im=O/\on1 us λu=>R r (q.set i (.o (lb t u)))) (W (q.set i .no))
theorem mW(G:aS X.prog X.w X.K X.mg X.base (CX1 X.prog X.w) k f fd prs (spG K [j] [j] ps))(hr:bS k X.A)(hg:Gl X x)(hm:X.mg x=Z (.ref f))(hk:W.keepIn X.K (.ref f)=O)(hb:Binds X.K fd prs [])(ha:PF X K (e::es) tl i j ql)
  (V:AS x:=by decide) (he:‹AC X e es›) (P:‹AM X pos es›):
  QPG X K (.Call (.Name x pos') (e::es) [] pos) (λEs=>sA (spG K [j] [j] ps) Es tl) (R8 i j ps ql) :=
 (λEs a=>qQ G hr hg hm hk hb a ha.h V he P,λdl H₀ hs H σ q R W Q Es (F,r) z kk kx=>by
  let(t,hi,z):=z;let(v,hv,_):=r.g i _ _ hi U;exact ha.s dl H σ q v _ _ r.rd hv z λvs ts H1 e1 hl hj ro hz=>(Wm (r.evo e1) hi hv hl hj ro hz kk kx))
end
variable{i:Nat}{H₀:Hp}{q:Sq}{elts:List EQ}{tl:TA}{ql:QA}
section
variable{X:Cx}{K:BT}{a b e o o':EQ}{te to tk tk' tv:TE}{qe qo qk qk' qv:QE}{pos apos a7 p1 p2 p3:Pos}
inductive FN(x:V)(xs:List V)(H:Hp)(Q:VK):Prop
 |mk(z y:Str)(h1:x=.str z)(h2:xs=[.str y])(h0:y.length≠0)(h3:z.length<px)(h4:(Txt.split z y).length<=px)(h5:∀p,H p=Y->Q (.ref p) (upd H p (.lst ((Txt.split z y).map V.str))))
def HY:MtR X "str.split" FN:=by
 intro gd s σ H x xs v us Q I g rs h;let(z,y,U,U,h0,K,hn,q):=h;let(t,U):=g;let(u,U,ru):=Vals.one rs;let(u,U):=ru;have h0:(y.length==0)=false:=by simpa using h0
 have go:∀its tk,Vals ((Txt.split z y).map V.str) its->EP X gd σ Q (.ref s.heap.objs.size) {s with toks:=tk,heap:=s.heap.push {cls:=.type "list",data:=.seq its.toArray}}:=λits tk hv =>
  (.ref _,_,I.laid (o:=.lst ((Txt.split z y).map V.str)) (λb o e=>hL _ e) (qd _) (by rw[gV];exact hn,its,0,hv,u0 _ U),U,q _ (I.hok.fresh (qd _)))
 have one:Txt.split z y=[z]->Vals ((Txt.split z y).map V.str) [.str z t]:=λe=>by rw[e];exact .cons (t,U) .nil
 cases h1:(decide (z.length<y.length)||decide (Builtin.Str.strKind z<Builtin.Str.strKind y))with
 |true =>
  have e:Txt.split z y=[z]:=by unfold Txt.split;rw[if_pos h1]
  exact call_meets PySem.F.slot_str_split (typeIs_str _ _ _) PySem.F.entry_str_split (PySem.F.args_str_split_2 _ _) (meets_str_split_cannot_occur z y t u h1) (go _ _ (one e))
 |false =>
  cases h2:(Builtin.Str.occurrences z y 0 z.length (z.length+1)).isEmpty with
  |true =>
   have e:Txt.split z y=[z]:=by unfold Txt.split;rw[if_neg (by rw[h1];exact r8),if_pos h2]
   exact call_meets PySem.F.slot_str_split (typeIs_str _ _ _) PySem.F.entry_str_split (PySem.F.args_str_split_2 _ _) (meets_str_split_not_found z y t u h1 h0 h2) (go _ _ (one e))
  |false =>
   have e:Txt.split z y=Builtin.Str.partsBetween z (Builtin.Str.occurrences z y 0 z.length (z.length+1)) y.length:=by unfold Txt.split;rw[if_neg (by rw[h1];exact r8),if_neg (by rw[h2];exact r8)]
   exact call_meets PySem.F.slot_str_split (typeIs_str _ _ _) PySem.F.entry_str_split (PySem.F.args_str_split_2 _ _) (meets_str_split_sep z y t u h1 h0 h2 (xj K) (by rw[<- e];exact hn)) (go _ _ (by rw[e];exact yd _ _))
def hZ(x y:Str):(Txt.split x y).length<=x.length+2:=by
 unfold Txt.split
 split
 ·simp
 ·split
  ·simp
  ·rw[PyProof.Rows.len_partsBetween]
   have:=StrLaws.occ_length_le x y 0 x.length (x.length+1)
   lia
def N1(qo qe:QE):QE:=λq Q=>qo q λs=>match s with
 |.s x=>qe q λt=>match t with
  |.s y=>y.length≠0/\x.length+2<px/\Q (.l ((Txt.split x y).map .s))
  |_=>False
 |_=>False
def gG(ho:QPE X K o to qo)(he:QPE X K e te qe)(hK:‹X.K=K›)(eC:‹attributeBase o "split" X.env (eval o X.env)=eval o X.env›)
  (lJ:‹At X a7 [e]›)
  (eB:‹(apos.endLine==a7.line)=true›) (hs:‹AC X e []›) (d6:‹(backTo a7 (fx [] X.env)).any (·.1)=false›):
  QPF X K (.Call (.Attribute o "split" apos) [e] [] a7) (tBM K "str" FN to (bP te f9)) (N1 qo qe):=(by
 subst hK;exact Bs PySem.F.plainAttrs_str PySem.F.slot_str_split PySem.F.type_str_split HY ho.h (bh he.h dW hs) eC lJ eB hs d6,λdl H σ q Q R rd g k=>ho.s dl H σ q _ _ rd g λv t F H1 e1 r1 g=>by
  cases t with
  |s x =>
   let(U,_):=r1.r.str;refine(U,he.s dl H1 σ q _ _ (rd.evo e1) g λw u F2 H2 P r2 g=>?_)
   cases u with
   |s y =>
    let(U,_):=r2.r.str;let(h0,hl,g):=g;have hn:=hZ x y;refine(x,y,U,U,h0,by lia,by lia,λp hp=>?_)
    have rs:Rps K dl H2 ((Txt.split x y).map V.str) _ []:=(aA.ofS _,λ_ z=>nomatch z)
    exact k _ _ [p] _ ((e1.trans P).new hp) (rs.lst P.d hp) (λb hb=>by rw[aB.mp hb];exact(e1.trans P).free hp) (by simp) g
   |_=>exact g.elim
  |_=>exact g.elim)
def U6(t:TE):TO:=λσ H Q=>t σ H λx H1=>(x=.non/\Q Y H1)\/∃i,x=.int i/\Q (Z i) H1
def SJ(h:PE X e te):PO X (Z e) (U6 te):=by
 intro gd s σ H Q I hw;refine thn (h gd s σ H _ I hw) λu s1 g=>?_
 let(x,H1,K,z,P):=g;obtain⟨rfl,q⟩|⟨i,rfl,q⟩:=P
 ·cases z;exact(Y,H1,K,.none,q)
 ·let(t,U):=z;exact(Z i,H1,K,.int i t,q)
def RT(h:QPE X K e te qe):QPO X K (Z e) (U6 te) (λq Q=>qe q λt=>match t with|.n=>Q Y|.i x=>Q (Z x)|_=>False):=(SJ h.h,λdl H σ q Q R rd z k=>h.s dl H σ q _ _ rd z λv t F H' e r g=>by
 cases t with
 |n =>
  let(U,U):=r.r.non;exact .inl (U,k _ H' e g)
 |i x =>
  let(U,U):=r.r.int;exact .inr (_,U,k _ H' e g)
 |_=>exact g.elim)
inductive UL(i:Nat)(qk:QE)(x:Str)(q:Sq)(Q:Sq->Prop):Prop
 |mk (xs) (h1:q[i]?=Z (.o (.l xs))) (h2:qk q λu=>∃n j,u=.i n/\ixN xs.length n=Z j/\T.ims xs=O/\Q (q.set i (.o (.l (xs.set j (.s x))))))
def VB(i:Nat)(qv qk qk':QE):QS:=λD q=>qv q λt=>∃x y,t=.t [.s x,.s y]/\UL i qk x q λq'=>UL i qk' y q' D.nx
def A5{hs:List (V×T)}{σ:St}{Q:Sq->Prop}{R:St->Hp->Prop}(hk:jz K tk qk)(r:cJ K dl H₀ hs H σ q)(h:UL i qk x q Q)(k:∀H' q',cJ K dl H₀ hs H' σ q'->Q q'->R σ H'):Ck (bX i) tk uc (.str x) σ H R:=by
 let(F,r):=r;let(xs,ei,hq):=h;let(v,P,rp):=r.g i _ _ ei U;refine(v,P,hk dl H σ q _ _ r.rd hq λy u F2 H2 e2 r2 hq=>?_)
 let(n,j,U,hj,hm,hq):=hq;let(U,_):=r2.r.int;have ah:=rp.evo r.d e2;let(p,vs,G,U,eF,h1,h2):=ah.r.lst;have eG:=h2.im hm;subst eG;exact(p,vs,_,j,U,U,h1,by rw[h2.len];exact hj,k _ _ (r.sM ei P eF e2 (aA.set (.s x) j h2 U) mE λ_ z=>nomatch z) hq)
def NQ{k1:_}(ho:PE X o (bX i))(V:PE X o' (bX i))(hv:QPE X K e tv qv)(hk:QPE X K a tk qk)(P:QPE X K b tk' qk')(hK:‹X.K=K›)(hc:‹X.calm=true›)
  (hs:‹swapsWithSole [.Tuple [.Subscript o a p1,.Subscript o' b p2] k1 p3] e pos.line X.env=pure false›) (hw:‹swappedStores [.Tuple [.Subscript o a p1,.Subscript o' b p2] k1 p3] e X.env=pure none›)
  (h1:‹(assignEach [.Tuple [.Subscript o a p1,.Subscript o' b p2] k1 p3] X.env).map (·.2)=[assign (.Tuple [.Subscript o a p1,.Subscript o' b p2] k1 p3) X.env]›)
  (g1:‹(assignEach [.Subscript o a p1,.Subscript o' b p2] X.env).map (·.2)=assign (.Subscript o a p1) X.env ::(assignEach [.Subscript o' b p2] X.env).map (·.2)›)
  (g2:‹(assignEach [.Subscript o' b p2] X.env).map (·.2)=assign (.Subscript o' b p2) X.env ::(assignEach [] X.env).map (·.2)›)
  (hn:‹(assignEach [.Subscript o a p1,.Subscript o' b p2] X.env).length=2›) (Q:‹(assignEach [.Subscript o a p1,.Subscript o' b p2] X.env).findIdx? (·.1)=none›)
  (ha:∀v,assign (.Subscript o a p1) X.env v=(do
   let g <- holding [v] (eval o X.env)
   let iv <- holding [v,g] (eval a X.env)
   standAt p1
   holding [v,g,iv] (setItem g iv v)
   release [v,g,iv] []):=by intro _;rfl)
  (hb:∀v,assign (.Subscript o' b p2) X.env v=(do
   let g <- holding [v] (eval o' X.env)
   let iv <- holding [v,g] (eval b X.env)
   standAt p2
   holding [v,g,iv] (setItem g iv v)
   release [v,g,iv] []):=by intro _;rfl):
  QPS X K (.Assign [.Tuple [.Subscript o a p1,.Subscript o' b p2] k1 p3] e pos) (p7 tv (LV K 2 (yz (Ck (bX i) tk uc) (yz (Ck (bX i) tk' uc) Pd)))) (VB i qv qk qk'):=by
 subst hK;refine(DZ hv.h (K4 hc (fB (zC ho hk.h set_list ha) (fB (zC V P.h set_list hb) vh g2) g1) hn Q) hs hw h1,λdl H₀ hs H σ q Dq D R z E=>?_)
 let(F,r):=R;refine hv.s dl H σ q _ _ r.rd z λw t F1 H1 e1 r1 z=>?_
 let(x,y,U,z):=z;let(p,vs,U,h1,h2):=r1.r.tup;let(U,_):=h2.vs U;refine(p,_,U,SqT.of h1,U,_,_,U,A5 hk.s (F,r.evo e1) z λH2 q2 r2 z=>(_,_,U,A5 P.s r2 z λH3 q3 r3 z=>(U,E.nx _ _ _ r3 z)))
def Xc(ql:QA):QI:=λq Q=>ql q λts=>match ts with|[.l xs]=>Q (rB xs)|_=>False
def Kk{V}(hg:Gl X "enumerate")(hm:X.mg "enumerate"=Y)(wB:bootBuiltins "enumerate"=Z (.type "enumerate"))(ha:QPA X K [a] tl ql)(hs:‹AD X a›)(hK:‹X.K=K›):
  QPI X K (.Tuple elts V pos') (.Call (.Name "enumerate" p) [a] [] pos) (Cc K ϊ tl) (Xc ql):=(vS hK hg hm wB ha.h hs,λdl H σ q Q R rd hq k=>ha.s dl H σ q _ _ rd hq λvs ts F H' e1 r _ z=>by
 split at z
 ·let(v,U,P):=r.one;let(l1,g,G,U,_,h1,h2):=P.r.lst;exact(l1,U,(g,SqL.of h1),k _ _ _ H' e1 qZ (λp hp=>by rw[aB.mp hp];exact(_,P)) z)
 ·exact z.elim)
end
end L2
namespace K04
open PySem L2
abbrev We:Str:="self"
abbrev WF:Str:="_law_deal_here"
abbrev WP:Str:="_law_words"
abbrev W1:Str:="_law_pool_here"
abbrev Th:Str:="_law_at"
abbrev Tk:Str:="_law_text"
abbrev Tl:Str:="_law_word_here"
abbrev Tm:Str:="_law_script"
abbrev Tu:Str:="_law_k"
abbrev Ty:Str:="_law_row"
abbrev TD:Str:="_law_many"
abbrev TW:Str:="_law_body_here"
abbrev TZ:Str:="_law_cell"
abbrev T0:Str:="_law_room"
abbrev Sa:Str:="_law_long"
abbrev Sc:Str:="_law_program"
abbrev Su:Str:="_law_base"
abbrev SB:Str:="_law_found"
abbrev SC:Str:="_law_most"
abbrev SL:Str:="_law_depth"
abbrev ST:Str:="_law_form_here"
def top(i:Nat):Fk:=PySem.Challenge.pw_pursewright_k04_words_amiss.main.body.getD i (.Pass (0,0,0,0))
def inClass(s:Fk)(j:Nat):Fk:=match s with
 |.ClassDef _ _ _ b _ _ _ _ _ _ _=>b.getD j (.Pass (0,0,0,0))
 |s=>s
abbrev fns:List Str:=["row","word","name","maker"]
theorem zU:("row":Str)∈fns:=by simp[fns]
theorem EG:FOk "row":=by unfold FOk;kernel_rfl
abbrev sF:Fk:=inClass (top 2) 0
theorem DA:aE [We,"row"] [We,"row"] (au sF):=by symm
abbrev qj:Fk:=inClass (top 3) 0
abbrev vE:Fk:=inClass (top 5) 0
abbrev vF:Fk:=inClass (top 7) 0
abbrev ib:Fk:=inClass (top 20) 0
theorem sG:aE [We,"row","number"] [We,"row","number"] (au ib):=by symm
abbrev gJ:Fk:=inClass (top 20) 1
theorem qz:aE [We] [We] (au gJ):=by symm
abbrev fu:Fk:=inClass (top 20) 2
theorem mK:aE [We] [We] (au fu):=by symm
abbrev ia:Fk:=inClass (top 20) 3
theorem kz:aE [We,"word"] [We] (au ia):=by symm
abbrev fq:Fk:=inClass (top 20) 4
theorem mJ:aE [We,"due"] [We,"due"] (au fq):=by symm
abbrev eQ:Fk:=inClass (top 20) 5
theorem g9:aE [We,"word"] [We] (au eQ):=by symm
abbrev cS:Fk:=inClass (top 20) 6
theorem fX:aE [We,"due","names"] [We,"due"] (au cS):=by symm
abbrev dR:Fk:=inClass (top 20) 7
theorem gO:aE [We,"word"] [We] (au dR):=by symm
abbrev gE:Fk:=inClass (top 20) 8
theorem oY:aE [We] [We] (au gE):=by symm
abbrev ic:Fk:=inClass (top 21) 0
theorem sH:aE [We,"heads","looked"] [We,"heads","looked"] (au ic):=by symm
abbrev eR:Fk:=inClass (top 21) 1
theorem hJ:aE [We,"words","maker"] [We,"words"] (au eR):=by symm
abbrev dS:Fk:=inClass (top 21) 2
theorem kW:aE [We,"body"] [We,"body"] (au dS):=by symm
abbrev gK:Fk:=inClass (top 21) 3
theorem qD:aE [We] [We] (au gK):=by symm
abbrev sJ:Fk:=top 15
theorem DB:aE ["text"] ["text"] (au sJ):=by symm
abbrev pb:Fk:=top 16
theorem Ba:aE ["text"] ["text"] (au pb):=by symm
abbrev zo:Fk:=top 17
theorem JW:aE ["text","signs","longest"] ["text","signs","longest"] (au zo):=by symm
abbrev DF:Fk:=top 19
theorem kR:aE ["text","kinds","functions","rows","number","row","words"] ["text"] (au DF):=by symm
abbrev mL:Fk:=top 22
theorem kQ:aE ["words","name","makers"] ["words"] (au mL):=by symm
abbrev kX:Fk:=top 23
theorem jX:aE ["words","maker","fields"] ["words"] (au kX):=by symm
abbrev iO:Fk:=top 24
theorem cC:aE ["words","name","params","param","kind","body"] ["words"] (au iO):=by symm
abbrev mO:Fk:=top 25
theorem dU:aE ["words","cases","heads","word","whole"] ["words"] (au mO):=by symm
abbrev k6:Fk:=top 26
theorem oB:aE ["words","cases","body"] ["words","cases","body"] (au k6):=by symm
abbrev jY:Fk:=top 27
theorem jn:aE ["heads","body","head"] ["heads","body"] (au jY):=by symm
abbrev mM:Fk:=top 28
theorem qq:aE ["words","word","coins"] ["words","word"] (au mM):=by symm
abbrev oZ:Fk:=top 29
theorem jC:aE ["words","bound","word","used"] ["words"] (au oZ):=by symm
abbrev DL:Fk:=top 31
theorem qy:aE [Tm,Su,"_law_cells","_law_number",TZ] [Tm,Su] (au DL):=by symm
abbrev DK:Fk:=top 32
theorem vd:aE [WF,TD,"_law_number","_law_one_here","_law_other"] [WF,TD] (au DK):=by symm
abbrev DH:Fk:=top 33
theorem nM:aE [WF,"_law_taken",ST,"_law_near",TD,Tl] [WF] (au DH):=by symm
abbrev DG:Fk:=top 34
theorem kS:aE [WF,SB,Tl,Th,Tu,"_law_letter","_law_other"] [WF] (au DG):=by symm
abbrev mP:Fk:=top 35
theorem qw:aE [Tl,"_law_taken"] [Tl] (au mP):=by symm
abbrev JX:Fk:=top 36
theorem RI:aE [WF,W1] [WF,W1] (au JX):=by symm
abbrev DD:Fk:=top 37
theorem NC:aE [WF,W1,SC] [WF,W1,SC] (au DD):=by symm
abbrev DI:Fk:=top 38
theorem zk:aE [WF,W1,"_law_makers",Tu] [WF,W1] (au DI):=by symm
abbrev DN:Fk:=top 39
theorem i5:aE [WF,W1,T0,SL,Sa,ST,"_law_coins","_law_x","_law_y","_law_names",TD,"_law_arms",Tu] [WF,W1,T0,SL,Sa] (au DN):=by symm
abbrev DJ:Fk:=top 40
theorem gN:aE [WF,W1,"_law_large","_law_kinds","_law_functions",T0,Sa,Tu,"_law_params","_law_j",TW] [WF] (au DJ):=by symm
abbrev mR:Fk:=top 41
theorem bZ:aE [TW,SB,"_law_arms","_law_maker","_law_names","_law_inner"] [TW] (au mR):=by symm
abbrev DE:Fk:=top 42
theorem gM:aE [Sc,"_law_lines","_law_name_here","_law_makers","_law_parts","_law_params","_law_kind_here",TW,WP,"_law_param"] [Sc] (au DE):=by symm
abbrev DC:Fk:=top 43
theorem NA:aE [WP,Th] [WP,Th] (au DC):=by symm
abbrev jo:Fk:=top 44
theorem lW:aE [WP,Th] [WP,Th] (au jo):=by symm
abbrev kY:Fk:=top 45
theorem xA:aE [Tl] [Tl] (au kY):=by symm
abbrev k7:Fk:=top 46
theorem oC:aE [WP,Th] [WP,Th] (au k7):=by symm
abbrev j4:Fk:=top 47
theorem fv:aE [WP,Th,Tl,"_law_good","_law_deed"] [WP,Th] (au j4):=by symm
abbrev j6:Fk:=top 48
theorem b7:aE [WP,Th,"_law_cases"] [WP,Th] (au j6):=by symm
abbrev mQ:Fk:=top 49
theorem kU:aE [WP,Th] [WP] (au mQ):=by symm
abbrev iP:Fk:=top 50
theorem ku:aE [WP,Th] [WP] (au iP):=by symm
abbrev jZ:Fk:=top 51
theorem dA:aE [Tk,"_law_functions",Ty,"_law_line",WP] [Tk] (au jZ):=by symm
abbrev pe:Fk:=top 52
theorem dP:aE [WF,W1,Tl,"_law_taken",ST,"_law_some_here",Th,"_law_signs","_law_turn"] [WF,W1,Tl] (au pe):=by symm
abbrev vH:Fk:=top 53
theorem dy:aE [WF,Ty,W1,WP,Th,Tl,"_law_turn","_law_place"] [WF,Ty,W1] (au vH):=by symm
abbrev vI:Fk:=top 54
theorem Hx:aE [Ty] [Ty] (au vI):=by symm
abbrev sI:Fk:=top 55
theorem ie:aE [Tk,SB,"e","_law_other"] [Tk] (au sI):=by symm
abbrev zm:Fk:=top 56
theorem qm:aE [Tk,"_law_wrong","_law_ahead",SB] [Tk] (au zm):=by symm
abbrev kZ:Fk:=top 57
theorem xB:aE [Tk] [Tk] (au kZ):=by symm
abbrev ub:Fk:=top 58
theorem kT:aE [Tm,WF,Sc,W1,"_law_good",Tu,Th,Tk] [Tm] (au ub):=by symm
set_option genInjectivity false in
structure Adr where
 aG:J
 aV:J
 gm:J
 tJ:Ch
 bF:J
 c7:J
 rC:Ch
 cF:J
 ck:J
 fP:J
 wN:Ch
 dJ:J
 cm:J
 fQ:J
 wO:Ch
 fR:J
 aq:J
 cU:J
 iR:Ch
 dF:J
 iz:Ch
 cu:J
 gh:Ch
 eD:J
 iQ:Ch
 cq:J
 gg:Ch
 cb:J
 fF:Ch
 bG:J
 dh:Ch
 bV:J
 eZ:Ch
 c8:J
 gT:Ch
 aD:J
 cV:J
 iS:Ch
 cc:J
 fG:Ch
 bW:J
 fb:Ch
 dG:J
 iA:Ch
 nZ:J
 yE:Ch
 lM:J
 wR:Ch
 vp:J
 GG:Ch
 wG:J
 EL:Ch
 jL:J
 uw:Ch
 i8:J
 rD:Ch
 gw:J
 lY:Ch
 jN:J
 uy:Ch
 jb:J
 rG:Ch
 iE:J
 oK:Ch
 jM:J
 ux:Ch
 lL:J
 wQ:Ch
 Ai:J
 Mr:Ch
 Ah:J
 Mq:Ch
 Af:J
 Mn:Ch
 Ae:J
 Mm:Ch
 jO:J
 uz:Ch
 Gx:J
 QQ:Ch
 Ac:J
 Mj:Ch
 Ag:J
 Mp:Ch
 Aj:J
 Ms:Ch
 wH:J
 EM:Ch
 jQ:J
 uB:Ch
 Ad:J
 Ml:Ch
 Ab:J
 Mi:Ch
 gS:J
 ni:Ch
 i9:J
 rE:Ch
 jc:J
 rH:Ch
 iG:J
 oN:Ch
 iH:J
 oO:Ch
 jP:J
 uA:Ch
 gx:J
 lZ:Ch
 iF:J
 oM:Ch
 lN:J
 wU:Ch
 q9:J
 Cs:Ch
 rg:J
 Ct:Ch
 nY:J
 yD:Ch
 vo:J
 GF:Ch
 ja:J
 rF:Ch
 yB:J
 QR:Ch
 fU:J
structure Txt(K:BT)(mg:Str->Option B)(a:Adr):Prop where
 pX:cv K fns a.aG (bmV) Y
 oG:mg "PurseError"=Z (.ref a.aG)
 M0:W.keepIn K (.ref a.aG)=O
 cW:cv K fns a.aV (.ref a.aG::bmV) (Z a.gm)
 iw:mg "NoText"=Z (.ref a.aV)
 ji:W.keepIn K (.ref a.aV)=O
 oh:Fun K "__init__" "NoText.__init__" sF a.gm a.tJ
 jj:W.isFn K (.ref a.gm)=O
 jl:Binds K a.tJ [We,"row"] []
 AU:cv K fns a.bF (.ref a.aG::bmV) (Z a.c7)
 zS:mg "NoProgram"=Z (.ref a.bF)
 O1:W.keepIn K (.ref a.bF)=O
 lT:Fun K "__init__" "NoProgram.__init__" qj a.c7 a.rC
 Pl:W.isFn K (.ref a.c7)=O
 Pu:Binds K a.rC [We,"word","name"] []
 Ha:cv K fns a.cF (.ref a.aG::bmV) Y
 Ef:mg "NoValue"=Z (.ref a.cF)
 Tt:W.keepIn K (.ref a.cF)=O
 Hb:cv K fns a.ck (.ref a.aG::bmV) (Z a.fP)
 Eg:mg "NoPaper"=Z (.ref a.ck)
 Tv:W.keepIn K (.ref a.ck)=O
 pV:Fun K "__init__" "NoPaper.__init__" vE a.fP a.wN
 Uj:W.isFn K (.ref a.fP)=O
 Uq:Binds K a.wN [We,"row"] []
 Jk:cv K fns a.dJ (.ref a.aG::bmV) Y
 HX:mg "NoTurn"=Z (.ref a.dJ)
 UU:W.keepIn K (.ref a.dJ)=O
 Hc:cv K fns a.cm (.ref a.aG::bmV) (Z a.fQ)
 Eh:mg "NoChain"=Z (.ref a.cm)
 Tw:W.keepIn K (.ref a.cm)=O
 pW:Fun K "__init__" "NoChain.__init__" vF a.fQ a.wO
 Uk:W.isFn K (.ref a.fQ)=O
 Ur:Binds K a.wO [We,"maker"] []
 Ng:cv K fns a.fR (.ref a.aG::bmV) Y
 Lk:mg "NoRow"=Z (.ref a.fR)
 Wt:W.keepIn K (.ref a.fR)=O
 av:Cls K a.aq
 BO:mg "RowWords"=Z (.ref a.aq)
 BQ:Mk K a.aq a.cU
 gQ:bU K a.aq "words"
 bJ:bU K a.aq "number"
 fe:bU K a.aq "place"
 gA:Fun K "__init__" "RowWords.__init__" ib a.cU a.iR
 Ia:Meth K a.aq "__init__" a.cU
 uT:Binds K a.iR [We,"row","number"] []
 fV:Fun K "ahead" "RowWords.ahead" gJ a.dF a.iz
 cj:Meth K a.aq "ahead" a.dF
 cG:Binds K a.iz [We] []
 dw:Fun K "has_more" "RowWords.has_more" fu a.cu a.gh
 c4:Meth K a.aq "has_more" a.cu
 du:Binds K a.gh [We] []
 gy:Fun K "take" "RowWords.take" ia a.eD a.iQ
 dE:Meth K a.aq "take" a.eD
 eJ:Binds K a.iQ [We] []
 dv:Fun K "take_due" "RowWords.take_due" fq a.cq a.gg
 a5:Meth K a.aq "take_due" a.cq
 bc:Binds K a.gg [We,"due"] []
 c9:Fun K "take_name" "RowWords.take_name" eQ a.cb a.fF
 aL:Meth K a.aq "take_name" a.cb
 aO:Binds K a.fF [We] []
 b6:Fun K "take_names_to" "RowWords.take_names_to" cS a.bG a.dh
 fZ:Meth K a.aq "take_names_to" a.bG
 gn:Binds K a.dh [We,"due"] []
 cN:Fun K "take_coins" "RowWords.take_coins" dR a.bV a.eZ
 lD:Meth K a.aq "take_coins" a.bV
 mv:Binds K a.eZ [We] []
 fh:Fun K "finish" "RowWords.finish" gE a.c8 a.gT
 pK:Meth K a.aq "finish" a.c8
 rP:Binds K a.gT [We] []
 bE:Cls K a.aD
 BP:mg "OpenCase"=Z (.ref a.aD)
 BR:Mk K a.aD a.cV
 jH:bU K a.aD "heads"
 jt:bU K a.aD "looked"
 ip:bU K a.aD "arms"
 fE:bU K a.aD "arm_head"
 gB:Fun K "__init__" "OpenCase.__init__" ic a.cV a.iS
 Ib:Meth K a.aD "__init__" a.cV
 uU:Binds K a.iS [We,"heads","looked"] []
 de:Fun K "begin_arm" "OpenCase.begin_arm" eR a.cc a.fG
 hX:Meth K a.aD "begin_arm" a.cc
 iM:Binds K a.fG [We,"words"] []
 cO:Fun K "finish_arm" "OpenCase.finish_arm" dS a.bW a.fb
 lE:Meth K a.aD "finish_arm" a.bW
 mx:Binds K a.fb [We,"body"] []
 fW:Fun K "whole" "OpenCase.whole" gK a.dG a.iA
 qU:Meth K a.aD "whole" a.dG
 tQ:Binds K a.iA [We] []
 nd:[a.aG,a.aV,a.bF,a.cF,a.ck,a.dJ,a.cm,a.fR].Nodup
 yV:Dn K mg "is_name" sJ a.nZ a.yE ["text"]
 xo:Dn K mg "is_coins" pb a.lM a.wR ["text"]
 AO:Dn K mg "is_of" zo a.vp a.GG ["text","signs","longest"]
 AN:Dn K mg "read" DF a.wG a.EL ["text"]
 jR:Dn K mg "read_kind" mL a.jL a.uw ["words"]
 d8:Dn K mg "read_maker" kX a.i8 a.rD ["words"]
 gC:Dn K mg "read_function" iO a.gw a.lY ["words"]
 jT:Dn K mg "read_body" mO a.jN a.uy ["words"]
 je:Dn K mg "close_arms" k6 a.jb a.rG ["words","cases","body"]
 gp:Dn K mg "under_heads" jY a.iE a.oK ["heads","body"]
 jS:Dn K mg "read_head" mM a.jM a.ux ["words","word"]
 lU:Dn K mg "read_let" oZ a.lL a.wQ ["words"]
 AQ:Dn K mg "_law_deal" DL a.Ai a.Mr [Tm,Su]
 bo:Dn K mg "_law_draw" DK a.Ah a.Mq [WF,TD]
 MW:Dn K mg "_law_name" DH a.Af a.Mn [WF]
 Fb:Dn K mg "_law_pool" DG a.Ae a.Mm [WF]
 cf:Dn K mg "_law_good_name" mP a.jO a.uz [Tl]
 kP:Dn K mg "_law_one" JX a.Gx a.QQ [WF,W1]
 AJ:Dn K mg "_law_some" DD a.Ac a.Mj [WF,W1,SC]
 MX:Dn K mg "_law_kind" DI a.Ag a.Mp [WF,W1]
 gi:Dn K mg "_law_body" DN a.Aj a.Ms [WF,W1,T0,SL,Sa]
 MY:Dn K mg "_law_form" DJ a.wH a.EM [WF]
 nI:Dn K mg "_law_body_text" mR a.jQ a.uB [TW]
 AK:Dn K mg "_law_rows" DE a.Ad a.Ml [Sc]
 cL:Dn K mg "_law_word" DC a.Ab a.Mi [WP,Th]
 fJ:Dn K mg "_law_behind_names" jo a.gS a.ni [WP,Th]
 sk:Dn K mg "_law_good_coins" kY a.i9 a.rE [Tl]
 lV:Dn K mg "_law_behind_arm" k7 a.jc a.rH [WP,Th]
 oV:Dn K mg "_law_behind_head" j4 a.iG a.oN [WP,Th]
 oW:Dn K mg "_law_behind_body" j6 a.iH a.oO [WP,Th]
 uJ:Dn K mg "_law_good_kind" mQ a.jP a.uA [WP]
 mj:Dn K mg "_law_good_function" iP a.gx a.lZ [WP]
 oU:Dn K mg "_law_first_wrong" jZ a.iF a.oM [Tk]
 xp:Dn K mg "_law_bad_word" pe a.lN a.wU [WF,W1,Tl]
 CY:Dn K mg "_law_spoilt" vH a.q9 a.Cs [WF,Ty,W1]
 CZ:Dn K mg "_law_beyond" vI a.rg a.Ct [Ty]
 yU:Dn K mg "_law_refused" sI a.nY a.yD [Tk]
 AL:Dn K mg "_law_right" zm a.vo a.GF [Tk]
 so:Dn K mg "_law_good_again" kZ a.ja a.rF [Tk]
 Xp:Dn K mg "law" ub a.yB a.QR [Tm]
 gU:mg "len"=Y
 MD:mg "all"=Y
 QV:mg "any"=Y
 xf:mg "list"=Y
 fS:mg "tuple"=Y
 W7:mg "str"=Y
 kM:mg "int"=Y
 Ut:mg "bool"=Y
 xb:mg "reversed"=Y
 QU:mg "max"=Y
 W8:mg "min"=Y
 iJ:mg "range"=Y
 gW:mg "isinstance"=Y
 nt:mg "enumerate"=Y
 Ap:mg "ValueError"=Y
 Ao:mg "KEPT_WORDS"=Z (.ref a.fU)
 zu:∀H:Hp,SqT K H a.fU ([("kind":Str),"def","to","let","make","call","name","case","end","pay","get","give"].map V.str)
 IZ:∃t,mg "LETTERS"=Z (.str "abcdefghijklmnopqrstuvwxyz" t)
 I0:∃t,mg "FIGURES"=Z (.str "0123456789" t)
 w6:∃t,mg "LONGEST_NAME"=Z (.int 8 t)
 uS:∃t,mg "LONGEST_COINS"=Z (.int 7 t)
def fO:Str:="abcdefghijklmnopqrstuvwxyz"
def Gn:List Str:=["kind","def","to","let","make","call"]
def yu:List Str:=["name","case","end","pay","get","give"]
def kept:List Str:=Gn++yu
def near:List Str:=["lets","callx","payer","ender","tom","nameb","makes","gets","giver","kinds","defs","cases"]
theorem Gi{i:Int}(h0:0<=i)(h1:i<26):atI (Str.cps fO).toList i=Z (Eo i.toNat):=by
 obtain⟨n,rfl⟩:∃n:Nat,i=n:=(i.toNat,by lia)
 have h2:n<26:=by lia
 have h3:∀n:Fin 26,atI (Str.cps fO).toList (n.val)=Z (Eo n.val):=by decide +kernel
 have:=h3 (n,h2)
 simpa using this
def tM(m:Mk1):T:=.t [.s m.1,.t (m.2.map .s)]
def tMs(ms:List Mk1):T:=.t (ms.map tM)
def tK(k:Kd):T:=.t [.s k.1,tMs k.2]
def tKs(ks:List Kd):T:=.t (ks.map tK)
theorem ff{α:Type}{f:α->T}(h:∀x,(f x).im=O):∀xs:List α,T.ims (xs.map f)=O
 |[]=>rfl
 |x::r=>by show((f x).im&&T.ims (r.map f))=O;rw[h x,ff h r];rfl
theorem B8(m:Mk1):(tM m).im=true:=by show(O&&(T.ims (m.2.map T.s)&&O))=O;rw[ff (λ_=>rfl)];rfl
theorem T6(m:List Mk1):(tMs m).im=true:=ff B8 m
theorem B9(m:Kd):(tK m).im=true:=by show(O&&((tMs m.2).im&&O))=O;rw[T6];rfl
theorem wy{w:Str}{ws:List Str}:inT (.s w) (ws.map T.s)=inV (.str w) (ws.map V.str):=by
 unfold inT inV;rw[ZU,ZU];rfl
theorem a9(ws:List Str):T.ims (ws.map T.s)=true:=ff (λ_=>rfl) ws
theorem noq{w z:Str}(h:z∈yu):w++("q":Str)≠z:=by
 intro e;have h1:(w++("q")).cps.toList.getLast?=Z 113:=by simp[Str.cps_append,show(Str.ofString "q").cps=#[113]from by decide +kernel]
 rw[e]at h1;have h2:∀z∈yu,z.cps.toList.getLast? ≠ Z 113:=by decide +kernel
 exact h2 z h h1
theorem S2{w:Str}:inV (.str (w++("q":Str))) (yu.map V.str)=false:=by
 cases e:inV (.str (w++("q"))) (yu.map V.str)with
 |false=>rfl
 |true=>exact absurd U (noq (vm.mp e))
theorem EB{w:Str}:inV (.str w) (kept.map V.str)=(inV (.str w) (Gn.map V.str)||inV (.str w) (yu.map V.str)):=by
 unfold kept inV;rw[u9,List.any_append]
theorem rQ{ws:List Str}{i:Int}(h0:0<=i)(h1:i<ws.length):∃w,atI (ws.map T.s) i=Z (.s w)/\w∈ws:=by
 let(v,e,hm):=Uu (xs:=ws.map T.s) h0 (by simpa using h1)
 let(w,hw,U):=Jf.mp hm;exact(w,e,hw)
theorem rK{α β:Type}(f:α->β)(xs:List α)(lo hi:Option Int):eI (xs.map f) lo hi=(eI xs lo hi).map f:=by
 unfold eI;rw[gV,<- ZJ,<- ZK]
variable{n:Nat}
theorem aR(h:n<=1002000):n<px:=Y1 h (by decide)
abbrev nW:Str:="0123456789"
def sgn(signs:Str)(c:Nat):Bool:=!(Builtin.Str.occurrences signs ⟨#[c]⟩ 0 signs.length 1).isEmpty
def ofB(x signs:Str)(n:Int):Bool:=decide (1 <=(x.length:Int))&&(decide ((x.length:Int)<=n)&&x.cps.toList.all (sgn signs))
def ao(x:Str):Bool:=ofB x fO 8 && !inT (.s x) (kept.map .s)
def dH(x:Str):Bool:=ofB x nW 7 && !decide (x.cps.toList.head?=Z 48)
def Sz:PSp:=λts Q=>P3 λx signs n=>ts=[.s x,.s signs,.i n]/\x.length<=1000000/\Q (.b (ofB x signs n))
def KU:PSp:=λts Q=>∃x,ts=[.s x]/\x.length<=1000000/\Q (.b (ao x))
def yo:PSp:=λts Q=>∃x,ts=[.s x]/\x.length<=1000000/\Q (.b (dH x))
def rT(C x:J)(ws:List Str)(n:Int)(p:Nat):L2.T:=.om x C ["words","number","place"] [.l (ws.map .s),.i n,.i p]
inductive Rw(C x:J)(n:Int)(l:List Str):L2.T->Prop
 |mk(ws:List Str)(p:Nat):ws.drop p=l->ws.length<=1000000->(∀w∈ws,w.length<=1000000)->Rw C x n l (rT C x ws n p)
abbrev hd(l:List Str):Str:=l.headD ""
variable{l:List Str}
theorem WR{ws:List Str}{p:Nat}(h:ws.drop p=l):ws[p]?=l.head?:=by rw[<- h,List.head?_drop]
theorem drop_tail{ws:List Str}{p:Nat}(h:ws.drop p=l):ws.drop (p+1)=l.tail:=by rw[<- h,CQ]
variable{C:J}
theorem Rw.next{x:J}{n:Int}{ws:List Str}{p:Nat}(h:ws.drop p=l)(h1:ws.length<=1000000)(h2:∀w∈ws,w.length<=1000000):Rw C x n l.tail (rT C x ws n (p+1)):=.mk ws (p+1) (drop_tail h) h1 h2
theorem Rw.adr{C x:J}{n:Int}{l:List Str}{t:L2.T}(h:Rw C x n l t):t.adr=Z x:=by cases h;rfl
theorem Rw.hd{C x:J}{n:Int}{l:List Str}{t:L2.T}(h:Rw C x n l t):(K04.hd l).length<=1000000:=by
 cases h with
 |mk ws p h1 h2 h3 =>
  cases l with
  |nil=>exact Fs _
  |cons w r=>exact h3 w (GS (by rw[h1];exact di))
theorem Rw.len{x:J}{n:Int}{t:L2.T}(h:Rw C x n l t):l.length<=1000000:=by
 cases h with
 |mk ws p h1 h2 h3=>rw[<- h1,xE];lia
theorem nU(x:Str):x.length=x.cps.toList.length:=rfl
theorem join_le{c:Nat}:∀{ws:List Str}{w:Str},w∈ws->w.length <=(Str.join ⟨#[c]⟩ ws).length
 |[x],w,h=>by rw[aB.mp h];exact qd _
 |x::y::r,w,h=>by
  rw[nU (Str.join _ _),kI,oa,mD];obtain z|z:=fH.mp h
  ·rw[z,nU x];lia
  ·have:=join_le (c:=c) z
   rw[nU (Str.join _ _)]at this
   lia
variable{x:Str}
theorem split_le{w:Str}{c:Nat}(h:w∈Txt.split x ⟨#[c]⟩):w.length<=x.length:=by
 have:=join_le (c:=c) h
 rw[StrLaws.join_split]at this;exact this
def HH(C:J):uY:=λts Q=>P3 λx row n=>ts=[.om x C [] [],.s row,.i n]/\row.length<=900000/\∀t,Rw C x n (Txt.split row " ") t->Q .n t
def Oq(C:J):PSp:=λts Q=>Q4 λx n l t=>ts=[t]/\Rw C x n l t/\Q (.s (hd l))
def Sy(C:J):PSp:=λts Q=>Q4 λx n l t=>ts=[t]/\Rw C x n l t/\Q (.b (!l.isEmpty))
def Sr(C:J):uY:=λts Q=>Q4 λx n l t=>ts=[t]/\Rw C x n l t/\∀t',Rw C x n l.tail t'->Q (.s (hd l)) t'
abbrev Pf:=List Str->Option (L2.T×List Str)
inductive Par(C NT:J)(args:List L2.T)(f:Pf)(ts:List L2.T)(Q:L2.T->List L2.T->Prop)(W:QW):Prop
 |mk(x n l t:_)(h1:ts=t::args)(h2:Rw C x n l t)(h3:∀r l',f l=Z (r,l')->∀t',Rw C x n l' t'->Q r [t'])(h4:f l=Y->W NT ["row"] [.i n])
def oq(due:Str):Pf:=λl=>if hd l=due then Z (.n,l.tail)else Y
def ur:Pf:=λl=>if ao (hd l)=O then Z (.s (hd l),l.tail)else Y
def fNames(due:Str):List Str->Option (List Str×List Str)
 |[]=>Y
 |w::l=>if w=due then Z ([],l)else if ao w=O then(fNames due l).map λz=>(w::z.1,z.2)else Y
def tN(z:List Str×List Str):L2.T×List Str:=(.t (z.1.map .s),z.2)
def intOf(x:Str):Int:=(PySem.intText? x).getD 0
def tI:Pf:=λl=>if dH (hd l)=O then Z (.i (intOf (hd l)),l.tail)else Y
def Pm:Pf:=λl=>if l.isEmpty then Z (.n,[])else Y
theorem tL(h:dH x=O):1<=x.length/\x.length<=7:=by
 unfold dH ofB at h;simp only[tY,decide_eq_true_eq]at h
 lia
theorem vb{signs:Str}{c:Nat}(h:sgn signs c=O):c∈signs.cps.toList:=by
 unfold sgn at h;cases e:Builtin.Str.occurrences signs ⟨#[c]⟩ 0 signs.length 1 with
 |nil=>rw[e]at h;cases h
 |cons i r =>
  have:=(PySem.StrLaws.occ_spec signs ⟨#[c]⟩ 0 signs.length 1 i (by rw[e];exact di)).2
  have q:signs.cps.extract i (i+1)=#[c]:=eq_of_beq this;have g:c∈(signs.cps.extract i (i+1)).toList:=by rw[q];exact aB.mpr U
  rw[Array.toList_extract]at g;exact GS (X6 g)
theorem tE:∀c∈nW.cps.toList,48<=c/\c<=57:=by decide +kernel
theorem yG(h:dH x=O):PySem.intText? x=Z (intOf x):=by
 have hl:=tL h;unfold dH ofB at h;simp only[tY]at h;have hd:=λc q=>tE c (vb (AE.mp h.1.2.2 c q))
 have g:x.cps.toList ≠ []:=λz=>by have:x.length=0:=congrArg E7 z;lia
 have e:=PySem.intText_digits hd g (by lia)
 unfold intOf;rw[e];rfl
abbrev yn(C NT:J)(args:List L2.T)(f:Pf):iT:=Par C NT args f
def VX(C NT:J):iT:=λts Q W=>∃due,due.length<=100/\Par C NT [.s due] (oq due) ts Q W
def Oe(C NT:J):iT:=λts Q W=>∃due:Str,due ≠ "" /\ ao due=ϊ/\due.length<=100/\Par C NT [.s due] (λl=>(fNames due l).map tN) ts Q W
theorem as1{t:L2.T}{r:List L2.T}{as:List J}{x:J}(ha:Ja [0] (t::r) as)(h:t.adr=Z x):as=[x]:=by
 match as,ha with
 |[b],((u,q,g),_)=>cases q;rw[h]at g;cases g;rfl
theorem as2{t u:L2.T}{r:List L2.T}{as:List J}{x y:J}(ha:Ja [0,1] (t::u::r) as)(h:t.adr=Z x)(h2:u.adr=Z y):as=[x,y]:=by
 match as,ha with
 |[b,c],((_,K,q),(_,z,g),_)=>cases K;cases z;rw[h]at q;rw[h2]at g;cases q;cases g;rfl
variable{y:Str}
theorem en(h:(!decide ((L2.T.s x).v=(L2.T.s y).v))=O):x≠y:=λz=>by rw[z]at h;simp at h
theorem nh(h:¬(!decide ((L2.T.s x).v=(L2.T.s y).v))=O):x=y:=by
 cases e:decide ((L2.T.s x).v=(L2.T.s y).v)with
 |false=>rw[e]at h;exact absurd U h
 |true=>exact V.str.inj (of_decide_eq_true e)
def dg(hts:List (List L2.T))(b:L2.T):L2.T:=hts.foldr (λh b=>.t (h ++ [b])) b
def Jd(hts:List (List L2.T)):Prop:=∀h∈hts,T.ims h=O/\h.length<=10
def N8:PSp:=λts Q=>∃hts b,ts=[.l (hts.map .t),b]/\Jd hts/\b.im=O/\hts.length<=1000000/\Q (dg hts b)
def oT(C x:J)(hts:List (List L2.T))(lk:Str)(arms ah:List L2.T):L2.T:=.om x C ["heads","looked","arms","arm_head"] [.l (hts.map .t),.s lk,.l arms,.t ah]
def KR(C:J):iT:=λts Q _=>∃x hts lk,ts=[.om x C [] [],.l (hts.map .t),.s lk]/\Q .n [oT C x hts lk [] []]
def Ob(C:J):uY:=λts Q=>Ea6 λx hts lk arms ah b=>ts=[oT C x hts lk arms ah,b]/\T.ims ah=O/\b.im=O/\(arms.length<=1000000/\ah.length<=10)/\Q .n (oT C x hts lk (arms ++ [.t (ah ++ [b])]) ah)
def lP(l:List Str):Option (List L2.T×List Str):=if ao (hd l)=O then(fNames ":" l.tail).map λz=>([.s (hd l),.t (z.1.map .s)],z.2)else Y
variable{l1:List Str}
theorem cn{r:L2.T}(h:ur l=Z (r,l1)):ao (hd l)=O/\r=.s (hd l)/\l1=l.tail:=by
 unfold ur at h
 split at h
 ·rename_i e;cases h;exact(e,U,U)
 ·cases h
theorem cp(h:ur l=Y):¬ ao (hd l)=true:=λe=>by
 unfold ur at h;rw[if_pos e]at h;cases h
def Od(C CR NT:J):iT:=λts Q W=>∃x hts lk arms ah y n l t,ts=[oT C x hts lk arms ah,t]/\Rw CR y n l t/\(∀g l',lP l=Z (g,l')->∀t',Rw CR y n l' t'->Q .n [oT C x hts lk arms g,t'])/\(lP l=Y->W NT ["row"] [.i n])
def HJ(C:J):PSp:=λts Q=>Ea5 λx hts lk arms ah=>ts=[oT C x hts lk arms ah]/\Jd hts/\T.ims arms=O/\hts.length<=1000000/\Q (dg hts (.t [.s "case",.s lk,.t arms]))
def bN:List Str->Option (List Str×List Str)
 |[]=>Z ([],[])
 |w::l=>if w="|" then Z ([],w::l)else if ao w=O then(bN l).map λz=>(w::z.1,z.2)else Y
def iy(l:List Str):Option (Mk1×List Str):=if ao (hd l)=O then(bN l.tail).map λz=>((hd l,z.1),z.2)else Y
def tMk(z:Mk1×List Str):L2.T×List Str:=(tM z.1,z.2)
variable{due:Str}
theorem cD{r:L2.T}(h:oq due l=Z (r,l1)):hd l=due/\r=.n/\l1=l.tail:=by
 unfold oq at h
 split at h
 ·rename_i e;cases h;exact(e,U,U)
 ·cases h
theorem jk(h:oq due l=Y):hd l≠due:=λe=>by
 unfold oq at h;rw[if_pos e]at h;cases h
def bM:Nat->List Str->Option (List Mk1)
 | 0,_=>Y
 |n+1,l=>match iy l with
  |none=>Y
  |some (m,l1)=>if l1.isEmpty then Z [m]else if hd l1="|" then(bM n l1.tail).map (m :: ·)else Y
def iX(l:List Str):Option (Kd×List Str):=match oq "kind" l with
 |none=>Y
 |some (_,l1)=>if ao (hd l1)=O then(bM (l.length+1) l1.tail).map λms=>((hd l1,ms),[])else Y
def tKd(z:Kd×List Str):L2.T×List Str:=(tK z.1,z.2)
theorem uv:∀{l:List Str}{z:List Str×List Str},bN l=Z z->z.2.length<=l.length
 |[],z,h=>by cases h;exact qd _
 |w::l,z,h=>by
  rw[bN]at h
  split at h
  ·cases h;exact qd _
  ·split at h
   ·let(y,h1,U):=kf.mp h
    have:=uv h1
    exact ZI this
   ·cases h
theorem qT(h:ao (hd l)=O):∃w r,l=w::r:=by
 cases l with
 |nil=>exact absurd h (by decide +kernel)
 |cons w r=>exact(w,r,U)
theorem wJ{m:Mk1}(h:iy l=Z (m,l1)):l1.length<l.length:=by
 unfold iy at h
 split at h
 ·rename_i g;let(w,r,U):=qT g;let(z,h1,h2):=kf.mp h;cases h2;exact Nat.lt_succ_of_le (uv h1)
 ·cases h
def wL(k:Nat)(L:List Mk1)(l:List Str):Option (List Mk1):=if l.isEmpty then Z L else if hd l="|" then(bM k l.tail).map (L ++ ·)else Y
theorem uu{k:Nat}{m:Mk1}(h:iy l=Z (m,l1)):bM (k+1) l=wL k [m] l1:=by
 rw[bM,h];rfl
variable{l2:List Str}
theorem IE{k:Nat}{L:List Mk1}{m:Mk1}(h:l.isEmpty=ϊ)(hd:hd l="|")(hm:iy l.tail=Z (m,l2)):wL (k+1) L l=wL k (L ++ [m]) l2:=by
 unfold wL;rw[h,if_neg (by decide),if_pos hd,uu hm]
 unfold wL
 split
 ·rfl
 ·split
  ·cases bM k l2.tail <;> simp
  ·rfl
def lO(l:List Str):Option (List L2.T×List Str):=if ao (hd l)=O then
  if hd l.tail="make" \/ hd l.tail="call" \/ hd l.tail="name" then
   if ao (hd l.tail.tail)=O then
    if hd l.tail="name" then(oq ";" l.tail.tail.tail).map λz=>([.s (hd l.tail),.s (hd l),.s (hd l.tail.tail)],z.2)
    else(fNames ";" l.tail.tail.tail).map λz=>([.s (hd l.tail),.s (hd l),.s (hd l.tail.tail),.t (z.1.map .s)],z.2)
   else Y
  else Y
 else Y
def tH(z:List L2.T×List Str):L2.T×List Str:=(.t z.1,z.2)
def cR(word:Str)(l:List Str):Option (List L2.T×List Str):=if word="let" then lO l
 else if word="pay" \/ word="get" then
  if dH (hd l)=O then(oq ";" l.tail).map λz=>([.s word,.i (intOf (hd l))],z.2)else Y
 else Y
def SA(C NT:J):iT:=λts Q W=>∃word,word.length<=1000000/\Par C NT [.s word] (λl=>(cR word l).map tH) ts Q W
variable{q:Sq}{j:Nat}{m:Str}{Qb:Bool->Prop}
theorem qH{w:Str}(h:q[j]?=Z (.o (.s w))\/q[j]?=Z (.r (.s w)))(g:Qb (!decide (w=m))):jE (qOp qNe (mm j) (qC (.s m))) q Qb:=by
 have e:(!decide ((L2.T.s w).v=(L2.T.s m).v)) = !decide (w=m):=by
  congr 1
  exact decide_eq_decide.mpr (λh=>V.str.inj h,λh=>by rw[h])
 rw[<- e]at g;unfold jE qOp mm;obtain h|h:=h <;> rw[h] <;> exact(U,g)
theorem Xw{w c n:Str}(h:q[2]?=Z (.o (.s w)))(g:Qb (!decide (w=m)&&(!decide (w=c) && !decide (w=n)))):DU (jE (qOp qNe (mm 2) (qC (.s m)))) (DU (jE (qOp qNe (mm 2) (qC (.s c)))) (jE (qOp qNe (mm 2) (qC (.s n))))) q Qb:=by
 refine qH (.inl h) ?_;cases e:decide (w=m)with
 |true=>rw[e]at g;exact g
 |false =>
  rw[e]at g;refine qH (.inl h) ?_;cases e:decide (w=c)with
  |true=>rw[e]at g;exact g
  |false=>rw[e]at g;exact qH (.inl h) g
theorem Xx{w c:Str}(h:q[1]?=Z (.r (.s w)))(g:Qb (!decide (w=m) && !decide (w=c))):DU (jE (qOp qNe (mm 1) (qC (.s m)))) (jE (qOp qNe (mm 1) (qC (.s c)))) q Qb:=by
 refine qH (.inr h) ?_;cases e:decide (w=m)with
 |true=>rw[e]at g;exact g
 |false=>rw[e]at g;exact qH (.inr h) g
theorem Co{r:L2.T}(h:tI l=Z (r,l1)):dH (hd l)=O/\r=.i (intOf (hd l))/\l1=l.tail:=by
 unfold tI at h
 split at h
 ·rename_i e;cases h;exact(e,U,U)
 ·cases h
theorem Cp(h:tI l=Y):¬ dH (hd l)=true:=λe=>by
 unfold tI at h;rw[if_pos e]at h;cases h
theorem Gy{z:List L2.T×List Str}(h:lO l=Z z):T.ims z.1=O/\z.1.length<=10:=by
 unfold lO at h
 split at h
 ·split at h
  ·split at h
   ·split at h
    ·let(y,_,U):=kf.mp h;exact(U,by simp)
    ·let(y,_,U):=kf.mp h;refine(?_,by simp)
     show(O&&(O&&(O&&(T.ims (y.1.map .s)&&O))))=O;rw[a9];rfl
   ·cases h
  ·cases h
 ·cases h
theorem L1{w:Str}{z:List L2.T×List Str}(h:cR w l=Z z):T.ims z.1=O/\z.1.length<=10:=by
 unfold cR at h
 split at h
 ·exact Gy h
 ·split at h
  ·split at h
   ·let(y,_,U):=kf.mp h;exact(U,by simp)
   ·cases h
  ·cases h
theorem V9{w c n:Str}(h:w=m\/w=c\/w=n):(!decide (w=m)&&(!decide (w=c) && !decide (w=n)))=false:=by
 obtain h|h|h:=h <;> rw[decide_eq_true h] <;> simp
theorem V8{w c n:Str}(h:¬(w=m\/w=c\/w=n)):(!decide (w=m)&&(!decide (w=c) && !decide (w=n)))=true:=by
 rw[decide_eq_false λz=>h (.inl z),decide_eq_false λz=>h (.inr (.inl z)),decide_eq_false λz=>h (.inr (.inr z))]
 rfl
theorem Wb{w c:Str}(h:w=m\/w=c):(!decide (w=m) && !decide (w=c))=false:=by
 obtain h|h:=h <;> rw[decide_eq_true h] <;> simp
theorem Wa{w c:Str}(h:¬(w=m\/w=c)):(!decide (w=m) && !decide (w=c))=true:=by
 rw[decide_eq_false λz=>h (.inl z),decide_eq_false λz=>h (.inr z)]
 rfl
structure Oc where
 hts:List (List L2.T)
 lk:Str
 arms:List L2.T
 ah:List L2.T
def Oc.t(C x:J)(c:Oc):L2.T:=oT C x c.hts c.lk c.arms c.ah
inductive OcL(C:J):List Oc->List L2.T->Prop
 |nil:OcL C [] []
 |cons{c:Oc}{cs:List Oc}{xs:List L2.T}{x:J}:OcL C cs xs->OcL C (c::cs) (xs ++ [c.t C x])
variable{cs:List Oc}
theorem OcL.len{xs:List L2.T}(h:OcL C cs xs):xs.length=cs.length:=by
 induction h with
 |nil=>rfl
 |cons _ g=>rw[oa,g];rfl
structure tT(c:Oc):Prop where
 h:Jd c.hts
 a:T.ims c.arms=O
 i:T.ims c.ah=O
 l:c.ah.length<=10
def wts(cs:List Oc):Nat:=(cs.map λc=>c.arms.length+c.hts.length+1).sum
theorem kj{c:Oc}:wts (c::cs)=c.arms.length+c.hts.length+1+wts cs:=rfl
theorem Gj:∀cs:List Oc,cs.length<=wts cs
 |[]=>Fs _
 |c::cs=>by rw[kj,mD];have:=Gj cs;lia
inductive Res
 |fin(b:L2.T)(l:List Str)
 |on(cs:List Oc)(l:List Str)
 |bad
def Oc.fed(c:Oc)(b:L2.T):Oc:={c with arms:=c.arms ++ [.t (c.ah ++ [b])]}
def Oc.whole(c:Oc):L2.T:=dg c.hts (.t [.s "case",.s c.lk,.t c.arms])
def bz:List Oc->L2.T->List Str->Res
 |[],b,l=>.fin b l
 |c::cs,b,l=>if hd l="|" then
   match lP l.tail with
   |some (ah,l2)=>.on ({c.fed b with ah:=ah}::cs) l2
   |none=>.bad
  else if hd l="end" then bz cs (c.fed b).whole l.tail else .bad
def Oj(C CR NT:J):iT:=λts Q W=>∃x n l t a cs xs b,ts=[t,.lp a xs,b]/\Rw CR x n l t/\OcL C cs xs/\(∀c∈cs,tT c)/\b.im=O/\wts cs+l.length<=900000 /\
 (∀z l',bz cs b l=.fin z l'->∀t',Rw CR x n l' t'->Q z [t',.lp a []])/\(∀q l',bz cs b l=.on q l'->∀t' g,Rw CR x n l' t'->OcL C q g->Q .n [t',.lp a g])/\(bz cs b l=.bad->W NT ["row"] [.i n])
theorem AW{hts:List (List L2.T)}{b:L2.T}(h:Jd hts)(z:b.im=O):(dg hts b).im=true:=by
 induction hts with
 |nil=>exact z
 |cons g r q =>
  show T.ims (g ++ [dg r b])=O;rw[jv,(h g di).1];show(O&&((dg r b).im&&O))=O;rw[q λg hg=>h g (aJ _ hg)]
  rfl
theorem tT.fed{c:Oc}{b:L2.T}(h:tT c)(g:b.im=O):tT (c.fed b):=by
 refine(h.h,?_,h.i,h.l);show T.ims (c.arms ++ [.t (c.ah ++ [b])])=O;rw[jv,h.a];show(O&&(T.ims (c.ah ++ [b])&&O))=O;rw[jv,h.i];show(O&&((O&&(b.im&&O))&&O))=O;rw[g];rfl
theorem tT.whole{c:Oc}(h:tT c):c.whole.im=true:=AW h.h (by
 show(O&&(O&&(T.ims c.arms&&O)))=O;rw[h.a];rfl)
theorem KL{a:J}{xs:List L2.T}{u v:L2.T}:T.put v [.inr xs.length] (.lp a (xs ++ [u]))=.lp a (xs ++ [v]):=by
 have h:(xs ++ [u])[xs.length]?=Z u:=by rw[CP (qd _),ZW];rfl
 show(match(xs ++ [u])[xs.length]? with|some x=>L2.T.lp a ((xs ++ [u]).set xs.length v)|none=>.lp a (xs ++ [u]))=_
 rw[h];simp
theorem lH{α:Type}(xs:List α)(u:α):ixN (xs ++ [u]).length (-1)=Z xs.length/\(xs ++ [u])[xs.length]?=Z u:=by
 refine(?_,by rw[CP (qd _),ZW];rfl)
 unfold ixN;have e:(xs ++ [u]).length=xs.length+1:=by simp
 rw[e,if_neg (by decide),if_pos (by lia)]
 congr 1
 lia
structure BS where
 cs:List Oc
 hts:List (List L2.T)
 l:List Str
inductive Stp
 |fin(b:L2.T)(l:List Str)
 |on(s:BS)
 |bad
def Res.stp:Res->Stp
 |.fin b l=>.fin b l
 |.on cs l=>.on (cs,[],l)
 |.bad=>.bad
def fm(s:BS):Stp:=if hd s.l="case" then
  if ao (hd s.l.tail)=O then
   match lP s.l.tail.tail with
   |some (ah,l2)=>.on ((s.hts,hd s.l.tail,[],ah)::s.cs,[],l2)
   |none=>.bad
  else .bad
 else if hd s.l="give" then
  if ao (hd s.l.tail)=O then(bz s.cs (dg s.hts (.t [.s "give",.s (hd s.l.tail)])) s.l.tail.tail).stp else .bad
 else match cR (hd s.l) s.l.tail with
  |some (h,l2)=>.on (s.cs,s.hts ++ [h],l2)
  |none=>.bad
inductive Run:BS->Option (L2.T×List Str)->Prop
 |on{s s':BS}{o}:fm s=.on s'->Run s' o->Run s o
 |fin{s:BS}{b l}:fm s=.fin b l->Run s (Z (b,l))
 |bad{s:BS}:fm s=.bad->Run s Y
def Ol(CR NT:J):iT:=λts Q W=>∃x n l t,ts=[t]/\Rw CR x n l t/\l.length<=900000/\(∀b l',Run ([],[],l) (Z (b,l'))->b.im=O->∀t',Rw CR x n l' t'->Q b [t'])/\(Run ([],[],l) Y->W NT ["row"] [.i n])
theorem pP{due:Str}:∀{l:List Str}{z:List Str×List Str},fNames due l=Z z->z.2.length<l.length
 |[],z,h=>by cases h
 |w::l,z,h=>by
  rw[fNames]at h
  split at h
  ·cases h;exact YV _
  ·split at h
   ·let(y,h1,U):=kf.mp h
    have:=pP h1
    exact Nat.lt_succ_of_lt this
   ·cases h
theorem vq{ah:List L2.T}(h:lP l=Z (ah,l2)):l2.length<l.length/\T.ims ah=O/\ah.length<=10:=by
 unfold lP at h
 split at h
 ·let(z,h1,h2):=kf.mp h;cases h2
  have:=pP h1
  rw[xi]at this;refine(by omega,?_,by simp)
  show(O&&(T.ims (z.1.map .s)&&O))=O;rw[a9];rfl
 ·cases h
theorem Cn{z:L2.T×List Str}(h:oq due l=Z z):z.2.length<=l.length:=by
 let(_,_,e):=cD h;rw[e,xi];exact ZT _ _
theorem L0{z:List L2.T×List Str}(h:lO l=Z z):z.2.length<=l.length:=by
 unfold lO at h
 split at h
 ·split at h
  ·split at h
   ·split at h
    ·let(y,e,U):=kf.mp h
     have:=Cn e
     simp only[xi]at this
     lia
    ·let(y,e,U):=kf.mp h
     have:=pP e
     simp only[xi]at this
     lia
   ·cases h
  ·cases h
 ·cases h
theorem tG{w:Str}{z:List L2.T×List Str}(h:cR w l=Z z):w ≠ "" /\ z.2.length<=l.length:=by
 unfold cR at h
 split at h
 ·rename_i e;exact(by rw[e];decide,L0 h)
 ·split at h
  ·rename_i e;refine(by obtain e|e:=e <;> rw[e] <;> decide,?_)
   split at h
   ·let(y,e,U):=kf.mp h
    have:=Cn e
    simp only[xi]at this;show y.2.length<=_
    lia
   ·cases h
  ·cases h
theorem wW:∀{cs:List Oc}{b g:L2.T}{l l':List Str},bz cs b l=.fin g l'->(∀c∈cs,tT c)->b.im=O->g.im=O/\l'.length<=l.length
 |[],b,g,l,l',h,_,q=>by cases h;exact(q,qd _)
 |c::cs,b,g,l,l',h,hok,q=>by
  rw[bz]at h
  split at h
  ·split at h <;> cases h
  ·split at h
   ·let(h1,h2):=wW h (λc z=>hok c (aJ _ z)) ((hok c di).fed q).whole
    rw[xi]at h2;exact(h1,by lia)
   ·cases h
theorem yH:∀{cs g:List Oc}{b:L2.T}{l l':List Str},bz cs b l=.on g l'->(∀c∈cs,tT c)->b.im=O->(∀c∈g,tT c)/\l'.length<l.length/\wts g+l'.length<=wts cs+l.length
 |[],_,_,_,_,h,_,_=>by cases h
 |c::cs,g,b,l,l',h,hok,K=>by
  rw[bz]at h
  split at h
  ·split at h
   ·rename_i ah l2 e;cases h;let(g1,g2,g3):=vq e;rw[xi]at g1;have q:=(hok c di).fed K;refine(λd hd=>?_,by lia,?_)
    ·obtain z|z:=fH.mp hd
     ·rw[z];exact(q.h,q.a,g2,g3)
     ·exact hok d (aJ _ z)
    ·rw[kj,kj];show(c.arms ++ [_]).length+c.hts.length+1+_+_<=_;rw[oa];show c.arms.length+1+_+1+_+_<=_
     lia
   ·cases h
  ·split at h
   ·let(h1,h2,h3):=yH h (λc P=>hok c (aJ _ P)) ((hok c di).fed K).whole
    rw[xi]at h2 h3;rw[kj];exact(h1,by lia,by lia)
   ·cases h
theorem Sg{xs:List L2.T}{u v:L2.T}:T.put v [.inr xs.length] (.l (xs ++ [u]))=.l (xs ++ [v]):=by
 have h:(xs ++ [u])[xs.length]?=Z u:=by rw[CP (qd _),ZW];rfl
 show(match(xs ++ [u])[xs.length]? with|some x=>L2.T.l ((xs ++ [u]).set xs.length v)|none=>.l (xs ++ [u]))=_
 rw[h];simp
theorem ye:∀{hts:List (List L2.T)}{ys:List L2.T},∃zs,dg hts (.t ys)=.t zs
 |[],ys=>(ys,U)
 |h::r,ys=>(_,U)
theorem wV:∀{cs:List Oc}{ys:List L2.T}{g:L2.T}{l l':List Str},bz cs (.t ys) l=.fin g l'->∃zs,g=.t zs
 |[],ys,g,l,l',h=>by cases h;exact(_,U)
 |c::cs,ys,g,l,l',h=>by
  rw[bz]at h
  split at h
  ·split at h <;> cases h
  ·split at h
   ·let(zs,e):=ye;unfold Oc.whole at h;rw[e]at h;exact wV h
   ·cases h
def fParams:List Str->Option (List (Str×Str)×List Str)
 |[]=>Y
 |[w]=>if w="to" then Z ([],[])else Y
 |w::v::l=>if w="to" then Z ([],v::l)else if ao w=O then if ao v=O then(fParams l).map λz=>((w,v)::z.1,z.2)else Y else Y
def tPs(ps:List (Str×Str)):L2.T:=.t (ps.map λp=>.t [.s p.1,.s p.2])
theorem wz(ps:List (Str×Str)):T.ims (ps.map λp=>L2.T.t [.s p.1,.s p.2])=true:=ff (λ_=>rfl) ps
structure Fh where
 nm:Str
 ps:List (Str×Str)
 kd:Str
def fHd(l:List Str):Option (Fh×List Str):=if hd l="def" then
  if ao (hd l.tail)=O then
   match fParams l.tail.tail with
   |some (ps,l2)=>if ao (hd l2)=O then if hd l2.tail=":" then Z ((hd l.tail,ps,hd l2),l2.tail.tail)else Y else Y
   |none=>Y
  else Y
 else Y
def Fh.t(h:Fh)(b:L2.T):L2.T:=.t [.s h.nm,tPs h.ps,.s h.kd,b]
inductive oA(l:List Str):Option L2.T->Prop
 |xa:fHd l=Y->oA l Y
 |xY{h l4}:fHd l=Z (h,l4)->Run ([],[],l4) Y->oA l Y
 |ET{h l4 b l5}:fHd l=Z (h,l4)->Run ([],[],l4) (Z (b,l5))->l5.isEmpty=ϊ->oA l Y
 |ok{h l4 b}:fHd l=Z (h,l4)->Run ([],[],l4) (Z (b,[]))->oA l (Z (h.t b))
def SG(CR NT:J):iT:=λts Q W=>∃x n l t,ts=[t]/\Rw CR x n l t/\l.length<=900000/\(∀r,oA l (Z r)->r.im=O->∀t',Rw CR x n [] t'->Q r [t'])/\(oA l Y->W NT ["row"] [.i n])
inductive dQ:Nat->List Kd->List L2.T->List Str->L2.T ⊕ Nat->Prop
 |nil{n ks fs}:dQ n ks fs [] (.inl (.t [tKs ks,.t fs]))
 |kind{n ks row rows k l o}:hd (Txt.split row " ")="kind"->iX (Txt.split row " ")=Z (k,l)->dQ (n+1) (ks ++ [k]) [] rows o->dQ n ks [] (row::rows) o
 |um{n ks row rows}:hd (Txt.split row " ")="kind"->iX (Txt.split row " ")=Y->dQ n ks [] (row::rows) (.inr n)
 |fn{n ks fs row rows f o}:¬(hd (Txt.split row " ")="kind" /\ fs=[])->oA (Txt.split row " ") (Z f)->dQ (n+1) ks (fs ++ [f]) rows o->dQ n ks fs (row::rows) o
 |fnX{n ks fs row rows}:¬(hd (Txt.split row " ")="kind" /\ fs=[])->oA (Txt.split row " ") Y->dQ n ks fs (row::rows) (.inr n)
def rowsOf(text:Str):List Str:=if text="" then []else Txt.split text "\n"
def N9(NT:J):CO:=λts Q W=>∃text,ts=[.s text]/\text.length<=800000/\(∀r,dQ 0 [] [] (rowsOf text) (.inl r)->r.im=O->Q r)/\(∀n:Nat,dQ 0 [] [] (rowsOf text) (.inr n)->W NT ["row"] [.i n])
theorem Xv{w:Str}{fs:List L2.T}{A ό:Prop}(h2:q[2]?=Z (.o (.l fs)))(K:w="kind" /\ fs=[]->A)(g:¬(w="kind" /\ fs=[])->ό):
  if decide ((L2.T.s w).v=(L2.T.s "kind").v)=O then(Kw (Ku (mm 2)) q λb=>if b=O then A else ό)else(λb=>if b=O then A else ό) false:=by
 refine aY (λh=>?_) (λh=>?_)
 ·have h:=V.str.inj (of_decide_eq_true h);unfold Kw Ku mm;rw[h2];cases fs with
  |nil=>exact K (h,U)
  |cons f r=>exact g λz=>nomatch z.2
 ·exact g λz=>h (by rw[z.1];exact decide_eq_true U)
mutual
inductive Bd
 |give(x:Str)
 |mr(w:Str)(n:Nat)(b:Bd)
 |nam(x y:Str)(b:Bd)
 |mk(w x y:Str)(ns:List Str)(b:Bd)
 |cas(x:Str)(as:Ar)
inductive Ar
 |nil
 |cons(m:Str)(ns:List Str)(b:Bd)(r:Ar)
end
mutual
def Bd.t:Bd->L2.T
 |.give x=>.t [.s "give",.s x]
 |.mr w n b=>.t [.s w,.i n,b.t]
 |.nam x y b=>.t [.s "name",.s x,.s y,b.t]
 |.mk w x y ns b=>.t [.s w,.s x,.s y,.t (ns.map .s),b.t]
 |.cas x as=>.t [.s "case",.s x,.t as.ts]
def Ar.ts:Ar->List L2.T
 |.nil=>[]
 |.cons m ns b r=>.t [.s m,.t (ns.map .s),b.t]::r.ts
end
mutual
def Bd.ws:Bd->List Str
 |.give x=>["give",x]
 |.mr w n b=>w::kc n :: ";" :: b.ws
 |.nam x y b=>"let" :: x :: "name" :: y :: ";" :: b.ws
 |.mk w x y ns b=>"let" :: x::w::y ::(ns++(";":Str)::b.ws)
 |.cas x as=>"case" :: x ::(as.ws.tail ++ [("end":Str)])
def Ar.ws:Ar->List Str
 |.nil=>[]
 |.cons m ns b r=>"|" :: m ::(ns++(":":Str) ::(b.ws++r.ws))
end
mutual
def Bd.wt:Bd->Nat
 |.give _=>3
 |.mr _ _ b=>4+b.wt
 |.nam _ _ b=>6+b.wt
 |.mk _ _ _ ns b=>6+ns.length+b.wt
 |.cas _ as=>4+as.wt
def Ar.wt:Ar->Nat
 |.nil=>0
 |.cons _ ns b r=>3+ns.length+b.wt+r.wt
end
mutual
def Bd.ok:Bd->Prop
 |.give x=>ao x=O
 |.mr w n b=>(w="pay" \/ w="get")/\1<=n/\n<=9999999/\b.ok
 |.nam x y b=>ao x=O/\ao y=O/\b.ok
 |.mk w x y ns b=>(w="make" \/ w="call")/\ao x=O/\ao y=O/\(∀m∈ns,ao m=O)/\b.ok
 |.cas x as=>ao x=O/\as ≠ .nil/\as.ok
def Ar.ok:Ar->Prop
 |.nil=>True
 |.cons m ns b r=>ao m=O/\(∀k∈ns,ao k=O)/\b.ok/\r.ok
end
mutual
theorem Bd.im:∀b:Bd,b.t.im=O
 |.give x=>rfl
 |.mr w n b=>by show(O&&(O&&(b.t.im&&O)))=O;rw[b.im];rfl
 |.nam x y b=>by show(O&&(O&&(O&&(b.t.im&&O))))=O;rw[b.im];rfl
 |.mk w x y ns b=>by show(O&&(O&&(O&&(T.ims (ns.map T.s)&&(b.t.im&&O)))))=O;rw[a9,b.im];rfl
 |.cas x as=>by show(O&&(O&&(T.ims as.ts&&O)))=O;rw[as.im];rfl
theorem Ar.im:∀as:Ar,T.ims as.ts=O
 |.nil=>rfl
 |.cons m ns b r=>by show((O&&(T.ims (ns.map T.s)&&(b.t.im&&O)))&&T.ims r.ts)=O;rw[a9,b.im,r.im];rfl
end
theorem Ls:decide ((L2.T.s x).v=(L2.T.s x).v)=true:=decide_eq_true U
theorem HV(h:n<=9999999):(n:Int).natAbs.log2<1920:=by
 by_cases h0:n=0
 ·subst h0;decide
 ·exact aa5 ((Nat.log2_lt (k:=24) h0).mpr (by lia)) (by decide)
def Ar.ls:Ar->List (Str×List Str×Bd)
 |.nil=>[]
 |.cons m ns b r=>(m,ns,b)::r.ls
def Pz(z:Str×List Str×Bd):L2.T:=.t [.s z.1,.t (z.2.1.map .s),z.2.2.t]
theorem AX:∀as:Ar,as.ts=as.ls.map Pz
 |.nil=>rfl
 |.cons m ns b r=>by rw[Ar.ts,AX r];rfl
theorem Py(z:Str×List Str×Bd):(Pz z).im=true:=by
 show(O&&(T.ims (z.2.1.map T.s)&&(z.2.2.t.im&&O)))=O;rw[a9,z.2.2.im];rfl
theorem zP(n:Nat):(kc n).cps.toList=(Zn 10 n).map Char.toNat:=W.KIN.signs_num n
theorem Pk:∀c:Fin 10,sgn nW (48+c.val)=true:=by decide +kernel
theorem OR(n:Nat):∀c∈(kc n).cps.toList,48<=c/\c<=57:=λc q=>by
 rw[zP]at q;let(ch,g,e):=Jf.mp q;have r:=PyProof.Rows.digit_range (Nat.isDigit_of_mem_toDigits (by decide) (by decide) g)
 rw[<- e];exact r
theorem zO(h:n<=9999999):1 <=(kc n).length/\(kc n).length<=7 :=
 (W.KLn.one_le (Zi n),PyProof.Rows.toString_length_le (Zi n) (by decide) (by lia))
theorem Mg(n:Nat):1<=n->(Zn 10 n).head?.map Char.toNat≠Z 48:=by
 induction n using Nat.strongRecOn with
 |_ m g =>
  intro h1;by_cases hm:m<10
  ·rw[Nat.toDigits_of_lt_base hm]
   have:∀k:Fin 10,1<=k.val->(Nat.digitChar k.val).toNat≠48:=by decide
   exact λz=>this (m,hm) h1 (Option.some.inj z)
  ·have t:Zn 10 (m / 10)++Zn 10 (m % 10)=Zn 10 (10*(m / 10)+m % 10):=Nat.toDigits_append_toDigits (by decide) (by lia) (Nat.mod_lt _ (by decide))
   rw[Nat.div_add_mod]at t;rw[<- t]
   have:=g (m / 10) (by lia) (by lia)
   cases e:Zn 10 (m / 10)with
   |nil=>exact absurd (congrArg E7 e) (by simp)
   |cons c r=>rw[e]at this;exact this
theorem Lh(h1:1<=n)(h:n<=9999999):dH (kc n)=O/\intOf (kc n)=n:=by
 have hl:=zO h;refine(?_,?_)
 ·unfold dH ofB;rw[decide_eq_true (by lia),decide_eq_true (by lia)]
  have z:(kc n).cps.toList.all (sgn nW)=true:=AE.mpr λc g=>by
   let(g1,g2):=OR n c g
   have:=Pk (c - 48,by lia)
   rwa [show 48+(c - 48)=c by lia]at this
  rw[z];have q:(kc n).cps.toList.head? ≠ Z 48:=by
   rw[zP,List.head?_map];exact Mg n h1
  rw[decide_eq_false q];rfl
 ·unfold intOf;rw[show PySem.intText? (kc n)=Z (n)from W.KIN.num_reads (Zi n) (by lia)]
  rfl
theorem qY(sep:Str)(ws:List Str):Txt.join sep ws=Str.join sep ws:=StrLaws.glued_eq_join _ _
variable{sep:Str}
theorem jI{r:List Str}:Txt.join sep (x::y::r)=x++sep++Txt.join sep (y::r):=by rw[qY,qY];rfl
theorem Ey:Txt.join sep [x]=x:=by rfl
theorem tu{sep:Str}:∀{a b:List Str},a ≠ []->b ≠ []->Txt.join sep (a++b)=Txt.join sep a++sep++Txt.join sep b
 |[],_,h,_=>absurd U h
 |[x],[],_,h=>absurd U h
 |[x],y::r,_,_=>by exact jI
 |x::z::r,b,_,h=>by
  rw[Ze,Ze,jI,jI,<- Ze,tu (xR z r) h];simp only[Str.append_assoc]
def i7(k:Kd):Str:="kind " ++ k.1 ++ " " ++ Txt.join " | " (k.2.map λm=>Txt.join " " (m.1::m.2))
def pws(ps:List (Str×Str)):List Str:=ps.flatMap λp=>[p.1,p.2]
def fws(h:Fh)(b:Bd):List Str:="def" :: h.nm ::(pws h.ps++("to":Str)::h.kd :: ":" :: b.ws)
def ke(z:Fh×Bd):Str:=Txt.join " " (fws z.1 z.2)
def fT(z:Fh×Bd):L2.T:=z.1.t z.2.t
theorem QN(z:Fh×Bd):(fT z).im=true:=by
 show(O&&(T.ims _&&(O&&(z.2.t.im&&O))))=O;rw[wz,z.2.im];rfl
structure x6(k:Kd):Prop where
 n:ao k.1=O
 l:k.2.length<=700
 ne:k.2 ≠ []
 m:∀m∈k.2,ao m.1=O/\m.2.length<=700/\∀f∈m.2,ao f=O
structure me(z:Fh×Bd):Prop where
 n:ao z.1.nm=O
 k:ao z.1.kd=O
 l:z.1.ps.length<=700
 p:∀p∈z.1.ps,ao p.1=O/\ao p.2=O
 b:z.2.ok
 w:z.2.wt<=2000
theorem bA(h:ao x=O):1<=x.length/\x.length<=8:=by
 unfold ao ofB at h;simp only[tY,decide_eq_true_eq]at h
 lia
def Sh(ws:List Str):Prop:=∀w∈ws,w.length<=8
theorem Sh.cons{w:Str}{ws:List Str}(h:w.length<=8)(hr:Sh ws):Sh (w::ws):=λx hx=>(fH.mp hx).elim (λz=>z▸h) (hr x)
variable{a:List Str}
theorem Sh.app{b:List Str}(ha:Sh a)(g:Sh b):Sh (a++b):=λx hx=>(lS.mp hx).elim (ha x) (g x)
theorem Sh.nil:Sh []:=λ_ h=>nomatch h
variable{ns:List Str}
theorem Sh.nm(h:∀m∈ns,ao m=O):Sh ns:=λx hx=>(bA (h x hx)).2
theorem Sh.tail{a:List Str}(h:Sh a):Sh a.tail:=λx hx=>h x (Z7 hx)
theorem Sh.sum:∀{ws:List Str},Sh ws->(ws.map (·.length)).sum<=8*ws.length
 |[],_=>qd _
 |w::r,h=>by
  have h1:=h w di;have h2:=Sh.sum λx hx=>h x (aJ _ hx)
  rw[E6,Y5,mD]
  lia
mutual
theorem Bd.sh:∀{b:Bd},b.ok->Sh b.ws
 |.give x,h=>.cons (by decide) (.cons (bA h).2 .nil)
 |.mr w n b,(h1,h2,h3,h4)=>.cons (by obtain h|h:=h1 <;> rw[h] <;> decide) (.cons (ZI (zO h3).2) (.cons (by decide) (Bd.sh h4)))
 |.nam x y b,(h1,h2,h3)=>.cons (by decide) (.cons (bA h1).2 (.cons (by decide) (.cons (bA h2).2 (.cons (by decide) (Bd.sh h3)))))
 |.mk w x y ns b,(h1,h2,h3,h4,h5)=>.cons (by decide) (.cons (bA h2).2 (.cons (by obtain h|h:=h1 <;> rw[h] <;> decide) (.cons (bA h3).2 (.app (.nm h4) (.cons (by decide) (Bd.sh h5))))))
 |.cas x as,(h1,_,h3)=>.cons (by decide) (.cons (bA h1).2 (.app (Ar.sh h3).tail (.cons (by decide) .nil)))
theorem Ar.sh:∀{as:Ar},as.ok->Sh as.ws
 |.nil,_=>.nil
 |.cons m ns b r,(h1,h2,h3,h4)=>.cons (by decide) (.cons (bA h1).2 (.app (.nm h2) (.cons (by decide) (.app (Bd.sh h3) (Ar.sh h4)))))
end
mutual
theorem Bd.wl:∀b:Bd,b.ws.length<=b.wt
 |.give x=>by show 2<=3;omega
 |.mr w n b=>by have:=b.wl;show b.ws.length+3<=4+b.wt;omega
 |.nam x y b=>by have:=b.wl;show b.ws.length+5<=6+b.wt;omega
 |.mk w x y ns b=>by have:=b.wl;show(ns++(";":Str)::b.ws).length+4<=6+ns.length+b.wt;rw[oa,mD];omega
 |.cas x as=>by have:=as.wl;show(as.ws.tail ++ [("end":Str)]).length+2<=4+as.wt;rw[oa,xi];show _ - 1+1+2<=_;omega
theorem Ar.wl:∀as:Ar,as.ws.length<=as.wt
 |.nil=>qd _
 |.cons m ns b r=>by
  have:=b.wl
  have:=r.wl
  show(ns++(":":Str) ::(b.ws++r.ws)).length+2<=3+ns.length+b.wt+r.wt;rw[oa,mD,oa];omega
end
def pT(ks:List Kd)(fs:List (Fh×Bd)):L2.T:=.t [tKs ks,.t (fs.map fT)]
structure CN(ks:List Kd)(fs:List (Fh×Bd)):Prop where
 k:∀k∈ks,x6 k
 f:∀z∈fs,me z
 l:ks.length<=100000/\fs.length<=100000
theorem Ln{m:Mk1}(h:ao m.1=O/\m.2.length<=700/\∀f∈m.2,ao f=O):((m.1::m.2).map (·.length)).sum<=5608:=by
 have h1:=Sh.sum (.cons (bA h.1).2 (.nm h.2.2));rw[mD]at h1
 lia
theorem lF(sep:Str)(ws:List Str):(Txt.join sep ws).length <=(ws.map (·.length)).sum+ws.length*sep.length:=by
 have h:(Txt.join sep ws).length=_:=PySem.size_glued sep ws;rw[h];exact Nat.add_le_add_left (Z8 _ (ZT _ _)) _
theorem S8{m:Mk1}(h:ao m.1=O/\m.2.length<=700/\∀f∈m.2,ao f=O):(Txt.join " " (m.1::m.2)).length<=6400:=by
 have h1:=Ln h;have h2:=lF " " (m.1::m.2);rw[show(" ":Str).length=1 from by decide,mD]at h2
 lia
theorem zT:∀{ms:List Mk1},(∀m∈ms,ao m.1=O/\m.2.length<=700/\∀f∈m.2,ao f=O)->((ms.map λm=>Txt.join " " (m.1::m.2)).map (·.length)).sum<=6400*ms.length
 |[],_=>qd _
 |m::r,h=>by
  have h1:=S8 (h m di);have h2:=zT λx hx=>h x (aJ _ hx)
  rw[E6,E6,Y5,mD]
  lia
theorem qI(ps:List (Str×Str)):(pws ps).length=2*ps.length:=by
 induction ps with
 |nil=>rfl
 |cons p r g=>show(pws r).length+2=2*(r.length+1);lia
theorem KG{ps:List (Str×Str)}(h:∀p∈ps,ao p.1=O/\ao p.2=O):Sh (pws ps):=λx hx=>by
 let(p,hp,hx):=YY.mp hx;obtain z|z:=fH.mp hx
 ·rw[z];exact(bA (h p hp).1).2
 ·rw[aB.mp z];exact(bA (h p hp).2).2
variable{z:Fh×Bd}
theorem LW(h:me z):Sh (fws z.1 z.2):=.cons (by decide) (.cons (bA h.n).2 (.app (KG h.p) (.cons (by decide) (.cons (bA h.k).2 (.cons (by decide) (Bd.sh h.b))))))
theorem Pe(h:me z):(fws z.1 z.2).length<=3430:=by
 have h1:=z.2.wl;have h2:=h.w;have h3:=h.l;show(pws z.1.ps++("to":Str)::z.1.kd :: ":" :: z.2.ws).length+2<=_;rw[oa,qI];show _+(z.2.ws.length+3)+2<=_
 lia
theorem LZ(h:me z):(ke z).length<=40000:=by
 have h1:=lF " " (fws z.1 z.2);have h2:=(LW h).sum;have h3:=Pe h;rw[show(" ":Str).length=1 from by decide]at h1
 show(Txt.join " " (fws z.1 z.2)).length<=_
 lia
theorem LC{k:Kd}(h:x6 k):(i7 k).length<=4500000:=by
 have h1:=lF " | " (k.2.map λm=>Txt.join " " (m.1::m.2))
 have h2:=zT h.m;have h3:=h.l;have h4:=(bA h.n).2;unfold i7;rw[show(" | ":Str).length=3 from by decide,gV]at h1
 rw[Str.length_append,Str.length_append,Str.length_append,show("kind ":Str).length=5 from by decide,show(" ":Str).length=1 from by decide]
 lia
theorem fk{α:Type}{f:α->Nat}{n:Nat}:∀{xs:List α},(∀x∈xs,f x<=n)->(xs.map f).sum<=n*xs.length
 |[],_=>qd _
 |x::r,h=>by
  have h1:=h x di;have h2:=fk λy g=>h y (aJ _ g)
  rw[E6,Y5,mD,Nat.mul_add]
  lia
def kws(k:Kd):List Str:=("kind":Str)::k.1 ::(k.2.flatMap λm=>("|":Str)::m.1::m.2).tail
theorem MC{n:Nat}:∀{ms:List Mk1},(∀m∈ms,m.2.length<=n)->(ms.flatMap λm=>("|":Str)::m.1::m.2).length <=(n+2)*ms.length
 |[],_=>qd _
 |m::r,h=>by
  have h1:=h m di;have h2:=MC λx hx=>h x (aJ _ hx)
  rw[YR,oa,mD,mD,mD,Nat.mul_add]
  lia
theorem Tz{ms:List Mk1}(h1:ms.length<=5)(h:∀m∈ms,m.2.length<=4):(kws (x,ms)).length<=32:=by
 have:=MC h
 show(ms.flatMap λm=>("|":Str)::m.1::m.2).tail.length+2<=32
 rw[xi]
 lia
def nN(l:List Str):Nat:=(l.takeWhile ao).length
def dN(l:List Str):List Str:=l.dropWhile ao
theorem Pn(l:List Str):l.drop (nN l)=dN l:=by
 unfold nN dN
 induction l with
 |nil=>rfl
 |cons w r g =>
  cases e:ao w with
  |true=>rw[YL e,YM e,mD];exact g
  |false=>rw[YN (by rw[e];decide),YO (by rw[e];decide)];rfl
theorem m5(h:ao (hd l)=O):nN l=nN l.tail+1/\dN l=dN l.tail:=by
 let(w,r,U):=qT h;have h:ao w=true:=h;unfold nN dN;rw[YL h,YM h];exact(U,U)
theorem tj(h:¬ ao (hd l)=O):nN l=0/\dN l=l:=by
 unfold nN dN;cases l with
 |nil=>exact(U,U)
 |cons w r =>
  have h:¬ ao w=true:=h;rw[YN h,YO h];exact(U,U)
theorem Gf(l:List Str):nN l<=l.length:=by
 exact(List.takeWhile_sublist ao).length_le
def KY:PSp:=λts Q=>M2 λ(ws:List Str)(n:Nat)=>ts=[.l (ws.map .s),.i n]/\ws.length<=900000/\n<=900009/\(∀w∈ws,w.length<=900000)/\Q (.i ((n+nN (ws.drop n):Nat):Int))
def Pos(ws:List Str)(o:Option (List Str))(r:Int):Prop:=match o with
 |none=>r = -1
 |some l=>∃n:Nat,r=n/\n<=ws.length/\ws.drop n=l
def P9(f:List Str->Option (List Str)):PSp:=λts Q=>M2 λ(ws:List Str)(n:Nat)=>ts=[.l (ws.map .s),.i n]/\ws.length<=900000/\n<=900005/\(∀w∈ws,w.length<=900000)/\∀r,Pos ws (f (ws.drop n)) r->Q (.i r)
theorem tF{due:Str}(g:ao due=ϊ)(he:due ≠ ""):∀l:List Str,fNames due l=if hd (dN l)=due then Z (l.takeWhile ao,(dN l).tail)else Y
 |[]=>by rw[if_neg (λz=>he z.symm)];rfl
 |w::l=>by
  rw[fNames];cases e:ao w with
  |true =>
   have h:w≠due:=λz=>by rw[z,g]at e;cases e
   unfold dN;rw[if_neg h,if_pos U,tF g he l,YL e,YM e];unfold dN
   split
   ·rfl
   ·rfl
  |false =>
   unfold dN;rw[YN (by rw[e];decide),YO (by rw[e];decide)]
   show(if w=due then _ else if ϊ=O then _ else Y)=if w=due then _ else _
   split
   ·rfl
   ·rfl
def Sx:PSp:=λts Q=>ts=[.jy]/\∀w:Str,ao w=O->Q (.s w)
def SD:PSp:=λts Q=>∃x,ts=[.s x]/\x.length<=900000/\Q (.b (ao x))
def Sw:PSp:=λts Q=>ts=[.jy]/\∀ws:List Str,4<=ws.length->ws.length<=7->(∀w∈ws,ao w=O)->Q (.l (ws.map .s))
def VW:PSp:=λts Q=>∃ws:List Str,ts=[.jy,.zl (ws.map .s)]/\4<=ws.length/\ws.length<=7/\(∀w∈ws,ao w=O)/\∀w,ao w=O->Q (.s w)
def Ss:PSp:=λts Q=>M2 λ(ws:List Str)(m:Int)=>ts=[.jy,.zl (ws.map .s),.i m]/\4<=ws.length/\ws.length<=7/\(∀w∈ws,ao w=O)/\0<=m/\m<=4/\∀ns:List Str,(∀w∈ns,ao w=O)->ns.length<=4->Q (.t (ns.map .s))
def Og:PSp:=λts Q=>∃ws:List Str,ts=[.jy,.zl (ws.map .s)]/\4<=ws.length/\ws.length<=7/\(∀w∈ws,ao w=O)/\∀k,x6 k->(kws k).length<=32->Q (tK k)
theorem OS:∀w∈near ++ [("pa":Str),"ki","en","t","o","d"],ao w=true:=by decide +kernel
theorem Lu:∀n:Fin 26,sgn fO (Eo n.val)=true:=by decide +kernel
theorem OX(n:Nat):sgn fO (Eo n)=true:=by
 have:=Lu (n % 26,Nat.mod_lt _ (by decide))
 unfold Eo at this ⊢;simpa using this
theorem LB:∀w∈kept,w.length<=4:=by decide +kernel
theorem VA{w:Str}(h:inT (.s w) (kept.map .s)=O):inT (.s (w++("q":Str))) (kept.map .s)=false:=by
 rw[wy,EB,S2];cases e:inV (.str (w++("q"))) (Gn.map V.str)with
 |false=>rfl
 |true =>
  exfalso
  have h1:=vm.mp e;have h2:∀z∈Gn,z.cps.toList.getLast? ≠ Z 113:=by decide +kernel
  have h3:(w++("q")).cps.toList.getLast?=Z 113:=by simp[Str.cps_append,show(Str.ofString "q").cps=#[113]from by decide +kernel]
  exact h2 _ h1 h3
variable{b:Bd}{s:BS}{ks:List Kd}{p:List Str}{ό:Bd}{bm:List B}{text:Str}
section
variable{P:Db}{w:Da}{K:BT}{mg:Str->Option B}{base:Ev}{a:Adr}
theorem iC(T:Txt K mg a):aS P w K mg base CX0 1 a.Ah a.Mq [WF,TD] JD:=by
 refine T.bo.F.ok vd (λvs H Q E h=>?_) (λcdv A outer s H vs Q E hr h=>?_)
 ·let(d,l,m,U,_):=h;rfl
 ·let(d,l,m,U,(s0,n0,aq,D0),m0,m1,k):=h;have q:=b9 hr;refine(_,((dC (vO PassesOwn.never (PW.pt (KH (nQ Qe (ly q (pv 0) gF (λ_ _=>rfl)) b8 (a8 _)) (FR (nQ Ga (kD rO (by rfl) T.gU PySem.boot_len (bh (ly q (pv 0) gF (λ_ _=>rfl)) dW)) b8 (a8 _)))))
 (jF (zy q (pv 0) gF (D6 PySem.F.plainAttrs_list PySem.F.slot_list_pop PySem.F.type_list_pop Lm (ly q (pv 0) gF (λ_ _=>rfl))) U)))
 (dC (lj (i:=2) vd.nd U (Or.inl U) (ly q (pv 0) gF (λ_ _=>rfl)))
 (dC (FV (nQ Ga (pv 2) b8 (a8 _))
 (dC (zy q (pv 0) gF (fC Le (pv 2) (pv 1)) U)
 (jF (pw (fC lz (pv 2) (pv 1)))))
 FU)
 (dC (lj (i:=3) vd.nd U (Or.inl U) (fC lz (fC sU (fC pE (ly q (pv 0) gF (λ_ _=>rfl)) b8) b8) b8))
 (dC (zy q (pv 0) gF (fC lz (fC sU (fC pE (pv 3) b8) b8) b8) U)
 (dC (lj (i:=4) vd.nd U (Or.inl U) (fC lz (fC pE (ly q (pv 0) gF (λ_ _=>rfl)) (ly q (pv 0) gF (λ_ _=>rfl))) b8))
 (jF (pw (fC lz (fC sU (fC pE (fC lz (fC pE (pv 3) (pv 3)) b8) b8) (pv 4)) (pv 1))))))))))),?_)
  refine Hf (λc σ H1=>∃s n ls,σ=[Z (.ref d),Z (.int m),Y,Y,Y]/\fj H1 d l s n ls/\Kp d l H H1/\c=ls.length) (s0,n0,aq,U,D0,Kp.refl,U) ?_ ?_
  ·rintro c σ H1 ⟨s1,n1,ls,rfl,D,K1,rfl⟩
   refine(_,U,d,_,U,D.WX,?_);refine(_,U,_,_,U,U,_,U,?_);refine aY (λh1=>?_) (λh1=>?_)
   ·have h1:0<n1:=of_decide_eq_true h1;have q0:0<=n1 / m:=Int.ediv_nonneg (by lia) (by lia)
    refine(_,U,_,U,_,_,U,U,(m0,m1),_,U,d,_,U,D.VZ,?_);refine(_,U,_,U,_,_,U,U,m0,?_);exact k _ _ (mod_lt m0).1 (mod_lt m0).2 (_,_,_,D.num q0) K1.Rf
   ·have b1:=mod_lt (x:=s1*48271+7919) (m:=2147483647) (by decide)
    refine(_,U,d,_,U,D.LS,_,_,U,U,.inr (by decide,by decide),_,_,U,U,_,_,U,U,(by show(0:Int)<2147483647;decide),?_)
    have b2:=mod_lt (x:=(s1*48271+7919) % 2147483647*40692+104729) (m:=2147483399) (by decide)
    refine(_,U,_,_,U,U,.inr (by decide,by decide),_,_,U,U,_,_,U,U,(by show(0:Int)<2147483399;decide),_,U,d,_,U,D.VU,?_)
    have z:=D.XF (m:=((s1*48271+7919) % 2147483647*40692+104729) % 2147483399) b2.1 (by lia)
    refine(_,U,d,_,U,z.LS,_,U,d,_,U,z.LS,_,_,U,U,.inl (by lia,by lia),_,_,U,U,(by show(0:Int)<2147483563;decide),?_)
    have b4:=mod_lt (x:=(s1*48271+7919) % 2147483647*((s1*48271+7919) % 2147483647)) (m:=2147483629) (by decide)
    refine(_,U,_,U,_,_,U,U,.inl (by lia,by lia),_,_,U,U,(by show(0:Int)<2147483629;decide),_,_,U,U,.inr (by decide,by decide),_,U,_,_,U,U,_,U,_,_,U,U,m0,?_)
    exact k _ _ (mod_lt m0).1 (mod_lt m0).2 (_,_,_,z) K1.Rf
  ·rintro c σ H1 ⟨s1,n1,ls,rfl,D,K1,rfl⟩ hx
   refine(_,U,d,_,U,D.WX,U,_,U,?_);refine aY (λh1=>?_) (λh1=>hx)
   refine(_,U,d,_,U,D.QK,l,_,U,.inl (SqL.of D.hl),_,_,U,U,_,U,?_);refine aY (λh2=>?_) (λh2=>hx)
   have h2:(0:Int)<((ls.map V.int).length:Int):=of_decide_eq_true h2;obtain rfl |⟨ls',x,rfl⟩:=List.eq_nil_or_concat ls
   ·simp at h2
   ·have ak:H1 l=Z (.lst (ls'.map V.int ++ [.int x])):=by simpa using D.hl
    refine(λah H'=>∃s n g,ah=[Z (.ref d),Z (.int m),Y,Y,Y]/\fj H' d l s n g/\Kp d l H H'/\g.length<(ls' ++ [x]).length,λah H' (s2,n2,g,e,z,K2,h)=>(g.length,by simpa using h,s2,n2,g,e,z,K2,U),?_)
    have x0:0<=x:=D.l0 x (by simp)
    have z:=D.list (ls':=ls') λy hy=>D.l0 y (by simp[hy])
    refine(_,U,d,_,U,D.QK,.inl (U,_,SqL.of ak),l,_,.int x,U,U,ak,(by simp),?_)
    rw[Z6];refine(_,U,d,_,U,z.VZ,?_);exact(_,_,ls',U,z.num x0,(K1.Xr).Rf,by simp)
theorem OO(T:Txt K mg a):aS P w K mg base CX0 1 a.Ai a.Mr [Tm,Su] (RB K):=by
 refine T.AQ.F.ok qy (λvs H Q E h=>?_) (λcdv A outer s H vs Q E hr h=>?_)
 ·let(a,ns,b,U,_):=h;rfl
 ·let(p0,ns,b,U,hS,hlen,b0,b1,k):=h;have hu:=b9 hr;refine(_,((dC (FW (i:=2) qy.nd U (Or.inl U) U (vg (Bq FD (pv 0) (zz (pv 1)) (zz b8))) (N':=[TZ]) (.own U .nil) (λ_ _ _ _ _=>((qM (i:=0) (show([TZ]:List Str).Nodup from by decide +kernel) U (Or.inl U)),FT,(kD (yK U) (by rfl) T.QU (by kernel_rfl) (bh (pv 0) (bh (fC Ld b8 (pv 0)) dW))))))
 (dC (lj (i:=3) qy.nd U (Or.inl U) (fC sU b8 (pv 1)))
 (dC (DW PassesOwn.never U (vg (pv 2)) (qM (i:=4) qy.nd U (Or.inl U))
 (jF (lj (i:=3) qy.nd U (Or.inl U) (fC lz (fC sU (fC pE (pv 3) b8) (fC lz (pv 4) b8)) b8))))
 (jF (pw (OA (vP gF (pv 3) (vP gF b8 (vP gF (D5 U U T.xf U T.xb (F7 U (vg (pv 2)) (N':=[TZ]) (.own U .nil) (λ_ _ _ _ _=>((qM (i:=0) (show([TZ]:List Str).Nodup from by decide +kernel) U (Or.inl U)),(N5 (nQ Qd (pv 0) (fC SX b8 b8) (a8 _))),(pv 0))))) Ou))) U U (by intro z;cases z) (by decide)))))))),?_)
  let(cs,aL,lcs):=Mu ns (Z b) (Z 63);refine(_,U,_,U,_,U,_,U,p0,_,U,hS,λp hp=>(p,U,(_,SqL.of aC),?_))
  rw[aL];have s1:pU H (upd H p (.lst (cs.map V.int))):=(pU.refl H).new hp;refine yF (K:=K) (a:=p) (xs:=cs.map V.int) (λi ys g H'=>∃zs:List Int,ys=zs.map V.int/\(∀z∈zs,0<=z)/\zs.length=i/\(∃o,g=[o])/\H'=upd H p (.lst (cs.map V.int))) ([],U,by simp,U,(_,U),U) ?_ ?_ ?_
  ·rintro i ys g H' hi ⟨zs,rfl,_,hz,_,rfl⟩
   refine(SqL.of aC,?_);rw[gV]at hi ⊢;exact bq (by lia)
  ·rintro i x ys g H' hi ⟨zs,rfl,z0,hz,⟨o,rfl⟩,rfl⟩
   let(c,U):=int_at hi;refine Pb ?_;refine(_,U,_,U,_,_,U,U,_,_,U,?_);refine(zs ++ [if 0 - c > c then 0 - c else c],by simp,?_,by simp[hz],(_,U),U)
   intro z ah;obtain h|h:=lS.mp ah
   ·exact z0 z h
   ·rw[aB.mp h]
    split <;> lia
  ·rintro ys g H' ⟨zs,rfl,z0,hz,_,rfl⟩ D hD
   have s2:pU H (upd (upd H p (.lst (cs.map V.int))) D (.lst (zs.map V.int))):=s1.new hD;have ak:(upd (upd H p (.lst (cs.map V.int))) D (.lst (zs.map V.int))) D=Z (.lst (zs.map V.int)):=aC
   generalize upd (upd H p (.lst (cs.map V.int))) D (.lst (zs.map V.int))=H2 at s2 ak ⊢
   refine(_,U,_,_,U,U,?_);refine(_,U,D,U,(_,SqL.of ak),LY (K:=K) (a:=D) (xs:=zs.map V.int) (λi g H'=>∃(n:Int)(o:Option V),g=[Z (.ref p0),Z (.int b),Z (.ref D),Z (.int n),o]/\0<=n/\n<2147483647/\H2=H')
    (_,_,U,by lia,by lia,U) (λi g H' _ (_,_,_,_,_,e)=>by rw[<- e];exact SqL.of ak) ?_ ?_)
   ·rintro i y g H' hi ⟨n,o,rfl,n0,n1,rfl⟩
    let(z,U):=int_at hi;refine(_,U,_,_,U,U,.inr (by decide,by decide),_,U,_,_,U,U,(by show(0:Int)<2147483629;decide),_,_,U,U,_,_,U,U,(by show(0:Int)<2147483647;decide),?_)
    exact(_,_,U,(mod_lt (by decide)).1,(mod_lt (by decide)).2,U)
   ·rintro g H' ⟨n,o,rfl,n0,aG,rfl⟩
    intro pd aq;have Ud:(upd H2 pd (.dK [])) D=Z (.lst (zs.map V.int)):=by rw[aw (aX ak aq)];exact ak
    have s3:pU H (upd H2 pd (.dK [])):=s2.new aq;have Uc:(upd H2 pd (.dK [])) pd=Z (.dK []):=aC;have aD:H pd=none:=s2.free aq
    generalize upd H2 pd (.dK [])=H3 at Ud s3 Uc ⊢
    refine(_,U,_,U,D,U,(_,SqL.of Ud),yF (K:=K) (a:=D) (xs:=zs.map V.int) (λi ys g H'=>∃ws:List Int,ys=ws.map V.int/\(∀z∈ws,0<=z)/\ws.length<=i/\(∃o,g=[o])/\H3=H') ([],U,by simp,qd _,(_,U),U) ?_ ?_ ?_)
    ·rintro i ys g H' hi ⟨ws,rfl,_,ah,_,rfl⟩
     refine(SqL.of Ud,?_);rw[gV]at hi ⊢;rw[gV]at hz;exact bq (by lia)
    ·rintro i x ys g H' hi ⟨ws,rfl,w0,ah,⟨o,rfl⟩,rfl⟩
     let(c,U,hc):=O5 hi;refine(_,U,_,_,U,U,(by decide,by decide,by decide),_,_,U,U,_,U,?_)
     refine aY (λh1=>?_) (λh1=>?_)
     ·refine(_,U,ws ++ [c],by simp,?_,by simp;lia,(_,U),U)
      intro z ah;obtain h|h:=lS.mp ah
      ·exact w0 z h
      ·rw[aB.mp h];exact z0 c hc
     ·exact(ws,U,w0,by lia,(_,U),U)
    ·rintro ys g H' ⟨ws,rfl,w0,ah,_,rfl⟩ D2 av
     refine(D2,_,U,SqL.of aC,λq hq=>?_)
     have n1:pd≠D2:=aX Uc av;have e1:(upd H3 D2 (.lst (ws.map V.int))) pd=Z (.dK []):=by rw[aw n1];exact Uc
     have n2:pd≠q:=aX e1 hq;have s4:pU H (upd (upd H3 D2 (.lst (ws.map V.int))) q (.lst ((ws.map V.int).reverse))):=(s3.new av).new hq;refine(by rw[aw n2];exact e1,[(.inr "seed",.int n),(.inr "number",.int 0),(.inr "left",.ref q)],U,(by show 3<=15;decide),?_)
     rw[show tm [] [((.inr "seed":Key),V.int n),(.inr "number",.int 0),(.inr "left",.ref q)]=dk n 0 q from by kernel_rfl]
     refine k pd q _ aD ((s3.new av).free hq) (n,0,ws.reverse,aC,?_,n0,aG,Zc _,?_) ?_
     ·rw[aw n2.symm,aC,List.map_reverse]
     ·intro x hx;exact w0 x (by simpa using hx)
     ·intro c o hc
      have:c≠pd:=aX hc aD
      rw[aw this];exact s4 c o hc
theorem ik(T:Txt K mg a):aS P w K mg base CX0 1 a.gm a.tJ [We,"row"] (A3 a.aV ["row"]):=by
 refine Fun.ok T.oh DA (λvs H Q E h=>?_) λcdv A outer s H vs Q E hr h=>?_
 ·let(b,ys,U,hl,_):=h;simp[hl]
 ·refine(_,jF (N6 (fn:=fns) (pv 0) (pv 1)),?_);let(b,ys,U,hl,g,k):=h;let(y,U):=List.length_eq_one_iff.mp hl;exact(y,U,.ref b,U,b,a.aV,O,_,_,U,T.cW,zU,EG,.inl (g,λd hd ne=>k d hd ne))
theorem lQ{α:Type}(f:α->Bool):∀xs:List α,bls (xs.map λx=>L2.T.b (f x))=Z (xs.map f)
 |[]=>rfl
 |x::r=>by show(bls (r.map λx=>L2.T.b (f x))).map (f x :: ·)=_;rw[lQ f r];rfl
theorem ER{i:Nat}{z:L2.T}(h:(chT x)[i]?=Z z):∃c,x.cps.toList[i]?=Z c/\z=.s ⟨#[c]⟩:=by
 unfold chT at h;rw[ti]at h;let(c,h1,U):=kf.mp h;exact(c,h1,U)
theorem n6:(chT x).length=x.length:=by unfold chT;rw[gV];rfl
theorem BL(T:Txt K mg a):aS P w K mg base CX0 1 a.vp a.GG ["text","signs","longest"] (spQ K Sz):=by
 refine T.AO.F.okQ JW (λts Q h=>?_) (λ_ _ _ _ _ _ hr=>?_)
 ·let(_,_,_,U,_):=h;rfl
 ·have hu:=b9 hr;refine(_,_,((ar (aM (vN (ZB (Ks Qc (mH (g':=λi j=>.b (decide (i<=j))) λ_ _ _ _=>.b _) Qc (mH (g':=λi j=>.b (decide (i<=j))) λ_ _ _ _=>.b _) af (ZB (eV T.gU (ae (qv 0) ax))) (qv 2))) (sO (gj (tP U U) zi (by rfl) T.MD (by kernel_rfl) (ae (ZB (lh U (DR (qv 0)) (N':=["sign","signs"]) (.own U (.got (i:=1) U U (.inl U) .nil)) (ka (g:=(Tg.nm 0)) (λ_ _ _ _ _=>((uO 0),(cI (pF U) jW U (qv 0) (qv 1))))))) ax))))))),λts Q h=>?_)
  let(x,signs,n,U,hx,q):=h;have V:x.length<=px:=xj (aR (by lia))
  unfold ofB at q;refine(V,aY (λh1=>?_) (λh1=>?_))
  ·rw[h1,YT]at q;refine aY (λh2=>?_) (λh2=>?_)
   ·rw[h2,YT]at q;refine(by rw[n6];exact aR (by lia),λi ys=>ys=(x.cps.toList.take i).map λc=>.b (sgn signs c),U,λi z ys hz e=>?_,λys e=>?_)
    ·let(c,hc,U):=ER hz;subst e;refine(_,U,?_);show _ ++ [L2.T.b (sgn signs c)]=_;rw[E8,hc];simp
    ·subst e;rw[n6,show x.length=x.cps.toList.length from U,MJ];exact(_,lQ _ _,by rw[ZC];exact q)
   ·rw[E3.mpr h2,Z5]at q;exact q
  ·rw[E3.mpr h1,Z5]at q;exact q
theorem Ec(T:Txt K mg a):aS P w K mg base CX0 2 a.nZ a.yE ["text"] (spQ K KU):=by
 refine T.yV.F.okQ DB (λts Q h=>?_) (λ_ _ _ _ _ _ hr=>?_)
 ·let(_,U,_):=h;rfl
 ·refine(_,_,((ar (aM (vN (ZB (aQ (BL T) hr T.AO (ae (qv 0) (ae (ZB (Bl U T.IZ)) (ae (ZB (Bm U T.w6)) ax))))) (sO (cI (sT U) jW U (qv 0) (ZB (Kr U T.Ao T.zu)))))))),λts Q h=>?_)
  let(x,U,hx,g):=h;refine(x,_,_,U,hx,?_);unfold ao at g;refine aY (λh=>?_) (λh=>?_)
  ·rw[show ofB x fO 8=O from h]at g;exact g
  ·rw[show ofB x fO 8=ϊ from E3.mpr h]at g;exact g
theorem BM(T:Txt K mg a):aS P w K mg base CX0 2 a.lM a.wR ["text"] (spQ K yo):=by
 refine T.xo.F.okQ Ba (λts Q h=>?_) (λ_ _ _ _ _ _ hr=>?_)
 ·let(_,U,_):=h;rfl
 ·refine(_,_,((ar (aM (vN (ZB (aQ (BL T) hr T.AO (ae (qv 0) (ae (ZB (Bl U T.I0)) (ae (ZB (Bm U T.uS)) ax))))) (sO (cI hV eT (a8 _) (bw (qv 0) af) (ZB ay))))))),λts Q h=>?_)
  let(x,U,hx,g):=h;refine(x,_,_,U,hx,?_);unfold dH at g;refine aY (λh=>?_) (λh=>?_)
  ·rw[h]at g;have h1:=by unfold ofB at h;simp only[tY]at h;exact h.1
   obtain⟨c,r,e⟩:∃c r,x.cps.toList=c::r:=by
    cases e:x.cps.toList with
    |nil=>have:x.length=0:=congrArg E7 e;lia
    |cons c r=>exact(c,r,U)
   rw[e]at g;refine(xj (aR (by lia)),c,by rw[e];exact jd U,U,?_)
   have q:(decide ((L2.T.s ⟨#[c]⟩).v=(L2.T.s "0").v))=decide ((c::r).head?=Z 48):=decide_eq_decide.mpr (λh=>by
    have:=V.str.inj h
    cases this;rfl,λh=>by cases h;rfl)
   rw[<- q]at g;exact g
  ·rw[E3.mpr h]at g;exact g
theorem sX(T:Txt K mg a):aS P w K mg base CX0 1 a.cU a.iR [We,"row","number"] (spL K 0 (HH a.aq)):=by
 refine T.gA.okL sG (λts Q h=>?_) (λ_ _ _ _ _ _ hr=>?_) λts Q h=>?_
 ·let(_,_,_,U,_):=h;rfl
 ·refine(_,_,((ag (nO T.av T.gQ (aP (j:=0)) (gG (qv 1) (ZB ay)))
 (ag (nO T.av T.bJ (aP (j:=0)) (XL (qv 2)))
 (ar (nO T.av T.fe (aP (j:=0)) bT))))),λts Q t0 z h g ha=>?_)
  let(x,row,n,U,hl,q):=h;cases g;cases ha;refine(by decide,aR (by lia),U,by decide,_,U,?_)
  refine(U,U,by decide,_,U,(U,by decide,_,U,?_))
  exact(_,U,U,q _ (.mk _ 0 U (u6 (split_len _ _) (by lia)) λw hw=>u6 (split_le hw) (by lia)))
 ·let(x,row,n,U,_):=h;exact(_,_,U,U)
theorem c3(T:Txt K mg a):aS P w K mg base CX0 1 a.cu a.gh [We] (spQ K (Sy a.aq)):=by
 refine T.dw.okQ mK (λts Q h=>?_) (λ_ _ _ _ _ _ hr=>?_)
 ·let(_,_,_,_,U,_):=h;rfl
 ·refine(_,_,((ar (aM (cI Qa (mH λ_ _ _ _=>.b _) (a8 _) (la T.av T.fe (qv 0)) (ZB (eV T.gU (ae (la T.av T.gQ (qv 0)) ax))))))),λts Q h=>?_)
  let(x,n,l,t,U,hw,g):=h;cases hw with
  |mk ws p h1 h2 h3 =>
   have e:decide ((p)<((ws.map L2.T.s).length:Int)) = !l.isEmpty:=by
    rw[<- h1,gV];cases e:ws.drop p with
    |nil=>exact decide_eq_false (by have:=Z9.mp e;lia)
    |cons w r=>exact decide_eq_true (by have:=congrArg E7 e;rw[xE,mD]at this;lia)
   rw[<- e]at g;exact(U,_,U,U,_,U,g)
theorem cg(T:Txt K mg a):aS P w K mg base CX0 2 a.dF a.iz [We] (spQ K (Oq a.aq)):=by
 refine T.fV.okQ qz (λts Q h=>?_) (λ_ _ _ _ _ _ hr=>?_)
 ·let(_,_,_,_,U,_):=h;rfl
 ·refine(_,_,((ar (aM (P0 (bp (ZB (eO T.av T.c4 (c3 T) hr.aW T.du (qv 0)))) (XL (bw (la T.av T.gQ (qv 0)) (la T.av T.fe (qv 0)))) ay)))),λts Q h=>?_)
  let(x,n,l,t,U,hw,q):=h;have g:=hw;cases hw with
  |mk ws p h1 h2 h3 =>
   refine(U,U,x,n,l,_,U,g,?_);cases l with
   |nil=>exact q
   |cons w r =>
    have e:=WR h1;exact(U,_,U,U,_,U,_,jd (by rw[ti,e];rfl),U,q)
theorem dD(T:Txt K mg a):aS P w K mg base CX0 3 a.eD a.iQ [We] (spL K 0 (Sr a.aq)):=by
 refine T.gy.okL kz (λts Q h=>?_) (λ_ _ _ _ _ _ hr=>?_) λts Q h=>?_
 ·let(_,_,_,_,U,_):=h;rfl
 ·refine(_,_,((ag (aH 1 kz.nd (eO T.av T.cj (cg T) hr.aW T.cG (gb (aP (j:=0)))))
 (ag (NU T.av T.fe T5 (aP (j:=0)) af)
 (ar (fc (XL (qv 1))))))),λts Q t0 V h q ha=>?_)
  let(x,n,l,t,U,hw,z):=h;cases q;have g:=hw;cases hw with
  |mk ws p h1 h2 h3 =>
   cases ha;exact(U,U,_,n,l,_,U,g,(U,by decide,_,U,_,U,(U,_,U,U,z _ (.next h1 h2 h3))))
 ·let(x,n,l,t,U,hw,_):=h;exact(_,_,U,hw.adr)
theorem bL(T:Txt K mg a):aS P w K mg base (CX1 P w) 4 a.cq a.gg [We,"due"] (spG K [0] [0] (VX a.aq a.aV)):=by
 refine T.dv.okG mJ (λts Q W h=>?_) (by decide) (λ_ h=>h) (λ_ _ _ _ _ _ hr=>?_) λts Q W h=>?_
 ·let(due,_,_,_,_,_,U,_):=h;rfl
 ·refine(_,_,((aK (RP hV eT (a8 _) (vL (kC T.av T.dE (dD T) hr.aW T.eJ (aP (j:=0)))) (qv 1)
 (aK (jg U U T.cW T.jj T.ji (ik T) hr.aW U T.iw T.jl (ae (gb (mU T.av T.bJ (aP (j:=0)))) ax)))
 (fM aN)))),λts Q W as h ha=>?_)
  let(due,hd,x,n,l,t,U,hw,hq,hx):=h;obtain rfl:=as1 ha hw.adr;have z:=hw;cases hw with
  |mk ws p h1 h2 h3 =>
   refine(U,U,U,x,n,l,_,U,z,λt' g=>(g.adr,U,_,U,?_))
   have q:=g;cases g with
   |mk V p2 g1 g2 g3 =>
    refine(U,aY (λh=>?_) (λh=>?_))
    ·exact(U,_,U,U,U,(by show 1<=1000;decide),hx (if_neg (en h)))
    ·exact([_],(U,U,trivial),hq _ _ (if_pos (nh h)) _ q)
 ·let(due,_,x,n,l,t,U,hw,_):=h;exact([x],(_,U,hw.adr),trivial)
theorem bu(T:Txt K mg a):aS P w K mg base (CX1 P w) 4 a.cb a.fF [We] (spG K [0] [0] (yn a.aq a.aV [] ur)):=by
 refine T.c9.okG g9 (λts Q W h=>?_) (by decide) (λ_ h=>h) (λ_ _ _ _ _ _ hr=>?_) λts Q W h=>?_
 ·let(_,_,_,_,U,_):=h;rfl
 ·refine(_,_,((aj (cZ (i:=1) g9.nd (vL (kC T.av T.dE (dD T) hr.aW T.eJ (aP (j:=0)))))
 (aj (gP (fw (bp (ZB (aQ (Ec T) hr T.yV (ae (qv 1) ax)))))
 (aK (jg U U T.cW T.jj T.ji (ik T) hr.aW U T.iw T.jl (ae (gb (mU T.av T.bJ (aP (j:=0)))) ax)))
 (fM aN))
 (aK (bf (fc (XL (qv 1)))))))),λts Q W as h ha=>?_)
  let(x,n,l,t,U,hw,V,hx):=h;obtain rfl:=as1 ha hw.adr;have q:=hw;cases hw with
  |mk ws p h1 h2 h3 =>
   refine(U,U,U,x,n,l,_,U,q,λt' g=>(g.adr,U,_,U,?_))
   have z:=g;cases g with
   |mk ah p2 g1 g2 g3 =>
    refine(_,U,q.hd,?_);unfold ur at V hx;cases e:ao (hd l)with
    |false =>
     rw[e]at hx;exact(U,_,U,U,U,(by show 1<=1000;decide),hx U)
    |true =>
     rw[e]at V;exact(U,[_],(U,U,trivial),V _ _ U _ z)
 ·let(x,n,l,t,U,hw,_):=h;exact([x],(_,U,hw.adr),trivial)
theorem lA(T:Txt K mg a):aS P w K mg base (CX1 P w) 4 a.bV a.eZ [We] (spG K [0] [0] (yn a.aq a.aV [] tI)):=by
 refine T.cN.okG gO (λts Q W h=>?_) (by decide) (λ_ h=>h) (λ_ _ _ _ _ _ hr=>?_) λts Q W h=>?_
 ·let(_,_,_,_,U,_):=h;rfl
 ·refine(_,_,((aj (cZ (i:=1) gO.nd (vL (kC T.av T.dE (dD T) hr.aW T.eJ (aP (j:=0)))))
 (aj (gP (fw (bp (ZB (aQ (BM T) hr T.xo (ae (qv 1) ax)))))
 (aK (jg U U T.cW T.jj T.ji (ik T) hr.aW U T.iw T.jl (ae (gb (mU T.av T.bJ (aP (j:=0)))) ax)))
 (fM aN))
 (aK (bf (fc (aU IY JN (by rfl) T.kM (by kernel_rfl) (ae (qv 1) ax)))))))),λts Q W as h ha=>?_)
  let(x,n,l,t,U,hw,V,hx):=h;obtain rfl:=as1 ha hw.adr;have q:=hw;cases hw with
  |mk ws p h1 h2 h3 =>
   refine(U,U,U,x,n,l,_,U,q,λt' g=>(g.adr,U,_,U,?_))
   have z:=g;cases g with
   |mk ah p2 g1 g2 g3 =>
    refine(_,U,q.hd,?_);unfold tI at V hx;cases e:dH (hd l)with
    |false =>
     rw[e]at hx;exact(U,_,U,U,U,(by show 1<=1000;decide),hx U)
    |true =>
     rw[e]at V;have h7:=tL e;exact(_,yG e,by lia,[_],(U,U,trivial),V _ _ U _ z)
 ·let(x,n,l,t,U,hw,_):=h;exact([x],(_,U,hw.adr),trivial)
theorem pH(T:Txt K mg a):aS P w K mg base (CX1 P w) 4 a.c8 a.gT [We] (spG K [0] [0] (yn a.aq a.aV [] Pm)):=by
 refine T.fh.okG oY (λts Q W h=>?_) (by decide) (λ_ h=>h) (λ_ _ _ _ _ _ hr=>?_) λts Q W h=>?_
 ·let(_,_,_,_,U,_):=h;rfl
 ·refine(_,_,((aK (gP (bp (ZB (eO T.av T.c4 (c3 T) hr.aW T.du (gb (aP (j:=0))))))
 (aK (jg U U T.cW T.jj T.ji (ik T) hr.aW U T.iw T.jl (ae (gb (mU T.av T.bJ (aP (j:=0)))) ax)))
 (fM aN)))),λts Q W as h ha=>?_)
  let(x,n,l,t,U,hw,q,hx):=h;obtain rfl:=as1 ha hw.adr;have g:=hw;cases hw with
  |mk ws p h1 h2 h3 =>
   refine(U,U,x,n,l,_,U,g,?_);unfold Pm at q hx;cases e:l.isEmpty with
   |false =>
    rw[e]at hx;exact(U,_,U,U,U,(by show 1<=1000;decide),hx U)
   |true =>
    have z:=ZQ.mp e;subst z;exact([_],(U,U,trivial),q _ _ U _ g)
 ·let(x,n,l,t,U,hw,_):=h;exact([x],(_,U,hw.adr),trivial)
theorem fY(T:Txt K mg a):aS P w K mg base (CX1 P w) 5 a.bG a.dh [We,"due"] (spG K [0] [0] (Oe a.aq a.aV)):=by
 refine T.b6.okG fX (λts Q W h=>?_) (by decide) (λ_ h=>h) (λ_ _ _ _ _ _ hr=>?_) λts Q W h=>?_
 ·let(_,_,_,_,_,_,_,_,U,_):=h;rfl
 ·have hu:=b9 hr;refine(_,_,((aj (bf (aH 2 fX.nd (aZ aF)))
 (aj (jf PassesOwn.leaving (bQ hV eT (a8 _) (ZB (eO T.av T.cj (cg T) hr.aW T.cG (gb (aP (j:=0))))) (qv 1))
 (aK (jD (i:=2) (pv 2) (cH T.av T.aL (bu T) hr.aW T.aO (aP (j:=0))))))
 (aj (dB (gq T.av T.a5 (bL T) hr.aW T.bc (aP (j:=0)) (ae (qv 1) ax)))
 (aK (bf (fc (aU (cE U) cB (by rfl) T.fS (by kernel_rfl) (ae (qv 2) ax))))))))),λts Q W as h ha=>?_)
  let(due,dn,db,dl,x,n,l,t,U,hw,hq,hx):=h;obtain rfl:=as1 ha hw.adr;have hl:=hw.len;refine(λc q=>Q4 λ(L l':List Str)(t':L2.T)(NN:List L2.T)=>q=[.o t',.r (.s due),.o (.l NN)]/\NN=L.map .s/\Rw a.aq x n l' t'/\c=l'.length/\(fNames due l=(fNames due l').map λz=>(L++z.1,z.2))/\L.length+l'.length<=l.length,(_,[],l,t,_,U,U,hw,U,by cases fNames due l <;> rfl,by simp),?_)
  rintro c q ⟨L,l',t',NN,rfl,rfl,hw,rfl,hf,hn⟩
  have V:=hw;cases hw with
  |mk ws p h1 h2 h3 =>
   refine(U,U,x,n,l',_,U,V,?_);refine(U,aY (λh=>?_) (λh=>?_))
   ·have h:=en h;refine(λq'=>∃(L l2:List Str)(t':L2.T)(NN:List L2.T),q'=[.o t',.r (.s due),.o (.l NN)]/\NN=L.map .s/\Rw a.aq x n l2 t'/\l2.length<l'.length/\(fNames due l=(fNames due l2).map λz=>(L++z.1,z.2))/\L.length+l2.length<=l.length,?_,?_)
    ·rintro q' ⟨L,l2,t',NN,rfl,rfl,g1,g2,g3,g4⟩
     exact(_,g2,L,l2,t',_,U,U,g1,U,g3,g4)
    ·refine((_,U),U,U,U,_,U,x,n,l',_,U,V,λr l2 e t2 g=>?_,λe=>hx ?_)
     ·cases l' with
      |nil=>cases e
      |cons w r =>
       unfold ur at e
       split at e
       ·rename_i hb;have hb:ao w=true:=hb;have h:w≠due:=h;cases e;refine(U,_,U,aR (by rw[gV];simp at hn;lia),L ++ [w],r,t2,_,U,by simp,g,by simp,?_,by simp at hn ⊢;lia)
        rw[hf,fNames,if_neg h,if_pos hb];cases fNames due r <;> simp
       ·cases e
     ·rw[hf];cases l' with
      |nil=>rfl
      |cons w r =>
       have h:w≠due:=h;unfold ur at e
       split at e
       ·cases e
       ·rename_i hb;have hb:¬ ao w=true:=hb;rw[fNames,if_neg h,if_neg hb];rfl
   ·have h:=nh h;cases l' with
    |nil=>exact absurd h.symm dn
    |cons w r =>
     have h:w=due:=h;refine(U,U,U,_,U,due,dl,x,n,w::r,_,U,V,λr1 l2 e t2 g=>?_,λe=>?_)
     ·unfold oq at e;rw[if_pos (show hd (w::r)=due from h)]at e;cases e;exact(U,a9 L,[_],(U,g.adr,trivial),hq _ _ (by rw[hf,fNames,if_pos h];simp[tN]) _ g)
     ·unfold oq at e;rw[if_pos (show hd (w::r)=due from h)]at e;cases e
 ·let(due,_,_,_,x,n,l,t,U,hw,_):=h;exact([x],(_,U,hw.adr),trivial)
theorem m4(T:Txt K mg a):aS P w K mg base CX0 1 a.iE a.oK ["heads","body"] (spQ K N8):=by
 refine T.gp.F.okQ jn (λts Q h=>?_) (λ_ _ _ _ _ _ hr=>?_)
 ·let(_,_,U,_):=h;rfl
 ·refine(_,_,((ag (j9 (g:=(Tg.nm 2)) PassesOwn.never U (RU U T.xb (pv 0)) (kb 2 jn.nd)
 (ar (aH 1 jn.nd (az (qv 2) (ZB (bt (ai (XL (qv 1)) aF)))))))
 (ar (aM (XL (qv 1)))))),λts Q h=>?_)
  let(hts,b,U,hi,hb,hl,hq):=h;have len:∀i,((hts.map L2.T.t).reverse)[i]?=hts.reverse[i]?.map L2.T.t:=λi=>by rw[<- List.map_reverse,ti]
  refine(λi q=>P3 λu o1 o2=>q=[.r (.l (hts.map .t)),o1,o2]/\(o1=.r u\/o1=.o u)/\u.im=O/\u=dg (hts.reverse.take i).reverse b,(_,_,_,U,.inl U,hb,U),λi z q hz e=>?_,λq e=>?_)
  ·let(u,o1,o2,U,ho,V,ah):=e;rw[len]at hz;let(h,hh,U):=kf.mp hz;let(g1,g2):=hi h (List.mem_reverse.mp (yb hh));have e1:(hts.reverse.take (i+1)).reverse=h ::(hts.reverse.take i).reverse:=by rw[E8,hh];simp
   refine(_,U,?_);have iu:L2.T.ims [u]=true:=by show(u.im&&O)=O;rw[V];rfl
   have ih:=by show L2.T.ims (h ++ [u])=O;rw[jv,g1,iu];rfl
   have hz:h.length + [u].length<=px:=xj (aR (by simp;omega))
   obtain rfl|rfl:=ho
   ·exact(V,hz,g1,iu,_,_,_,U,.inr U,ih,by rw[e1,ah];rfl)
   ·exact(V,hz,g1,iu,_,_,_,U,.inr U,ih,by rw[e1,ah];rfl)
  ·let(u,o1,o2,U,ho,V,ah):=e;rw[Yg,gV,<- Yg,MJ,List.reverse_reverse]at ah;subst ah;obtain rfl|rfl:=ho
   ·exact(V,hq)
   ·exact(V,hq)
theorem sY(T:Txt K mg a):aS P w K mg base (CX1 P w) 1 a.cV a.iS [We,"heads","looked"] (spG K [0] [0,1] (KR a.aD)):=by
 refine T.gB.okG sH (λts Q W h=>?_) (by decide) (λj h=>by simp at h;simp[h]) (λ_ _ _ _ _ _ hr=>?_) λts Q W h=>?_
 ·let(_,_,_,U,_):=h;rfl
 ·refine(_,_,((fM (ag (Kg (by decide) T.bE T.jH (aP (j:=0)) (pv 1))
 (ag (nO T.bE T.jt (aP (j:=0)) (XL (qv 2)))
 (ag (nO T.bE T.ip (aP (j:=0)) (aZ aF))
 (ar (nO T.bE T.fE (aP (j:=0)) (bt aF)))))))),λts Q W as h ha=>?_)
  let(x,hs,lk,U,g):=h;obtain rfl:=as1 ha U;exact(_,U,U,by decide,U,_,U,(U,U,by decide,_,U,(U,by decide,_,U,(U,by decide,_,U,(([_],(U,U,trivial),g))))))
 ·let(x,hs,lk,U,_):=h;exact([x],(_,U,U),trivial)
theorem lB(T:Txt K mg a):aS P w K mg base CX0 1 a.bW a.fb [We,"body"] (spL K 0 (Ob a.aD)):=by
 refine T.cO.okL kW (λts Q h=>?_) (λ_ _ _ _ _ _ hr=>?_) λts Q h=>?_
 ·let(_,_,_,_,_,_,U,_):=h;rfl
 ·refine(_,_,((ar (NV (mU T.bE T.ip (aP (j:=0))) (az (gb (mU T.bE T.fE (aP (j:=0)))) (ZB (bt (ai (XL (qv 1)) aF))))))),λts Q t0 V h q ha=>?_)
  let(x,hs,lk,arms,ah,b,U,hi,g,hl,z):=h;cases q;cases ha;refine(U,_,U,aR (by lia),U,_,U,g,?_)
  exact(xj (aR (by simp;lia)),hi,(by show(b.im&&O)=O;rw[g];rfl),_,U,_,U,U,z)
 ·let(x,hs,lk,arms,ah,b,U,_):=h;exact(_,_,U,U)
theorem hW(T:Txt K mg a):aS P w K mg base (CX1 P w) 6 a.cc a.fG [We,"words"] (spG K [0,1] [0,1] (Od a.aD a.aq a.aV)):=by
 refine T.de.okG hJ (λts Q W h=>?_) (by decide) (λ_ h=>h) (λ_ _ _ _ _ _ hr=>?_) λts Q W h=>?_
 ·let(_,_,_,_,_,_,_,_,_,U,_):=h;rfl
 ·refine(_,_,((aj (cZ (i:=2) hJ.nd (cH T.av T.aL (bu T) hr.aW T.aO (aP (j:=1))))
 (aK (NP T.bE T.fE (aP (j:=0)) (mV (cQ (hU (qv 2)) (cQ (gq T.av T.fZ (fY T) hr.aW T.gn (aP (j:=1)) (ae (ZB ay) ax)) cz))))))),λts Q W as h ha=>?_)
  let(x,hs,lk,arms,ah,y,n,l,t,U,hw,hq,hx):=h;obtain rfl:=as2 ha U hw.adr;have V:=hw;cases hw with
  |mk ws p h1 h2 h3 =>
   refine(U,U,U,_,U,y,n,l,_,U,V,λr l1 e t1 q=>?_,λe=>hx (if_neg (cp e)))
   have tD:=q;let(hb,U,U):=cn e;cases q with
   |mk ak p1 i1 i2 i3 =>
    refine(U,U,U,U,U,U,_,U,":",by decide,by decide +kernel,by decide,y,n,l.tail,_,U,tD,λr l2 z t2 g=>?_,λz=>hx ?_)
    ·let((ns,l3),e3,e4):=kf.mp z;cases e4;exact(a9 ns,a9 ns,xj (aR (by simp)),U,by decide,_,U,[_,_],(U,U,U,g.adr,trivial),hq _ _ (by unfold lP;rw[if_pos hb,e3];rfl) _ g)
    ·unfold lP;rw[if_pos hb];rw[WM]at z ⊢;exact z
 ·let(x,hs,lk,arms,ah,y,n,l,t,U,hw,_):=h;exact([x,y],(_,U,U),(_,U,hw.adr),trivial)
theorem qR(T:Txt K mg a):aS P w K mg base CX0 2 a.dG a.iA [We] (spQ K (HJ a.aD)):=by
 refine T.fW.okQ qD (λts Q h=>?_) (λ_ _ _ _ _ _ hr=>?_)
 ·let(_,_,_,_,_,U,_):=h;rfl
 ·refine(_,_,((ar (aM (aQ (m4 T) hr T.gp (ae (la T.bE T.jH (qv 0)) (ae (ZB (bt (ai ay (ai (XL (la T.bE T.jt (qv 0))) (ai (aU (cE U) cB (by rfl) T.fS (by kernel_rfl) (ae (la T.bE T.ip (qv 0)) ax)) aF))))) ax)))))),λts Q h=>?_)
  let(x,hts,lk,arms,ah,U,ho,hi,hl,g):=h;refine(U,_,U,U,_,U,U,U,_,U,hi,hts,_,U,ho,?_,hl,g);show(O&&(O&&(L2.T.ims arms&&O)))=O;rw[hi];rfl
theorem xF(T:Txt K mg a):aS P w K mg base (CX1 P w) 5 a.i8 a.rD ["words"] (spG K [0] [0] (yn a.aq a.aV [] λl=>(iy l).map tMk)):=by
 refine T.d8.F.okG jX (λts Q W h=>?_) (by decide) (λ_ h=>h) (λ_ _ _ _ _ _ hr=>?_) λts Q W h=>?_
 ·let(_,_,_,_,U,_):=h;rfl
 ·have hu:=b9 hr;refine(_,_,((aj (cZ (i:=1) jX.nd (cH T.av T.aL (bu T) hr.aW T.aO (aP (j:=0))))
 (aj (bf (aH 2 jX.nd (aZ aF)))
 (aj (jf PassesOwn.leaving (QPW.pt (j8 (bp (ZB (eO T.av T.c4 (c3 T) hr.aW T.du (gb (aP (j:=0)))))) (i6 (bQ hV eT (a8 _) (ZB (eO T.av T.cj (cg T) hr.aW T.cG (gb (aP (j:=0))))) (ZB ay)))))
 (aK (jD (i:=2) (pv 2) (cH T.av T.aL (bu T) hr.aW T.aO (aP (j:=0))))))
 (aK (bf (fc (bt (ai (XL (qv 1)) (ai (aU (cE U) cB (by rfl) T.fS (by kernel_rfl) (ae (qv 2) ax)) aF)))))))))),λts Q W as h ha=>?_)
  let(x,n,l,t,U,hw,hq,hx):=h;obtain rfl:=as1 ha hw.adr;have g:=hw;cases hw with
  |mk ws p h1 h2 h3 =>
   refine(U,U,U,_,U,x,n,l,_,U,g,λr l1 e t1 ah=>?_,λe=>hx (by unfold iy;rw[if_neg (cp e)];rfl))
   let(hb,U,U):=cn e;have a0:=ah.len;refine(U,?_);refine(λc q=>Q4 λ(L l':List Str)(t':L2.T)(NN:List L2.T)=>q=[.o t',.o (.s (hd l)),.o (.l NN)]/\NN=L.map .s/\Rw a.aq x n l' t'/\c=l'.length/\(bN l.tail=(bN l').map λz=>(L++z.1,z.2))/\L.length+l'.length<=l.tail.length,(_,[],l.tail,t1,_,U,U,ah,U,by cases bN l.tail <;> rfl,by simp),?_)
   rintro c q ⟨L,l',t',NN,rfl,rfl,hw,rfl,hf,hn⟩
   have g:=hw;have aD:bN l'=Z ([],l')->Q (.t [.s (hd l),.t (L.map .s)]) [t']:=λh=>hq _ _ (by
    unfold iy;rw[if_pos hb,hf,h];simp[tMk,tM]) _ hw
   cases hw with
   |mk ws p h1 h2 h3 =>
    cases l' with
    |nil =>
     refine(U,U,x,n,[],_,U,g,?_);exact(U,a9 L,[_],(U,U,trivial),aD U)
    |cons w r =>
     refine(U,U,x,n,w::r,_,U,g,?_);refine(U,U,x,n,w::r,_,U,g,U,aY (λh=>?_) (λh=>?_))
     ·have ak:w ≠ "|":=en h
      clear h;refine(λq'=>∃(L l2:List Str)(t':L2.T)(NN:List L2.T),q'=[.o t',.o (.s (hd l)),.o (.l NN)]/\NN=L.map .s/\Rw a.aq x n l2 t'/\l2.length<(w::r).length/\(bN l.tail=(bN l2).map λz=>(L++z.1,z.2))/\L.length+l2.length<=l.tail.length,?_,?_)
      ·rintro q' ⟨L,l2,t',NN,rfl,rfl,g1,g2,g3,g4⟩
       exact(_,g2,L,l2,t',_,U,U,g1,U,g3,g4)
      ·refine((_,U),U,U,U,_,U,x,n,w::r,_,U,g,λr1 l2 e t2 aG=>?_,λe=>hx ?_)
       ·let(V,e1,e2):=cn e;have V:ao w=true:=V;subst e1;have e2:r=l2:=e2.symm;subst e2;have hn:L.length+(r.length+1)<=l.tail.length:=hn;refine(U,_,U,aR (by rw[gV];lia),L ++ [w],r,t2,_,U,by simp,aG,by simp,?_,by rw[oa];show L.length+1+r.length<=_;lia)
        rw[hf,bN,if_neg ak,if_pos V];cases bN r <;> simp
       ·have V:¬ ao w=true:=cp e;unfold iy;rw[if_pos hb,hf,bN,if_neg ak,if_neg V];rfl
     ·have h:w="|":=nh h
      exact(U,a9 L,[_],(U,U,trivial),aD (by rw[bN,if_pos h]))
 ·let(x,n,l,t,U,hw,_):=h;exact([x],(_,U,hw.adr),trivial)
theorem zJ(T:Txt K mg a):aS P w K mg base (CX1 P w) 6 a.jL a.uw ["words"] (spG K [0] [0] (yn a.aq a.aV [] λl=>(iX l).map tKd)):=by
 refine T.jR.F.okG kQ (λts Q W h=>?_) (by decide) (λ_ h=>h) (λ_ _ _ _ _ _ hr=>?_) λts Q W h=>?_
 ·let(_,_,_,_,U,_):=h;rfl
 ·have hu:=b9 hr;refine(_,_,((aj (dB (gq T.av T.a5 (bL T) hr.aW T.bc (aP (j:=0)) (ae (ZB ay) ax)))
 (aj (cZ (i:=1) kQ.nd (cH T.av T.aL (bu T) hr.aW T.aO (aP (j:=0))))
 (aj (Ke (i:=2) kQ.nd (cQ (jr (xF T) hr.aW U T.d8.m T.d8.F.kp T.d8.b (pv 0) cz) cz))
 (aj (jf PassesOwn.leaving (bp (ZB (eO T.av T.c4 (c3 T) hr.aW T.du (gb (aP (j:=0))))))
 (aj (dB (gq T.av T.a5 (bL T) hr.aW T.bc (aP (j:=0)) (ae (ZB ay) ax)))
 (aK (jD (i:=2) (pv 2) (jr (xF T) hr.aW U T.d8.m T.d8.F.kp T.d8.b (pv 0) cz)))))
 (aK (bf (fc (bt (ai (XL (qv 1)) (ai (aU (cE U) cB (by rfl) T.fS (by kernel_rfl) (ae (qv 2) ax)) aF))))))))))),λts Q W as h ha=>?_)
  let(x,n,l,t,U,hw,hq,hx):=h;obtain rfl:=as1 ha hw.adr;have z:=hw;have kn:∀{l0:List Str},iX l0=Y->(iX l0).map tKd=none:=λe=>by rw[e];rfl
  cases hw with
  |mk ws p h1 h2 h3 =>
   refine(U,U,U,_,U,"kind",by decide,x,n,l,_,U,z,λr l1 e t1 aG=>?_,λe=>hx (kn (by unfold iX;rw[e])))
   let(hk,U,U):=cD e;have tD:=aG;cases aG with
   |mk ws p h1 h2 h3 =>
    refine(U,U,U,U,_,U,x,n,_,_,U,tD,λr l1 e2 t2 aD=>?_,λe2=>hx (kn (by unfold iX;rw[e];dsimp only;rw[if_neg (cp e2)])))
    let(hb,e3,e4):=cn e2;subst e3 e4;have z8:=aD;cases aD with
    |mk ws p h1 h2 h3 =>
     have kq:∀{L:List Mk1}{t':L2.T},bM (l.length+1) l.tail.tail=Z L->Rw a.aq x n [] t'->Q (tK (hd l.tail,L)) [t']:=λ{L t'} h hw=>hq _ _ (by unfold iX;rw[e];dsimp only;rw[if_pos hb,h];rfl) _ hw
     have kx:bM (l.length+1) l.tail.tail=Y->W a.aV ["row"] [.i n]:=λh=>hx (by unfold iX;rw[e];dsimp only;rw[if_pos hb,h];rfl)
     have hl:=z.len;refine(U,(_,U),_,U,λ_=>(x,n,_,_,U,z8,λr l1 e5 t3 a6=>?_,λe5=>kx (by rw[WM]at e5;rw[bM,e5])))
     let((m,l2),e6,e7):=kf.mp e5;cases e7;have ln:=wJ e6;rw[xi,xi]at ln;have e8:=uu (k:=l.length) e6;rw[e8]at kq kx;refine(B8 m,B8 m,xj (aR (by simp)),?_)
     refine(λc q=>Ea5 λ(L:List Mk1)(l':List Str)(t':L2.T)(NN:List L2.T)(k:Nat)=>q=[.o t',.o (.s (hd l.tail)),.o (.l NN)]/\NN=L.map tM/\Rw a.aq x n l' t'/\c=l'.length/\wL l.length [m] l2=wL k L l'/\l'.length<=k/\L.length+l'.length<=l.length,(_,[m],l2,t3,_,l.length,U,U,a6,U,U,by lia,by simp;lia),?_)
     rintro c q ⟨L,l',t',NN,k,rfl,rfl,hw,rfl,hf,hk,hn⟩
     rw[hf]at kq kx;have z:=hw;cases hw with
     |mk ws p h1 h2 h3 =>
      refine(U,U,x,n,l',_,U,z,?_);cases em:l'.isEmpty with
      |true =>
       have el:l'=[]:=ZQ.mp em;subst el;exact(U,ff B8 L,[_],(U,U,trivial),kq U z)
      |false =>
       refine(λq'=>∃(L:List Mk1)(g:List Str)(t':L2.T)(NN:List L2.T)(k:Nat),q'=[.o t',.o (.s (hd l.tail)),.o (.l NN)]/\NN=L.map tM/\Rw a.aq x n g t'/\g.length<l'.length/\wL l.length [m] l2=wL k L g/\g.length<=k/\L.length+g.length<=l.length,?_,?_)
       ·rintro q' ⟨L,g,t',NN,k,rfl,rfl,g1,g2,g3,g4,g5⟩
        exact(_,g2,L,g,t',_,k,U,U,g1,U,g3,g4,g5)
       ·obtain⟨w,r,rfl⟩:∃w r,l'=w::r:=by cases l' with|nil=>cases em|cons w r=>exact(w,r,rfl)
        have hn:L.length+(r.length+1)<=l.length:=hn;have hk:r.length+1<=k:=hk;obtain⟨k',rfl⟩:∃k',k=k'+1:=(k - 1,by lia)
        refine(U,U,U,_,U,"|",by decide,x,n,w::r,_,U,z,λr1 l3 e9 t4 ak=>?_,λe9=>kx ?_)
        ·let(a0,bb,ah):=cD e9;have ah:r=l3:=ah.symm;subst bb ah;have Ub:=ak;cases ak with
         |mk ws p h1 h2 h3 =>
          refine(U,(_,U),(_,U),_,U,λ_=>(x,n,_,_,U,Ub,λr2 l4 V t5 a4=>?_,λV=>kx ?_))
          ·let((m',l5),a3,a7):=kf.mp V;cases a7;have bj:l5.length<r.length:=wJ a3;refine(B8 m',_,U,aR (by rw[gV];lia),L ++ [m'],l5,t5,_,k',U,by simp,a4,by show l5.length<r.length+1;lia,by rw[hf];exact IE em a0 a3,by lia,by rw[oa];show L.length+1+l5.length<=_;lia)
          ·unfold wL;rw[WM]at V;rw[em,if_neg (by decide),if_pos a0,show(w::r).tail=r from U,bM,V]
           rfl
        ·unfold wL;rw[em,if_neg (by decide),if_neg (jk e9)]
 ·let(x,n,l,t,U,hw,_):=h;exact([x],(_,U,hw.adr),trivial)
theorem BJ(T:Txt K mg a):aS P w K mg base (CX1 P w) 6 a.lL a.wQ ["words"] (spG K [0] [0] (yn a.aq a.aV [] λl=>(lO l).map tH)):=by
 refine T.lU.F.okG jC (λts Q W h=>?_) (by decide) (λ_ h=>h) (λ_ _ _ _ _ _ hr=>?_) λts Q W h=>?_
 ·let(_,_,_,_,U,_):=h;rfl
 ·have hu:=b9 hr;refine(_,_,((aj (cZ (i:=1) jC.nd (cH T.av T.aL (bu T) hr.aW T.aO (aP (j:=0))))
 (aj (cZ (i:=2) jC.nd (vL (kC T.av T.dE (dD T) hr.aW T.eJ (aP (j:=0)))))
 (aj (gP (QPW.pt (j8 (bQ hV eT (a8 _) (qv 2) (ZB ay)) (j8 (bQ hV eT (a8 _) (qv 2) (ZB ay)) (i6 (bQ hV eT (a8 _) (qv 2) (ZB ay))))))
 (aK (jg U U T.cW T.jj T.ji (ik T) hr.aW U T.iw T.jl (ae (gb (mU T.av T.bJ (aP (j:=0)))) ax)))
 (fM aN))
 (aj (cZ (i:=3) jC.nd (cH T.av T.aL (bu T) hr.aW T.aO (aP (j:=0))))
 (aj (gP (cY hu (qv 2) (ZB ay))
 (aj (dB (gq T.av T.a5 (bL T) hr.aW T.bc (aP (j:=0)) (ae (ZB ay) ax)))
 (aK (bf (fc (bt (ai (XL (qv 2)) (ai (XL (qv 1)) (ai (XL (qv 3)) aF))))))))
 (fM aN))
 (aK (qF (mV (cQ (hU (qv 2)) (cQ (hU (qv 1)) (cQ (hU (qv 3)) (cQ (gq T.av T.fZ (fY T) hr.aW T.gn (aP (j:=0)) (ae (ZB ay) ax)) cz))))))))))))),λts Q W as h ha=>?_)
  let(x,n,l,t,U,hw,hq,hx):=h;obtain rfl:=as1 ha hw.adr;have aG:=hw;have kn:∀{l0:List Str},lO l0=Y->(lO l0).map tH=none:=λe=>by rw[e];rfl
  cases hw with
  |mk ws p h1 h2 h3 =>
   refine(U,U,U,_,U,x,n,l,_,U,aG,λr l1 e t1 aD=>?_,λe=>hx (kn (by unfold lO;rw[if_neg (cp e)])))
   let(hb,e1,e2):=cn e;subst e1 e2;have tD:=aD;cases aD with
   |mk ws p h1 h2 h3 =>
    refine(U,U,U,U,x,n,_,_,U,tD,λt2 ah=>(ah.adr,U,_,U,?_))
    have z8:=ah;cases ah with
    |mk ws p h1 h2 h3 =>
     dsimp only;refine Xw (w:=hd l.tail) ?_ ?_
     ·rfl
     by_cases hm:hd l.tail="make" \/ hd l.tail="call" \/ hd l.tail="name"
     ·rw[V9 hm];refine(U,U,U,_,U,x,n,_,_,U,z8,λr l3 e3 t3 ak=>?_,λe3=>hx (kn (by unfold lO;rw[if_pos hb,if_pos hm,if_neg (cp e3)])))
      let(q,e4,e5):=cn e3;subst e4 e5;have Iu:=ak;cases ak with
      |mk ws p h1 h2 h3 =>
       refine(U,U,aY (λh=>?_) (λh=>?_))
       ·have h:hd l.tail="name":=V.str.inj (of_decide_eq_true h);refine(U,U,U,_,U,";",by decide,x,n,_,_,U,Iu,λr l4 e6 t4 g=>?_,λe6=>hx (kn ?_))
        ·let(_,e7,e8):=cD e6;subst e7;exact(U,U,U,U,[_],(U,g.adr,trivial),hq _ _ (by unfold lO;rw[if_pos hb,if_pos hm,if_pos q,if_pos h,e6];rfl) _ g)
        ·unfold lO;rw[if_pos hb,if_pos hm,if_pos q,if_pos h,e6];rfl
       ·have h:¬ hd l.tail="name":=λz=>h (by rw[z];exact decide_eq_true U)
        refine(U,U,U,U,U,U,U,U,U,_,U,";",by decide,by decide +kernel,by decide,x,n,_,_,U,Iu,λr l4 e6 t4 g=>?_,λe6=>hx (kn ?_))
        ·let((ns,l5),e7,e8):=kf.mp e6;cases e8;exact(a9 ns,a9 ns,xj (aR (by simp)),[_],(U,g.adr,trivial),hq _ _ (by unfold lO;rw[if_pos hb,if_pos hm,if_pos q,if_neg h,e7];rfl) _ g)
        ·rw[WM]at e6;unfold lO;rw[if_pos hb,if_pos hm,if_pos q,if_neg h,e6];rfl
     ·rw[V8 hm];exact(U,_,U,U,U,(by show 1<=1000;decide),hx (kn (by unfold lO;rw[if_pos hb,if_neg hm])))
 ·let(x,n,l,t,U,hw,_):=h;exact([x],(_,U,hw.adr),trivial)
theorem zK(T:Txt K mg a):aS P w K mg base (CX1 P w) 7 a.jM a.ux ["words","word"] (spG K [0] [0] (SA a.aq a.aV)):=by
 refine T.jS.F.okG qq (λts Q W h=>?_) (by decide) (λ_ h=>h) (λ_ _ _ _ _ _ hr=>?_) λts Q W h=>?_
 ·let(_,_,_,_,_,_,U,_):=h;rfl
 ·have hu:=b9 hr;refine(_,_,((aj (gP (cY hu (qv 1) (ZB ay))
 (aK (qF (jr (BJ T) hr.aW U T.lU.m T.lU.F.kp T.lU.b (pv 0) cz)))
 (fM aN))
 (aj (gP (QPW.pt (j8 (bQ hV eT (a8 _) (qv 1) (ZB ay)) (i6 (bQ hV eT (a8 _) (qv 1) (ZB ay)))))
 (aK (jg U U T.cW T.jj T.ji (ik T) hr.aW U T.iw T.jl (ae (gb (mU T.av T.bJ (aP (j:=0)))) ax)))
 (fM aN))
 (aj (cZ (i:=2) qq.nd (cH T.av T.lD (lA T) hr.aW T.mv (aP (j:=0))))
 (aj (dB (gq T.av T.a5 (bL T) hr.aW T.bc (aP (j:=0)) (ae (ZB ay) ax)))
 (aK (bf (fc (bt (ai (XL (qv 1)) (ai (XL (qv 2)) aF))))))))))),λts Q W as h ha=>?_)
  let(word,ak,x,n,l,t,U,hw,hq,hx):=h;obtain rfl:=as1 ha hw.adr;have ah:=hw;have kn:∀{l0:List Str},cR word l0=Y->(cR word l0).map tH=none:=λe=>by rw[e];rfl
  cases hw with
  |mk ws p h1 h2 h3 =>
   refine(U,aY (λh=>?_) (λh=>?_))
   ·have h:word="let":=V.str.inj (of_decide_eq_true h)
    refine((_,U),_,U,λ_=>(x,n,l,_,U,ah,λr l1 e t1 g=>?_,λe=>hx ?_))
    ·let(z,e1,e2):=kf.mp e;cases e2;exact((Gy e1).1,[_],(U,g.adr,trivial),hq _ _ (by unfold cR;rw[if_pos h,e1];rfl) _ g)
    ·unfold cR;rw[if_pos h];exact e
   ·have h:¬ word="let":=λz=>h (by rw[z];exact decide_eq_true U)
    dsimp only[P5];refine Xx (w:=word) ?_ ?_
    ·rfl
    by_cases hm:word="pay" \/ word="get"
    ·rw[Wb hm];refine(U,U,U,_,U,x,n,l,_,U,ah,λr l1 e t1 g=>?_,λe=>hx (kn (by unfold cR;rw[if_neg h,if_pos hm,if_neg (Cp e)])))
     let(hb,e1,e2):=Co e;subst e1 e2;have tD:=g;cases g with
     |mk ws p h1 h2 h3 =>
      refine(U,U,U,U,_,U,";",by decide,x,n,_,_,U,tD,λr l4 e6 t4 q=>?_,λe6=>hx (kn ?_))
      ·let(_,e7,e8):=cD e6;subst e7;exact(U,U,U,[_],(U,q.adr,trivial),hq _ _ (by unfold cR;rw[if_neg h,if_pos hm,if_pos hb,e6];rfl) _ q)
      ·unfold cR;rw[if_neg h,if_pos hm,if_pos hb,e6];rfl
    ·rw[Wa hm];exact(U,_,U,U,U,(by show 1<=1000;decide),hx (kn (by unfold cR;rw[if_neg h,if_neg hm])))
 ·let(word,_,x,n,l,t,U,hw,_):=h;exact([x],(_,U,hw.adr),trivial)
theorem xI(T:Txt K mg a):aS P w K mg base (CX1 P w) 7 a.jb a.rG ["words","cases","body"] (spG K [0,1] [0,1] (Oj a.aD a.aq a.aV)):=by
 refine T.je.F.okG oB (λts Q W h=>?_) (by decide) (λ_ h=>h) (λ_ _ _ _ _ _ hr=>?_) λts Q W h=>?_
 ·let(_,_,_,_,_,_,_,_,U,_):=h;rfl
 ·have hu:=b9 hr;refine(_,_,((aj (jf PassesOwn.leaving (bp (qvp 1))
 (aj (bf (Kf T.bE T.lE (lB T) hr.aW T.mx (Kh (n:=-1) (aP (j:=1)) (FZ zf b8) (λ_ _ _ h=>(1,U,h))) (ae (qv 2) ax)))
 (aj (gP (cY hu (ZB (eO T.av T.cj (cg T) hr.aW T.cG (gb (aP (j:=0))))) (ZB ay))
 (aj (dB (gq T.av T.a5 (bL T) hr.aW T.bc (aP (j:=0)) (ae (ZB ay) ax)))
 (aj (dB (Bk (by decide) T.bE T.hX (hW T) hr.aW T.iM (Kh (n:=-1) (aP (j:=1)) (FZ zf b8) (λ_ _ _ h=>(1,U,h))) (pv 0)))
 (aK (bf (fc vM)))))
 (fM aN))
 (aj (dB (gq T.av T.a5 (bL T) hr.aW T.bc (aP (j:=0)) (ae (ZB ay) ax)))
 (aK (cZ (i:=2) oB.nd (NY (k:=1) T.bE T.qU (qR T) hr.aW T.tQ (pv 1))))))))
 (aK (bf (fc (XL (qv 2))))))),λts Q W as h ha=>?_)
  let(x,n,l,t,y,cs,xs,b,U,hw,aL,hok,hb,hl,hq,bb,hx):=h;obtain rfl:=as2 ha hw.adr U;refine(λc q=>Ea6 λ(ak:List Oc)(g:List L2.T)(b':L2.T)(o2:Sl)(l':List Str)(t':L2.T)=>q=[.o t',.o (.lp y g),o2]/\(o2=.r b'\/o2=.o b')/\Rw a.aq x n l' t'/\OcL a.aD ak g/\(∀c∈ak,tT c)/\b'.im=O/\wts ak+l'.length<=900000/\bz cs b l=bz ak b' l'/\c=ak.length,(_,cs,xs,b,_,l,t,U,.inl U,hw,aL,hok,hb,hl,U,U),?_)
  rintro c q ⟨ak,g,b',o2,l',t',rfl,ho,hw,aL,hok,hb,hl,hf,rfl⟩
  rw[hf]at hq bb hx;cases aL with
  |nil =>
   obtain rfl|rfl:=ho
   ·exact(hb,[_,_],(U,hw.adr,U,U,trivial),hq _ _ U _ hw)
   ·exact(hb,[_,_],(U,hw.adr,U,U,trivial),hq _ _ U _ hw)
  |@cons c ak g x0 aL =>
   have ok:=hok c di;rw[kj]at hl;have bo:L2.T.ims [b']=true:=by show(b'.im&&O)=O;rw[hb];rfl
   refine aY (λ_=>?_) (λz=>absurd (by simp) z)
   refine(λq=>∃(aG:List Oc)(a0:List L2.T)(b2:L2.T)(o2:Sl)(l2:List Str)(t2:L2.T),q=[.o t2,.o (.lp y a0),o2]/\(o2=.r b2\/o2=.o b2)/\Rw a.aq x n l2 t2/\OcL a.aD aG a0/\(∀c∈aG,tT c)/\b2.im=O/\wts aG+l2.length<=900000/\bz cs b l=bz aG b2 l2/\aG.length<(c::ak).length,?_,?_)
   ·rintro q ⟨aG,a0,b2,o2,l2,t2,rfl,g1,g2,g3,g4,g5,g6,g7,g8⟩
    exact(_,g8,aG,a0,b2,o2,l2,t2,U,g1,g2,g3,g4,g5,g6,g7,U)
   refine(g.length,_,(lH _ _).1,(lH _ _).2,U,U,?_);have arg:∀{Q:List L2.T->Prop},Q [b']->KA (mm 2) R5 [.o t',.o (.lp y (g ++ [c.t a.aD x0])),o2] Q:=λz=>by
    obtain rfl|rfl:=ho
    ·exact z
    ·exact z
   refine arg (bo,x0,c.hts,c.lk,c.arms,c.ah,b',U,ok.i,hb,(by lia,ok.l),U,U,_,U,?_)
   rw[show(([]:Way) ++ [Sum.inr g.length])=[.inr g.length]from U,KL];have a3:=ok.fed hb;have a6:=hw;cases hw with
   |mk ws p h1 h2 h3 =>
    refine(U,U,x,n,l',_,U,a6,U,aY (λh=>?_) (λh=>?_))
    ·have h:hd l'="|":=V.str.inj (of_decide_eq_true h)
     refine(U,U,U,_,U,"|",by decide,x,n,l',_,U,a6,λr l2 e t2 a4=>?_,λe=>absurd h (jk e))
     let(_,e1,e2):=cD e;subst e1 e2;have z8:=a4;cases a4 with
     |mk ws p h1 h2 h3 =>
      refine(U,g.length,_,(lH _ _).1,(lH _ _).2,U,U,_,U,_,U,λ_=>(x0,c.hts,c.lk,(c.fed b').arms,c.ah,x,n,_,_,U,z8,λbj l3 e3 t3 a7=>?_,λe3=>hx (by rw[bz,if_pos h,e3])))
      exact(U,[t3,.lp y (g ++ [oT a.aD x0 c.hts c.lk (c.fed b').arms bj])],(U,a7.adr,congrArg (λz=>Z (Sl.o z)) KL,U,trivial),bb _ _ (by rw[bz,if_pos h,e3]) _ _ a7 (.cons (c:={c.fed b' with ah:=bj}) aL))
    ·have h:¬ hd l'="|":=λz=>h (by rw[z];exact decide_eq_true U)
     refine(U,U,U,_,U,"end",by decide,x,n,l',_,U,a6,λr l2 e t2 a4=>?_,λe=>hx (by rw[bz,if_neg h,if_neg (jk e)]))
     let(he,e1,e2):=cD e;subst e1 e2;refine(U,y,g,x0,_,_,U,U,x0,c.hts,c.lk,(c.fed b').arms,c.ah,U,a3.h,a3.a,by lia,a3.whole,?_)
     exact(ak,g,(c.fed b').whole,_,l'.tail,t2,U,.inr U,a4,aL,λc hc=>hok c (aJ _ hc),a3.whole,by rw[xi];lia,by rw[hf,bz,if_neg h,if_pos he],by simp)
 ·let(x,n,l,t,y,cs,xs,b,U,hw,_):=h;exact([x,y],(_,U,hw.adr),(_,U,U),trivial)
theorem zL(T:Txt K mg a):aS P w K mg base (CX1 P w) 8 a.jN a.uy ["words"] (spG K [0] [0] (Ol a.aq a.aV)):=by
 refine T.jT.F.okG dU (λts Q W h=>?_) (by decide) (λ_ h=>h) (λ_ _ _ _ _ _ hr=>?_) λts Q W h=>?_
 ·let(_,_,_,_,U,_):=h;rfl
 ·have hu:=b9 hr;refine(_,_,((aj (bf (aH 1 dU.nd (aZ aF)))
 (aj (bf (aH 2 dU.nd (aZ aF)))
 (aK (jf PassesOwn.leaving (bp (ZB iK))
 (aj (cZ (i:=3) dU.nd (vL (kC T.av T.dE (dD T) hr.aW T.eJ (aP (j:=0)))))
 (aK (gP (cY hu (qv 3) (ZB ay))
 (aj (HC (i:=2) (k:=1) (by decide) T.BR (sY T) hr.aW U T.BP T.uU (pv 1) (pv 2) (cQ (cH T.av T.aL (bu T) hr.aW T.aO (aP (j:=0))) cz))
 (aj (dB (Bk (by decide) T.bE T.hX (hW T) hr.aW T.iM (Vt (n:=-1) (aP (j:=1)) (FZ zf b8) (λ_ _ _ h=>(1,U,h))) (pv 0)))
 (aK (bf (aH 2 dU.nd (aZ aF))))))
 (aK (gP (cY hu (qv 3) (ZB ay))
 (aj (cZ (i:=4) dU.nd (Km (by decide) (xI T) hr.aW U T.je.m T.je.F.kp T.je.b (pv 0) (pv 1) (cQ (HE (m4 T) hr.aW U T.gp.m T.gp.F.kp T.gp.b (pv 2) (cQ (mV (cQ (hU (ZB ay)) (cQ (cH T.av T.aL (bu T) hr.aW T.aO (aP (j:=0))) cz))) cz)) cz)))
 (aj (bf (bx (bQ F9 A6 (a8 _) (qv 4) (ZB vM))
 (ar (fc (XL (qv 4))))
 aN))
 (aK (bf (aH 2 dU.nd (aZ aF))))))
 (aK (jD (i:=2) (pv 2) (jr (zK T) hr.aW U T.jS.m T.jS.F.kp T.jS.b (pv 0) (cQ (hU (qv 3)) cz)))))))))))))),λts Q W as h ha=>?_)
  let(x,n,l,t,U,hw,hl,hq,hx):=h;obtain rfl:=as1 ha hw.adr;refine(λc q=>Ea7 λ(cs:List Oc)(hts:List (List L2.T))(l':List Str)(t':L2.T)(xs:List L2.T)(o3 o4:Sl)=>q=[.o t',.o (.l xs),.o (.l (hts.map .t)),o3,o4]/\Rw a.aq x n l' t'/\OcL a.aD cs xs/\(∀c∈cs,tT c)/\Jd hts/\wts cs+hts.length+l'.length<=900000/\(∀o,Run (cs,hts,l') o->Run ([],[],l) o)/\c=l'.length,(_,[],[],l,t,_,_,_,U,hw,.nil,(λ_ z=>nomatch z),(λ_ z=>nomatch z),by simpa [wts]using hl,λ_ h=>h,U),?_)
  rintro c q ⟨cs,hts,l',t',xs,o3,o4,rfl,hw,a6,hok,a5,hl,hf,rfl⟩
  have bb:=hw;cases hw with
  |mk ws p h1 h2 h3 =>
   have len0:∀{w:Str},hd l'=w->w ≠ ""->0<l'.length:=λ{w} h1 h2=>by
    cases l' with
    |nil=>exact absurd h1.symm h2
    |cons _ _=>exact Nat.succ_pos _
   refine(λq=>∃(ak:List Oc)(Iv:List (List L2.T))(l2:List Str)(t2:L2.T)(a4:List L2.T)(o3 o4:Sl),q=[.o t2,.o (.l a4),.o (.l (Iv.map .t)),o3,o4]/\Rw a.aq x n l2 t2/\OcL a.aD ak a4/\(∀c∈ak,tT c)/\Jd Iv/\wts ak+Iv.length+l2.length<=900000/\(∀o,Run (ak,Iv,l2) o->Run ([],[],l) o)/\l2.length<l'.length,?_,?_)
   ·rintro q ⟨ak,Iv,l2,t2,a4,o3,o4,rfl,g1,g2,g3,g4,g5,g6,g7⟩
    exact(_,g7,ak,Iv,l2,t2,a4,o3,o4,U,g1,g2,g3,g4,g5,g6,U)
   refine(U,U,U,x,n,l',_,U,bb,λt1 a7=>(a7.adr,U,_,U,?_))
   have bad:fm (cs,hts,l')=.bad->W a.aV ["row"] [.i n]:=λh=>hx (hf _ (.bad h))
   have tD:=a7;cases a7 with
   |mk ws p h1 h2 h3 =>
    refine(U,aY (λh=>?_) (λh=>?_))
    ·have h:hd l'="case":=V.str.inj (of_decide_eq_true h)
     have l0:=len0 h (by decide)
     refine((_,U),(_,U),U,U,U,_,U,x,n,_,_,U,tD,λr l2 e t2 aG=>?_,λe=>bad (by unfold fm;rw[if_pos h,if_neg (cp e)]))
     let(hb,e1,e2):=cn e;subst e1 e2;refine(U,U,_,U,_,U,aR (by rw[a6.len];have:=Gj cs;lia),λx9=>(x9,hts,hd l'.tail,U,U,?_))
     have z8:=aG;cases aG with
     |mk ws p h1 h2 h3 =>
      refine(xs.length,_,(lH _ _).1,(lH _ _).2,U,U,_,U,_,U,λ_=>(x9,hts,hd l'.tail,[],[],x,n,_,_,U,z8,λah l3 e3 t3 a0=>(U,?_),λe3=>bad (by unfold fm;rw[if_pos h,if_pos hb,e3])))
      let(g1,g2,g3):=vq e3;simp only[xi]at g1;refine((hts,hd l'.tail,[],ah)::cs,[],l3,t3,xs ++ [oT a.aD x9 hts (hd l'.tail) [] ah],.o (.s (hd l')),o4,?_,a0,.cons a6,λc hc=>?_,(λ_ z=>nomatch z),?_,λo ho=>hf o (.on (by unfold fm;rw[if_pos h,if_pos hb,e3]) ho),by lia)
      ·show [Sl.o t3,Sl.o (L2.T.put _ [.inr xs.length] (.l (xs ++ [_]))),Sl.o (.l []),Sl.o (.s (hd l')),o4]=_;rw[Sg];rfl
      ·obtain z|z:=fH.mp hc
       ·rw[z];exact(a5,U,g2,g3)
       ·exact hok c z
      ·rw[kj];show 0+hts.length+1+wts cs+0+l3.length<=900000
       lia
    ·have hc:¬ hd l'="case":=λz=>h (by rw[z];exact decide_eq_true U)
     clear h;refine(U,aY (λh=>?_) (λh=>?_))
     ·have h:hd l'="give":=V.str.inj (of_decide_eq_true h);have l0:=len0 h (by decide)
      refine((_,U),(_,U),(_,U),U,U,U,U,U,_,U,x,n,_,_,U,tD,λr l2 e t2 aG=>?_,λe=>bad (by unfold fm;rw[if_neg hc,if_pos h,if_neg (cp e)]))
      let(hb,e1,e2):=cn e;subst e1 e2;have a3:(dg hts (.t [.s "give",.s (hd l'.tail)])).im=true:=AW a5 U;refine(U,U,xj (aR (by simp)),U,_,U,hts,_,U,a5,U,by lia,a3,a3,?_)
      let(zs,ez):=ye (hts:=hts) (ys:=[.s "give",.s (hd l'.tail)]);have z8:=aG;cases aG with
      |mk ws p h1 h2 h3 =>
       have wl:wts cs+l'.tail.tail.length<=900000:=by simp only[xi];lia
       refine(_,U,_,U,λa1 b1=>(x,n,_,_,b1,cs,xs,_,U,z8,a6,hok,a3,wl,λb' l3 e3 t3 a0=>?_,λak l3 e3 t3 bj a0 Yl=>?_,λe3=>bad (by unfold fm;rw[if_neg hc,if_pos h,if_pos hb,e3];rfl)))
       ·let(g1,g2):=wW e3 hok a3;have bc:=e3;rw[ez]at bc;let(ys,U):=wV bc;simp only[xi]at g2;have hr:=hf _ (.fin (by unfold fm;rw[if_neg hc,if_pos h,if_pos hb,e3];rfl))
        exact(g1,g1,[_],(U,a0.adr,trivial),hq _ _ hr g1 _ a0)
       ·let(g1,g2,g3):=yH e3 hok a3;simp only[xi]at g2 g3;exact(U,ak,[],l3,t3,bj,_,_,U,a0,Yl,g1,(λ_ z=>nomatch z),by show _+0+_<=_;lia,λo ho=>hf o (.on (by unfold fm;rw[if_neg hc,if_pos h,if_pos hb,e3];rfl) ho),by lia)
     ·have hg:¬ hd l'="give":=λz=>h (by rw[z];exact decide_eq_true U)
      clear h;refine((_,U),(_,U),U,U,_,U,λ_=>(hd l',bb.hd,x,n,l'.tail,_,U,tD,λr l2 e t2 aG=>?_,λe=>bad (by rw[WM]at e;unfold fm;rw[if_neg hc,if_neg hg,e])))
      let((g,l3),e1,e2):=kf.mp e;cases e2;let(g1,g2):=L1 e1;let(g3,g4):=tG e1;have l0:=len0 U g3;simp only[xi]at g4;refine(g1,_,U,aR (by rw[gV];lia),cs,hts ++ [g],l3,t2,xs,.o (.s (hd l')),o4,by rw[u9];rfl,aG,a6,hok,λk hk=>?_,by rw[oa];show _+(_+1)+_<=_;lia,λo ho=>hf o (.on (by unfold fm;rw[if_neg hc,if_neg hg,e1]) ho),by lia)
      obtain z|z:=lS.mp hk
      ·exact a5 k z
      ·rw[aB.mp z];exact(g1,g2)
 ·let(x,n,l,t,U,hw,_):=h;exact([x],(_,U,hw.adr),trivial)
theorem sV(T:Txt K mg a):aS P w K mg base (CX1 P w) 9 a.gw a.lY ["words"] (spG K [0] [0] (SG a.aq a.aV)):=by
 refine T.gC.F.okG cC (λts Q W h=>?_) (by decide) (λ_ h=>h) (λ_ _ _ _ _ _ hr=>?_) λts Q W h=>?_
 ·let(_,_,_,_,U,_):=h;rfl
 ·have hu:=b9 hr;refine(_,_,((aj (dB (gq T.av T.a5 (bL T) hr.aW T.bc (aP (j:=0)) (ae (ZB ay) ax)))
 (aj (cZ (i:=1) cC.nd (cH T.av T.aL (bu T) hr.aW T.aO (aP (j:=0))))
 (aj (bf (aH 2 cC.nd (aZ aF)))
 (aj (jf PassesOwn.leaving (bQ hV eT (a8 _) (ZB (eO T.av T.cj (cg T) hr.aW T.cG (gb (aP (j:=0))))) (ZB ay))
 (aj (cZ (i:=3) cC.nd (cH T.av T.aL (bu T) hr.aW T.aO (aP (j:=0))))
 (aK (jD (i:=2) (pv 2) (mV (cQ (hU (qv 3)) (cQ (cH T.av T.aL (bu T) hr.aW T.aO (aP (j:=0))) cz)))))))
 (aj (dB (gq T.av T.a5 (bL T) hr.aW T.bc (aP (j:=0)) (ae (ZB ay) ax)))
 (aj (cZ (i:=4) cC.nd (cH T.av T.aL (bu T) hr.aW T.aO (aP (j:=0))))
 (aj (dB (gq T.av T.a5 (bL T) hr.aW T.bc (aP (j:=0)) (ae (ZB ay) ax)))
 (aj (cZ (i:=5) cC.nd (jr (zL T) hr.aW U T.jT.m T.jT.F.kp T.jT.b (pv 0) cz))
 (aj (dB (cH T.av T.pK (pH T) hr.aW T.rP (aP (j:=0))))
 (aK (bf (fc (bt (ai (XL (qv 1)) (ai (aU (cE U) cB (by rfl) T.fS (by kernel_rfl) (ae (qv 2) ax)) (ai (XL (qv 4)) (ai (XL (qv 5)) aF)))))))))))))))))),λts Q W as h ha=>?_)
  let(x,n,l,t,U,hw,hl,hq,hx):=h;obtain rfl:=as1 ha hw.adr;have bad:fHd l=Y->W a.aV ["row"] [.i n]:=λh=>hx (.xa h)
  have ak:=hw;cases hw with
  |mk ws p h1 h2 h3 =>
   refine(U,U,U,_,U,"def",by decide,x,n,l,_,U,ak,λr l1 e t1 bb=>?_,λe=>bad (by unfold fHd;rw[if_neg (jk e)]))
   let(hk,e1,e2):=cD e;subst e1 e2;have tD:=bb;cases bb with
   |mk ws p h1 h2 h3 =>
    refine(U,U,U,U,_,U,x,n,_,_,U,tD,λr l1 e2 t2 bo=>?_,λe2=>bad (by unfold fHd;rw[if_pos hk,if_neg (cp e2)]))
    let(hb,e3,e4):=cn e2;subst e3 e4;refine(U,?_);refine(λc q=>Ea5 λ(L:List (Str×Str))(l':List Str)(t':L2.T)(NN:List L2.T)(o3:Sl)=>q=[.o t',.o (.s (hd l.tail)),.o (.l NN),o3,.no,.no]/\NN=(L.map λp=>.t [.s p.1,.s p.2])/\Rw a.aq x n l' t'/\c=l'.length/\(fParams l.tail.tail=(fParams l').map λz=>(L++z.1,z.2))/\L.length+l'.length<=l.length,(_,[],l.tail.tail,t2,_,_,U,U,bo,U,by cases fParams l.tail.tail <;> rfl,by simp only[xi,Zv];lia),?_)
    rintro c q ⟨L,l',t',NN,o3,rfl,rfl,hw,rfl,hf,hn⟩
    have ak:=hw;cases hw with
    |mk ws p h1 h2 h3 =>
     refine(U,U,x,n,l',_,U,ak,U,aY (λh=>?_) (λh=>?_))
     ·have h:=en h;have W6:fParams l'=Y->W a.aV ["row"] [.i n]:=λe=>bad (by unfold fHd;rw[if_pos hk,if_pos hb,hf,e];rfl)
      refine(λq'=>∃(L:List (Str×Str))(l2:List Str)(t':L2.T)(NN:List L2.T)(o3:Sl),q'=[.o t',.o (.s (hd l.tail)),.o (.l NN),o3,.no,.no]/\NN=(L.map λp=>.t [.s p.1,.s p.2])/\Rw a.aq x n l2 t'/\l2.length<l'.length/\(fParams l.tail.tail=(fParams l2).map λz=>(L++z.1,z.2))/\L.length+l2.length<=l.length,?_,?_)
      ·rintro q' ⟨L,l2,t',NN,o3,rfl,rfl,g1,g2,g3,g4⟩
       exact(_,g2,L,l2,t',_,o3,U,U,g1,U,g3,g4)
      ·refine(U,U,U,_,U,x,n,l',_,U,ak,λr l2 e t3 ah=>?_,λe=>W6 ?_)
       ·let(g,e5,V):=cn e;let(w1,l7,U):=qT g;have V:l7=l2:=V.symm;subst e5 V;have a0:w1 ≠ "to":=h;have WV:ao w1=true:=g;have Iu:=ah;cases ah with
        |mk ws p h1 h2 h3 =>
         refine(U,(_,U),U,U,U,U,U,_,U,x,n,l7,_,U,Iu,λr l8 e t4 aD=>?_,λe=>W6 ?_)
         ·let(aG,e5,V):=cn e;let(w2,l9,U):=qT aG;have V:l9=l8:=V.symm;subst e5 V;have Ue:ao w2=true:=aG;have hn:L.length+(l9.length+2)<=l.length:=hn;refine(U,U,xj (aR (by simp)),_,U,aR (by rw[gV];lia),L ++ [(w1,w2)],l9,t4,_,_,U,by rw[u9];rfl,aD,by show l9.length<l9.length+1+1;lia,?_,by rw[oa];show L.length+1+l9.length<=_;lia)
          rw[hf,fParams,if_neg a0,if_pos WV,if_pos Ue];cases fParams l9 <;> simp
         ·have aG:=cp e;cases l7 with
          |nil=>rw[fParams,if_neg a0]
          |cons w2 l9 =>
           have Ue:¬ ao w2=true:=aG;rw[fParams,if_neg a0,if_pos WV,if_neg Ue]
       ·have g:=cp e
        match l',h,g with
        |[],_,_=>rfl
        |[w1],h,g =>
         have h:w1 ≠ "to":=h;rw[fParams,if_neg h]
        |w1::w2::l9,h,g =>
         have h:w1 ≠ "to":=h;have g:¬ ao w1=true:=g;rw[fParams,if_neg h,if_neg g]
     ·have h:=nh h;have e0:fParams l'=Z ([],l'.tail):=by
       match l',h with
       |[],h=>exact absurd h.symm (by decide)
       |[w1],h =>
        have h:w1="to":=h;rw[fParams,if_pos h];rfl
       |w1::w2::l9,h =>
        have h:w1="to":=h;rw[fParams,if_pos h];rfl
      have ef:fParams l.tail.tail=Z (L,l'.tail):=by rw[hf,e0];simp
      refine(U,U,U,_,U,"to",by decide,x,n,l',_,U,ak,λr l2 e t3 ah=>?_,λe=>absurd h (jk e))
      let(_,e5,V):=cD e;subst e5 V;have Iu:=ah;cases ah with
      |mk ws p h1 h2 h3 =>
       refine(U,U,U,U,_,U,x,n,_,_,U,Iu,λr l2 e t4 aD=>?_,λe=>bad (by unfold fHd;rw[if_pos hk,if_pos hb,ef];dsimp only;rw[if_neg (cp e)]))
       let(bj,e5,V):=cn e;subst e5 V;have Ub:=aD;cases aD with
       |mk ws p h1 h2 h3 =>
        refine(U,U,U,U,_,U,":",by decide,x,n,_,_,U,Ub,λr l2 e t5 a7=>?_,λe=>bad (by unfold fHd;rw[if_pos hk,if_pos hb,ef];dsimp only;rw[if_pos bj,if_neg (jk e)]))
        let(br,e5,V):=cD e;subst e5 V;have eh:fHd l=Z ((hd l.tail,L,hd l'.tail),l'.tail.tail.tail):=by unfold fHd;rw[if_pos hk,if_pos hb,ef];dsimp only;rw[if_pos bj,if_pos br]
        have X9:=a7;cases a7 with
        |mk ws p h1 h2 h3 =>
         refine(U,(_,U),_,U,λ_=>(x,n,_,_,U,X9,by simp only[xi];lia,λb l6 hr a3 t6 a6=>?_,λhr=>hx (.xY eh hr)))
         have X8:=a6;cases a6 with
         |mk ws p h1 h2 h3 =>
          refine(a3,U,U,U,_,U,x,n,_,_,U,X8,λr l7 e t7 a4=>?_,λe=>hx (.ET eh hr ?_))
          ·unfold Pm at e
           split at e
           ·rename_i em;have el:l6=[]:=ZQ.mp em;subst el;cases e;refine(U,U,wz L,U,a3,[_],(U,a4.adr,trivial),hq _ (.ok eh hr) ?_ _ a4);show(O&&(L2.T.ims (L.map λp=>L2.T.t [.s p.1,.s p.2])&&(O&&(b.im&&O))))=O
            rw[wz,a3];rfl
           ·cases e
          ·unfold Pm at e
           split at e
           ·cases e
           ·rename_i em;exact E3.mpr em
 ·let(x,n,l,t,U,hw,_):=h;exact([x],(_,U,hw.adr),trivial)
theorem Gd(T:Txt K mg a):aS P w K mg base (CX1 P w) 12 a.wG a.EL ["text"] (A2 K (N9 a.aV)):=by
 refine T.AN.F.V6 kR (λts Q W h=>?_) (λ_ _ _ _ _ _ hr=>?_)
 ·let(_,U,_):=h;rfl
 ·have hu:=b9 hr;refine(_,_,((aj (bf (aH 1 kR.nd (aZ aF)))
 (aj (bf (aH 2 kR.nd (aZ aF)))
 (aj (bf (aH 3 kR.nd (P0 (bQ hV eT (a8 _) (qv 0) (ZB ay)) (gG (qv 0) (ZB ay)) (aZ aF))))
 (aj (zp (g:=(Tg.tp [4,5])) PassesOwn.leaving U (Ki (i:=3) U T.nt (by kernel_rfl) (pv 3)) (K5 (kb 4 kR.nd) (kb 5 kR.nd))
 (aj (bf (aH 6 kR.nd (Kq T.BQ (sX T) hr.aW U T.BO T.uT (ae (qv 5) (ae (qv 4) ax)))))
 (aK (gP (QPW.pt (j8 (cY hu (ZB (eO T.av T.cj (cg T) hr.aW T.cG (gb (aP (j:=6))))) (ZB ay)) (i6 (fw (bp (qv 2))))))
 (aK (jD (i:=1) (pv 1) (jr (zJ T) hr.aW U T.jR.m T.jR.F.kp T.jR.b (pv 6) cz)))
 (aK (jD (i:=2) (pv 2) (jr (sV T) hr.aW U T.gC.m T.gC.F.kp T.gC.b (pv 6) cz)))))))
 (aK (bf (aM (bt (ai (aU (cE U) cB (by rfl) T.fS (by kernel_rfl) (ae (qv 1) ax)) (ai (aU (cE U) cB (by rfl) T.fS (by kernel_rfl) (ae (qv 2) ax)) aF))))))))))),λts Q W h=>?_)
  let(text,U,hl,hq,hx):=h;refine(U,aY (λh=>?_) (λh=>?_))
  ·have h:text ≠ "":=en h;have er:rowsOf text=Txt.split text "\n":=if_neg h;rw[er]at hq hx;have sl:=hZ text "\n";have rl:∀row∈Txt.split text "\n",row.length<=text.length:=λrow hr=>split_le (c:=10) hr
   refine(by decide,aR (by lia),?_)
   generalize Txt.split text "\n"=rows at *
   refine(λi q=>Ea6 λ(ks:List Kd)(fs KS:List L2.T)(o4 o5 o6:Sl)=>q=[.r (.s text),.o (.l KS),.o (.l fs),.r (.l (rows.map .s)),o4,o5,o6]/\KS=ks.map tK/\L2.T.ims fs=O/\(∀o,dQ i ks fs (rows.drop i) o->dQ 0 [] [] rows o)/\ks.length<=i/\fs.length<=i,([],[],_,_,_,_,U,U,U,λ_ h=>h,Fs _,Fs _),λi z q hz hi=>?_,λq hi=>?_)
   ·let(ks,fs,KS,o4,o5,o6,U,U,V,hf,k1,k2):=hi;let(u,ak,U):=rj hz;rw[ti]at ak;let(row,z9,U):=kf.mp ak;have il:=(iZ.mp z9).1;have ed:rows.drop i=row::rows.drop (i+1):=(UO il).trans (by rw[(iZ.mp z9).2])
    have aG:=rl row (yb z9);rw[ed]at hf;refine(_,U,?_);refine λx9=>(x9,row,i,U,by lia,λt hw=>(U,hw.adr,?_))
    have ah:=hw;have wl:=hw.len;have sw:=split_len row 32;have sw:(Txt.split row " ").length<=row.length+2:=sw;cases hw with
    |mk ws p g1 g2 g3 =>
     refine(U,U,x9,i,_,_,U,ah,U,?_);refine Xv (fs:=fs) ?_ (λhc=>?_) (λhc=>?_)
     ·rfl
     ·let(hk,U):=hc;refine((_,U),(_,U),_,U,λ_=>(x9,i,_,_,U,ah,λr l1 e t1 aD=>?_,λe=>hx i (hf _ (.um hk (by rwa [WM]at e)))))
      let((k,l2),e1,e2):=kf.mp e;cases e2;exact(B9 k,_,U,aR (by rw[gV];lia),ks ++ [k],[],_,_,_,_,U,by rw[u9];rfl,U,λo ho=>hf o (.kind hk e1 ho),by simp;lia,Fs _)
     ·refine((_,U),(_,U),_,U,λ_=>(x9,i,_,_,U,ah,by lia,λr hr aq t1 aD=>?_,λhr=>hx i (hf _ (.fnX hc hr))))
      refine(aq,_,U,aR (by lia),ks,fs ++ [r],_,_,_,_,U,U,?_,λo ho=>hf o (.fn hc hr ho),by lia,by simp;lia)
      rw[jv,V];show(O&&(r.im&&O))=O;rw[aq];rfl
   ·let(ks,fs,KS,o4,o5,o6,U,U,V,hf,k1,k2):=hi;refine(ff B9 ks,V,hq _ (hf _ ?_) ?_)
    ·rw[kL,gV,List.drop_length];exact .nil
    ·show(L2.T.ims (ks.map tK)&&(L2.T.ims fs&&O))=O;rw[ff B9,V];rfl
  ·have h:text="":=nh h;subst h;refine(λi q=>i=0/\∃o4 o5 o6,q=[.r (.s ""),.o (.l []),.o (.l []),.r (.l []),o4,o5,o6],(U,_,_,_,U),λi z q hz hi=>?_,λq hi=>?_)
   ·rw[hi.1]at hz;cases hz
   ·let(_,o4,o5,o6,U):=hi;exact(U,U,hq _ .nil U)
theorem wo:∀cs:List Nat,(Txt.join (Str.ofString "") (cs.map (λc=>(⟨#[c]⟩:Str)))).cps.toList=cs
 |[]=>by decide +kernel
 |[c]=>by show(Txt.join _ [_]).cps.toList=_;rw[Ey]
 |c::d::r=>by
  show(Txt.join _ (_::_::_)).cps.toList=_;rw[jI,Str.cps_append,Zy]
  have:=wo (d::r)
  rw[E6]at this;rw[this];rfl
theorem A4(cs:List Nat):((cs.map (λc=>(⟨#[c]⟩:Str))).map (·.length)).sum=cs.length:=by
 induction cs with
 |nil=>rfl
 |cons c cs g=>simp only[E6,Y5,mD,g,show(⟨#[c]⟩:Str).length=1 from rfl];lia
theorem OL(T:Txt K mg a):aS P w K mg base CX0 2 a.Af a.Mn [WF] (spQ K Sx):=by
 have a6:=kg (@iC P w K mg base a T);refine T.MW.F.okQ nM (λts Q h=>?_) (λ_ _ _ _ _ _ hr=>?_)
 ·let(U,_):=h;rfl
 ·have hu:=b9 hr;refine(_,_,((ag (aH 1 nM.nd (aZ (dq (by rfl))))
 (ag (aH 2 nM.nd (aQ a6 hr T.bo (ae (qv 0) (ae af ax))))
 (ag (bx (cY hu (qv 2) af)
 (ag (aH 3 nM.nd (aZ (dq (by rfl))))
 (ar (aM (XL (bw (ZB (az (qv 3) (ZB (aZ (dq (by rfl)))))) (ZB (aQ a6 hr T.bo (ae (qv 0) (ae af ax)))))))))
 aN)
 (ag (aH 4 nM.nd (az af (ZB (aQ a6 hr T.bo (ae (qv 0) (ae (ZB (gc (aZ (ai bT (ai bT (ai bT (ai bT (ai bT aF)))))) (ZB (pj (qv 2) af)))) ax))))))
 (ag (aH 5 nM.nd (fN (ZB ay) (ZB (lh U (nP U T.iJ (ae (qv 4) ax)) (N':=[Tu,WF]) (.own U (.got (i:=0) U U (.inl U) .nil)) (ka (g:=(Tg.nm 0)) (λ_ _ _ _ _=>((uO 0),(XL (bw (ZB ay) (ZB (aQ a6 hr T.bo (ae (qv 1) (ae af ax)))))))))))))
 (ar (aM (az (qv 5) (ZB (Ko (ZB ay) (ZB (aU dI gL (by rfl) T.kM (by kernel_rfl) (ae (ZB (cI (pF U) jW U (qv 5) (qv 1))) ax)))))))))))))),λts Q h=>?_)
  let(U,hq):=h;refine(by decide,by decide,λf f0 f1=>(U,aY (λh=>?_) (λh=>?_)))
  ·refine(ko (by decide),by rfl,by rfl,by decide,by decide,λr r0 r1=>?_)
   let(V,ew,hm):=rQ (ws:=near ++ [("pa":Str),"ki","en","t","o","d"]) r0 r1;exact(_,ew,U,hq V (OS V hm))
  ·obtain⟨m,em,m1,m8⟩:∃m:Int,atI [L2.T.i 8,.i 8,.i 2,.i 3,.i 8] (f - 1)=Z (.i m)/\1<=m/\m<=8:=by
    have hf:f≠0:=λz=>h (by rw[z];rfl)
    obtain rfl|rfl|rfl|rfl|rfl:=(by lia:f=1\/f=2\/f=3\/f=4\/f=5)
    ·exact(8,U,by decide,by decide)
    ·exact(8,U,by decide,by decide)
    ·exact(2,U,by decide,by decide)
    ·exact(3,U,by decide,by decide)
    ·exact(8,U,by decide,by decide)
   refine(_,em,by lia,by lia,λn n0 n1=>(by lia,by lia,bq (by rw[fL];lia),λi ys=>∃cs:List Nat,ys=cs.map (λc=>.s ⟨#[c]⟩)/\cs.length=i/\∀c∈cs,sgn fO c=O,([],U,U,λ_ z=>nomatch z),?_,?_))
   ·rintro i x ys hx ⟨cs,rfl,hc,hs⟩
    let(U,hi):=mS hx;refine(_,U,by decide,by decide,λr r0 r1=>(by decide +kernel,_,Gi r0 r1,U,?_))
    refine(cs ++ [Eo r.toNat],by simp,by simp[hc],λc hc=>?_)
    obtain z|z:=lS.mp hc
    ·exact hs c z
    ·rw[aB.mp z];exact OX _
   ·rintro ys ⟨cs,rfl,hc,hs⟩
    rw[fL]at hc;have ej:=wo cs;refine(cs.map (λc=>(⟨#[c]⟩:Str)),?_,?_,?_)
    ·rw[<- fK,Y3];rfl
    ·rw[A4,show(Str.ofString "").length=0 from by decide +kernel];lia
    generalize Txt.join (Str.ofString "") (cs.map (λc=>(⟨#[c]⟩:Str)))=V at ej ⊢
    have lw:V.length=cs.length:=by rw[nU,ej]
    have ah:ofB V fO 8=true:=by
     unfold ofB;rw[ej,AE.mpr hs,decide_eq_true (by lia),decide_eq_true (by lia)];rfl
    refine(by rfl,?_)
    have fin:∀b:Bool,inT (.s V) (kept.map .s)=b->0 <=(if b then(1:Int)else 0)/\(if b then(1:Int)else 0)<=1000/\(Str.ofString "q").length<=1000/\V.length+(pf "q" (if b then(1:Int)else 0).toNat).length<=px/\Q (.s (V++pf "q" (if b then(1:Int)else 0).toNat)):=by
     intro b hb;cases b with
     |false =>
      refine(by decide,by decide,by decide +kernel,xj (aR (by show V.length+(pf "q" 0).length<=1002000;rw[qW];lia)),?_)
      show Q (.s (V++pf "q" 0));rw[show pf "q" 0=Str.empty from by decide +kernel,Str.append_empty]
      exact hq V (by unfold ao;rw[ah,hb];rfl)
     |true =>
      have l4:V.length<=4:=by
       rw[wy]at hb;exact LB V (vm.mp hb)
      refine(by decide,by decide,by decide +kernel,xj (aR (by show V.length+(pf "q" 1).length<=1002000;rw[qW,show("q":Str).length=1 from by decide +kernel];lia)),?_)
      show Q (.s (V++pf "q" 1));rw[show pf "q" 1="q" from by decide +kernel]
      refine hq _ ?_;have e:(V++("q":Str)).cps.toList=cs ++ [113]:=by rw[Str.cps_append,Zy,ej,show(Str.ofString "q").cps.toList=[113]from by decide +kernel]
      have le:(V++("q":Str)).length=cs.length+1:=by rw[nU,e];simp
      unfold ao ofB;rw[VA hb,e,List.all_append,AE.mpr hs,le,decide_eq_true (by lia),decide_eq_true (by lia),show [113].all (sgn fO)=O from by decide +kernel]
      rfl
    exact fin _ U
theorem dX(T:Txt K mg a):aS P w K mg base CX0 1 a.jO a.uz [Tl] (spQ K SD):=by
 refine T.cf.F.okQ qw (λts Q h=>?_) (λ_ _ _ _ _ _ hr=>?_)
 ·let(_,U,_):=h;rfl
 ·have hu:=b9 hr;refine(_,_,((ag (aH 1 qw.nd (aZ (dq (by rfl))))
 (ag (bx (QPW.pt (kB (oE (ZB (eV T.gU (ae (qv 0) ax))) af) (kB (Bh (ZB (eV T.gU (ae (qv 0) ax))) af) (k9 (bQ (pF U) jW U (qv 0) (qv 1))))))
 (ar (aM iK))
 aN)
 (ar (aM (gj (tP U U) zi (by rfl) T.MD (by kernel_rfl) (ae (ZB (lh U (DR (qv 0)) (N':=["_law_sign"]) (.own U .nil) (ka (g:=(Tg.nm 0)) (λ_ _ _ _ _=>((uO 0),(cI (pF U) jW U (qv 0) (ZB ay))))))) ax))))))),λts Q h=>?_)
  let(x,U,hx,q):=h;have V:x.length<=px:=xj (aR (by lia))
  unfold ao ofB at q;refine(V,aY (λh1=>?_) (λh1=>?_))
  ·rw[decide_eq_false (show ¬ 1 <=(x.length:Int)by lia)]at q
   exact q
  rw[decide_eq_true (show 1 <=(x.length:Int)by lia),YT]at q
  refine(V,aY (λh2=>?_) (λh2=>?_))
  ·rw[decide_eq_false (show ¬(x.length:Int)<=8 by lia)]at q
   exact q
  rw[decide_eq_true (show(x.length:Int)<=8 by lia),YT]at q
  refine(by rfl,aY (λh3=>?_) (λh3=>?_))
  ·have h3:inT (.s x) (kept.map .s)=true:=h3;rw[h3,Bool.not_true,Zl]at q;exact q
  have h3:inT (.s x) (kept.map .s)=false:=E3.mpr h3;rw[h3,Bool.not_false,Bool.and_true]at q;refine(by rw[n6];exact aR (by lia),λi ys=>ys=(x.cps.toList.take i).map λc=>.b (sgn fO c),U,λi z ys hz e=>?_,λys e=>?_)
  ·let(c,hc,U):=ER hz;subst e;refine(_,U,?_);show _ ++ [L2.T.b (sgn fO c)]=_;rw[E8,hc];simp
  ·subst e;rw[n6,show x.length=x.cps.toList.length from U,MJ];exact(_,lQ _ _,by rw[ZC];exact q)
theorem vX(T:Txt K mg a):aS P w K mg base CX0 2 a.Gx a.QQ [WF,W1] (spQ K VW):=by
 refine T.kP.F.okQ RI (λts Q h=>?_) (λ_ _ _ _ _ _ hr=>?_)
 ·let(_,U,_):=h;rfl
 ·refine(_,_,((ar (aM (XL (bw (qv 1) (ZB (aQ (kg (iC T)) hr T.bo (ae (qv 0) (ae (ZB (eV T.gU (ae (qv 1) ax))) ax))))))))),λts Q h=>?_)
  let(ws,U,w1,w2,hw,V):=h;refine(by rw[gV];lia,by rw[gV];lia,λr z q=>?_)
  rw[gV]at q;let(g,ew,hm):=rQ z q;exact(_,ew,U,V g (hw g hm))
theorem Gb(T:Txt K mg a):aS P w K mg base CX0 3 a.Ac a.Mj [WF,W1,SC] (spQ K Ss):=by
 refine T.AJ.F.okQ NC (λts Q h=>?_) (λ_ _ _ _ _ _ hr=>?_)
 ·let(_,_,U,_):=h;rfl
 ·have hu:=b9 hr;refine(_,_,((ar (aM (aU (cE U) cB (by rfl) T.fS (by kernel_rfl) (ae (ZB (lh U (nP U T.iJ (ae (ZB (aQ (kg (iC T)) hr T.bo (ae (qv 0) (ae (ZB (az (qv 2) af)) ax)))) ax)) (N':=[Tu,WF,W1]) (.own U (.got (i:=0) U U (.inl U) (.got (i:=1) U U (.inl U) .nil))) (ka (g:=(Tg.nm 0)) (λ_ _ _ _ _=>((uO 0),(aQ (vX T) hr T.kP (ae (qv 1) (ae (qv 2) ax)))))))) ax))))),λts Q h=>?_)
  let(ws,m,U,w1,w2,hw,m0,m1,hq):=h;refine(by lia,by lia,λn n0 n1=>(by lia,by lia,bq (by rw[fL];lia),λi ys=>∃ns:List Str,ys=ns.map .s/\ns.length=i/\∀w∈ns,ao w=O,([],U,U,λ_ z=>nomatch z),?_,?_))
  ·rintro i x ys hx ⟨ns,rfl,hc,hn⟩
   refine(_,U,ws,U,w1,w2,hw,λwd q=>(ns ++ [wd],by simp,by simp[hc],λw V=>?_))
   obtain z|z:=lS.mp V
   ·exact hn w z
   ·rw[aB.mp z];exact q
  ·rintro ys ⟨ns,rfl,hc,hn⟩
   rw[fL]at hc;exact(a9 ns,hq ns hn (by lia))
theorem pick{x y:Int}(b:Bool):∃m:Int,atI [L2.T.i x,.i y] (if b then 1 else 0)=Z (.i m)/\(m=x\/m=y):=by
 cases b
 ·exact(x,U,.inl U)
 ·exact(y,U,.inr U)
theorem OM(T:Txt K mg a):aS P w K mg base CX0 4 a.Ag a.Mp [WF,W1] (spQ K Og):=by
 refine T.MX.F.okQ zk (λts Q h=>?_) (λ_ _ _ _ _ _ hr=>?_)
 ·let(_,U,_):=h;rfl
 ·have hu:=b9 hr;refine(_,_,((ag (aH 2 zk.nd (aZ aF))
 (ag (j9 (g:=(Tg.nm 3)) PassesOwn.never U (jh U T.iJ (ae (ZB (az af (ZB (aQ (kg (iC T)) hr T.bo (ae (qv 0) (ae (ZB (gc (aZ (ai bT (ai bT aF))) (ZB (aU dI gL (by rfl) T.kM (by kernel_rfl) (ae (ZB (cI (fD hu U) cX (a8 _) (ZB (aQ (kg (iC T)) hr T.bo (ae (qv 0) (ae af ax)))) af)) ax))))) ax)))))) ax)) (kb 3 zk.nd)
 (ar (ig (i:=2) (pv 2) (bt (ai (aQ (vX T) hr T.kP (ae (qv 0) (ae (qv 1) ax))) (ai (aQ (Gb T) hr T.AJ (ae (qv 0) (ae (qv 1) (ae (ZB (gc (aZ (ai bT (ai bT aF))) (ZB (aQ (kg (iC T)) hr T.bo (ae (qv 0) (ae af ax)))))) ax)))) aF))))))
 (ar (aM (bt (ai (aQ (vX T) hr T.kP (ae (qv 0) (ae (qv 1) ax))) (ai (aU (cE U) cB (by rfl) T.fS (by kernel_rfl) (ae (qv 2) ax)) aF)))))))),λts Q h=>?_)
  let(ws,U,w1,w2,hw,hq):=h;refine(by decide,by decide,λf f0 f1=>?_)
  let(m,em,m1):=pick (x:=3) (y:=5) (decide ((L2.T.i f).v=(L2.T.i 1).v));refine(U,_,em,by lia,by lia,λn n0 n1=>(by lia,by lia,λi q=>(∃o3 ms,q=[.r .jy,.r (.zl (ws.map .s)),.o (.l (ms.map tM)),o3]/\ms.length=i/\∀m∈ms,ao m.1=O/\m.2.length<=4/\∀f∈m.2,ao f=O),(_,[],U,U,λ_ z=>nomatch z),?_,?_))
  ·rintro i x q hx ⟨o3,ms,rfl,hc,hm⟩
   let(U,hi):=mS hx;refine(_,U,bq (by rw[gV];lia),ws,U,w1,w2,hw,λwd ah=>(by decide,by decide,λr r0 r1=>?_))
   obtain⟨m,em,m1,m2⟩:∃m:Int,atI [L2.T.i 2,.i 3] r=Z (.i m)/\2<=m/\m<=4:=by
    obtain rfl|rfl:=(by lia:r=0\/r=1)
    ·exact(2,U,by decide,by decide)
    ·exact(3,U,by decide,by decide)
   refine(_,em,ws,m,U,w1,w2,hw,by lia,by lia,λns hn ln=>?_)
   refine(_,ms ++ [(wd,ns)],by rw[u9];rfl,by simp[hc],λm ak=>?_)
   obtain z|z:=lS.mp ak
   ·exact hm m z
   ·rw[aB.mp z];exact(ah,by show ns.length<=4;lia,hn)
  ·rintro q ⟨o3,ms,rfl,hc,hm⟩
   rw[fL]at hc;refine(ws,U,w1,w2,hw,λwd ah=>?_)
   exact(ff (λm=>by show(O&&(L2.T.ims (m.2.map L2.T.s)&&O))=O;rw[a9];rfl) ms,hq (wd,ms) (ah,by show ms.length<=700;lia,(λz=>by rw[show ms=[]from z]at hc;simp at hc;lia),λm V=>((hm m V).1,u6 (hm m V).2.1 (by decide),(hm m V).2.2)) (Tz (by show ms.length<=5;lia) λm V=>(hm m V).2.1))
theorem Ge(T:Txt K mg a):aS P w K mg base CX0 3 a.Ae a.Mm [WF] (spQ K Sw):=by
 refine T.Fb.F.okQ kS (λts Q h=>?_) (λ_ _ _ _ _ _ hr=>?_)
 ·let(U,_):=h;rfl
 ·have hu:=b9 hr;refine(_,_,((ag (zq (i:=1) kS.nd U (Or.inl U) U (nP U T.iJ (ae af ax)) (N':=[Tu,WF]) (.own U (.got (i:=0) U U (.inl U) .nil)) (ka (g:=(Tg.nm 0)) (λ_ _ _ _ _=>((uO 0),(aQ (OL T) hr T.MW (ae (qv 1) ax))))))
 (ag (aH 2 kS.nd (XL (bw (qv 1) af)))
 (ag (aH 3 kS.nd (aQ (kg (iC T)) hr T.bo (ae (qv 0) (ae (ZB (eV T.gU (ae (qv 2) ax))) ax))))
 (ag (j9 (g:=(Tg.nm 4)) PassesOwn.never U (jh U T.iJ (ae af ax)) (kb 4 kS.nd)
 (ag (aH 5 kS.nd (XL (bw (ZB ay) (ZB (aQ (kg (iC T)) hr T.bo (ae (qv 0) (ae af ax)))))))
 (ag (aH 6 kS.nd (az (ZB (az (ZB (bR (qv 2) cM (cy (qv 3)))) (qv 5))) (ZB (bR (qv 2) (cy (ZB (az (qv 3) af))) cM))))
 (ar (bx (bp (ZB (aQ (dX T) hr T.cf (ae (qv 6) ax))))
 (ar (ig (i:=1) (pv 1) (XL (qv 6))))
 aN)))))
 (ar (FO (i:=1) (pv 1)))))))),λts Q h=>?_)
  let(U,hq):=h;refine(by decide,by decide,bq (by rw[fL];decide),λi ys=>∃ns:List Str,ys=ns.map .s/\ns.length=i/\∀w∈ns,ao w=O,([],U,U,λ_ z=>nomatch z),?_,?_)
  ·rintro i x ys hx ⟨ns,rfl,hc,hn⟩
   let(U,hi):=mS hx;refine(_,U,U,λwd ah=>(ns ++ [wd],by simp,by simp[hc],λw V=>?_))
   obtain z|z:=lS.mp V
   ·exact hn w z
   ·rw[aB.mp z];exact ah
  ·rintro ys ⟨ns,rfl,hc,hn⟩
   rw[fL]at hc;have hc:ns.length=4:=hc;let(w0,ew,hm):=rQ (ws:=ns) (i:=0) (by lia) (by lia)
   have h0:=bA (hn w0 hm);refine(_,ew,U,ko (by lia),by lia,by lia,λat_ a0 a1=>?_)
   have aq:(Txt.slice w0 Y (Z at_)).length<=8:=u6 (Txt.slice_le _ _ _) h0.2;have ak:(Txt.slice w0 (Z (at_+1)) Y).length<=8:=u6 (Txt.slice_le _ _ _) h0.2;refine(by decide,by decide,λi q=>(Q4 λo4 o5 o6 ws=>q=[.r .jy,.o (.l (ws.map .s)),.o (.s w0),.o (.i at_),o4,o5,o6]/\4<=ws.length/\ws.length<=4+i/\∀w∈ws,ao w=O),(_,_,_,ns,U,by lia,by lia,hn),?_,?_)
   ·rintro i x q hx ⟨o4,o5,o6,ws,rfl,w1,w2,hw⟩
    let(U,hi):=mS hx;have hi:i<3:=by lia
    refine(_,U,by decide,by decide,λr r0 r1=>(by decide +kernel,_,Gi r0 r1,U,?_))
    have e1:∀c:Nat,(⟨#[c]⟩:Str).length=1:=λ_=>rfl
    refine(ko (by lia),ko (by rw[e1];lia),ko (by lia),ko (by rw[Str.length_append,e1];lia),_,U,by rw[Str.length_append,Str.length_append,e1];lia,aY (λh=>?_) (λh=>?_))
    ·refine(bq (by rw[gV];lia),U,_,_,_,ws ++ [Txt.slice w0 Y (Z at_)++⟨#[Eo r.toNat]⟩++Txt.slice w0 (Z (at_+1)) Y],by rw[u9];rfl,by rw[oa];lia,by rw[oa];show ws.length+1<=_;lia,λw V=>?_)
     obtain z|z:=lS.mp V
     ·exact hw w z
     ·rw[aB.mp z];exact h
    ·exact(_,_,_,ws,U,w1,by lia,hw)
   ·rintro q ⟨o4,o5,o6,ws,rfl,w1,w2,hw⟩
    rw[fL]at w2;exact hq ws w1 w2 hw
mutual
def Bd.cd:Bd->Nat
 |.give _=>0
 |.mr _ _ b=>b.cd
 |.nam _ _ b=>b.cd
 |.mk _ _ _ _ b=>b.cd
 |.cas _ as=>as.cd+1
def Ar.cd:Ar->Nat
 |.nil=>0
 |.cons _ _ b r=>max b.cd r.cd
end
def tR:List (Str×List Str×Bd)->Ar
 |[]=>.nil
 |z::r=>.cons z.1 z.2.1 z.2.2 (tR r)
theorem GP:∀ls,(tR ls).ts=ls.map Pz
 |[]=>rfl
 |z::r=>by show _ ::(tR r).ts=_;rw[GP r];rfl
theorem GO:∀ls,(tR ls).wt=(ls.map λz=>3+z.2.1.length+z.2.2.wt).sum
 |[]=>rfl
 |z::r=>by show _+(tR r).wt=_;rw[GO r];rfl
theorem GQ:∀{ls},(∀z∈ls,ao z.1=O/\(∀k∈z.2.1,ao k=O)/\z.2.2.ok)->(tR ls).ok
 |[],_=>trivial
 |z::r,h=>((h z di).1,(h z di).2.1,(h z di).2.2,GQ λy g=>h y (aJ _ g))
theorem GR{x:Str}{d:Int}(hd:d<=39):∀{ls},(∀z∈ls,(z.2.2.cd:Int)+(d+1)<=40)->((Bd.cas x (tR ls)).cd:Int)+d<=40
 |[],_=>by show(((0+1)))+d<=40;lia
 |z::r,h=>by
  have h1:=h z di;have h2:=GR (x:=x) hd λy g=>h y (aJ _ g)
  have h2:(((tR r).cd+1))+d<=40:=h2;show((max z.2.2.cd (tR r).cd+1))+d<=40
  lia
theorem S6{w:Da}{K:PySem.W.Frag}{CX:CXT}{k:Nat}{js S:List Nat}{f:J}{fd:Ch}{ps:List Str}{sp:iT}(h:∀ts Q W,¬ sp ts Q W):aS P w K mg base CX k f fd ps (spG K js S sp):=(λvs H Q E z=>by
 cases z with
 |mk dl ts F Qp Wp h1 h2 h3 h4 h5 h6 h7 h8=>exact(h _ _ _ h6).elim,λA outer s H args us vs Q E _ _ _ _ z=>by
 cases z with
 |mk dl ts F Qp Wp h1 h2 h3 h4 h5 h6 h7 h8=>exact(h _ _ _ h6).elim)
theorem Xy{f:Int}{g:Bool}(h5:q[5]?=Z (.o (.i f)))(h4:q[4]?=Z (.r (.b g)))(h:∀b,Qb b):DU (jE (qOp Kz (mm 5) (qC (.i 0)))) (Kw (Ku (mm 4))) q Qb:=by
 unfold DU jE qOp mm;rw[h5];refine(U,aY (λ_=>?_) (λ_=>h _))
 show match q[4]? with|some (Sl.o t)=>_|some (Sl.r t)=>_|x=>False
 rw[h4];exact h _
def Om(n:Nat):iT:=λts Q _=>∃(ws:List Str)(y:J)(r d:Int)(g:Bool),ts=[.jy,.zl (ws.map .s),.lp y [.i r],.i d,.b g]/\4<=ws.length/\ws.length<=7/\(∀w∈ws,ao w=O) /\ -6<=r/\r<=48/\1<=d/\d<=40/\41<=d+n /\
 ∀(b:Bd)(r':Int),b.ok->(b.cd:Int)+d<=40->-6<=r'->r'<=r->(b.wt:Int)<=3+10*(r - r')->Q b.t [.lp y [.i r']]
theorem OP(T:Txt K mg a)(n:Nat):aS P w K mg base (CX1 P w) (n+4) a.Aj a.Ms [WF,W1,T0,SL,Sa] (spG K [2] [2] (Om n)):=by
 induction n with
 |zero =>
  refine S6 λts Q W h=>?_
  let(_,_,_,_,_,_,_,_,_,_,_,_,d1,hd,_):=h
  lia
 |succ n tX =>
  have a6:=kg (@iC P w K mg base a T);refine T.gi.F.okG i5 (λts Q W h=>?_) (by decide) (λ_ h=>h) (λ_ _ _ _ _ _ hr=>?_) λts Q W h=>?_
  ·let(_,_,_,_,_,U,_):=h;rfl
  ·have hu:=b9 hr;refine(_,_,((aj (bf (aH 5 i5.nd (aQ a6 hr T.bo (ae (qv 0) (ae af ax)))))
 (aj (bf (bx (QPW.pt (kB (oE (bw (qvp 2) af) af) (kB (Bh (qv 3) af) (k9 (QPW.pt (j8 (cY hu (qv 5) af) (i6 (fw (bp (qv 4))))))))))
 (ar (fc (bt (ai ay (ai (aQ (vX T) hr T.kP (ae (qv 0) (ae (qv 1) ax))) aF)))))
 aN))
 (aj (bf (Bi (i:=2) (pv 2) af (ZB (pj (bw (qvp 2) af) af))))
 (aj (gP (oE (qv 5) af)
 (aj (bf (aH 6 i5.nd (az af (ZB (aQ a6 hr T.bo (ae (qv 0) (ae (ZB (gc (aZ (ai bT (ai bT (ai bT aF)))) (ZB (aQ a6 hr T.bo (ae (qv 0) (ae af ax)))))) ax)))))))
 (aK (qF (mV (cQ (hU (ZB (gc (aZ (dq (by rfl))) (ZB (aQ a6 hr T.bo (ae (qv 0) (ae af ax))))))) (cQ (hU (qv 6)) (cQ (mW (i:=2) (j:=2) tX hr.aW U T.gi.m T.gi.F.kp T.gi.b (iB (qv 0) (iB (qv 1) (qG (i:=2) (pv 2) (ae (ZB (az (qv 3) af)) (ae (qv 4) ax)))))) cz)))))))
 (fM aN))
 (aj (bf (RS (i:=7) (j:=8) U i5.nd U U (by decide) U U (ZB (aQ (vX T) hr T.kP (ae (qv 0) (ae (qv 1) ax)))) (ZB (aQ (vX T) hr T.kP (ae (qv 0) (ae (qv 1) ax)))) U))
 (aj (gP (cY hu (qv 5) af)
 (aK (qF (mV (cQ (hU (ZB ay)) (cQ (hU (qv 7)) (cQ (hU (qv 8)) (cQ (mW (i:=2) (j:=2) tX hr.aW U T.gi.m T.gi.F.kp T.gi.b (iB (qv 0) (iB (qv 1) (qG (i:=2) (pv 2) (ae (ZB (az (qv 3) af)) (ae (qv 4) ax)))))) cz)))))))
 (fM aN))
 (aj (gP (oE (qv 5) af)
 (aj (bf (aH 9 i5.nd (aQ (Gb T) hr T.AJ (ae (qv 0) (ae (qv 1) (ae af ax))))))
 (aK (qF (mV (cQ (hU (ZB (gc (aZ (dq (by rfl))) (ZB (aQ a6 hr T.bo (ae (qv 0) (ae af ax))))))) (cQ (hU (qv 7)) (cQ (hU (qv 8)) (cQ (hU (qv 9)) (cQ (mW (i:=2) (j:=2) tX hr.aW U T.gi.m T.gi.F.kp T.gi.b (iB (qv 0) (iB (qv 1) (qG (i:=2) (pv 2) (ae (ZB (az (qv 3) af)) (ae (qv 4) ax)))))) cz)))))))))
 (fM aN))
 (aj (bf (aH 10 i5.nd (az af (ZB (aQ a6 hr T.bo (ae (qv 0) (ae (ZB (gc (aZ (ai bT (ai bT aF))) (ZB (aU dI gL (by rfl) T.kM (by kernel_rfl) (ae (ZB (cI (fD hu U) cX (a8 _) (ZB (aQ a6 hr T.bo (ae (qv 0) (ae af ax)))) af)) ax))))) ax)))))))
 (aj (bf (Bi (i:=2) (pv 2) af (ZB (pj (bw (qvp 2) af) (qv 10)))))
 (aj (bf (aH 11 i5.nd (aZ aF)))
 (aj (zp (g:=(Tg.nm 12)) PassesOwn.leaving U (jh U T.iJ (ae (qv 10) ax)) (kb 12 i5.nd)
 (aj (bf (aH 9 i5.nd (aQ (Gb T) hr T.AJ (ae (qv 0) (ae (qv 1) (ae (ZB (gc (aZ (ai bT (ai bT aF))) (ZB (aQ a6 hr T.bo (ae (qv 0) (ae af ax)))))) ax))))))
 (aK (jD (i:=11) (pv 11) (mV (cQ (hU (ZB (aQ (vX T) hr T.kP (ae (qv 0) (ae (qv 1) ax))))) (cQ (hU (qv 9)) (cQ (mW (i:=2) (j:=2) tX hr.aW U T.gi.m T.gi.F.kp T.gi.b (iB (qv 0) (iB (qv 1) (qG (i:=2) (pv 2) (ae (ZB (az (qv 3) af)) (ae (qv 4) ax)))))) cz))))))))
 (aK (bf (fc (bt (ai ay (ai (XL (qv 7)) (ai (aU (cE U) cB (by rfl) T.fS (by kernel_rfl) (ae (qv 11) ax)) aF))))))))))))))))))),λts Q W as h ha=>?_)
   let(ws,y,r,d,lg,U,w1,w2,hw,r0,r1,d0,d1,hd,hq):=h;obtain rfl:as=[y]:=by
    match as,ha with
    |[b],((u,e1,e2),_)=>cases e1;cases e2;rfl
   refine(by decide,by decide,λf f0 f1=>?_)
   refine(_,U,aY (λh1=>?_) (λh1=>?_))
   ·exact Wv (ws,U,w1,w2,hw,λwd V=>([_],(U,U,trivial),hq (.give wd) r V (by show((0:Nat):Int)+d<=40;lia) r0 (by lia) (by show(3:Int)<=_;lia)))
   have h1:¬ r<1:=λz=>h1 (decide_eq_true z)
   refine aY (λh2=>?_) (λh2=>?_)
   ·exact Wv (ws,U,w1,w2,hw,λwd V=>([_],(U,U,trivial),hq (.give wd) r V (by show((0:Nat):Int)+d<=40;lia) r0 (by lia) (by show(3:Int)<=_;lia)))
   have h2:¬ 37<d:=λz=>h2 (decide_eq_true z)
   refine Xy U U λb=>?_
   cases b with
   |true=>exact(ws,U,w1,w2,hw,λwd V=>([_],(U,U,trivial),hq (.give wd) r V (by show((0:Nat):Int)+d<=40;lia) r0 (by lia) (by show(3:Int)<=_;lia)))
   |false =>
   refine(_,U,0,U,U,U,aY (λh3=>?_) (λh3=>?_))
   ·refine(by decide,by decide,λc c0 c1=>?_)
    obtain⟨m,em,m1,m2⟩:∃m:Int,atI [L2.T.i 9,.i 1000,.i 9999999] c=Z (.i m)/\1<=m/\m<=9999999:=by
     obtain rfl|rfl|rfl:=(by lia:c=0\/c=1\/c=2)
     ·exact(9,U,by decide,by decide)
     ·exact(1000,U,by decide,by decide)
     ·exact(9999999,U,by decide,by decide)
    refine(_,em,by lia,by lia,λv v0 v1=>(by decide,by decide,λz z0 z1=>?_))
    let(wd,ew,hm):=rQ (ws:=[("pay":Str),"get"]) z0 z1;have V:wd="pay" \/ wd="get":=by simpa using hm
    refine(_,ew,U,U,U,U,_,U,U,U,U,λ_=>(ws,y,r - 1,d+1,lg,U,w1,w2,hw,by lia,by lia,by lia,by lia,by lia,λb r' hb ah s0 s1 aq=>(b.im,?_)))
    refine(b.im,xj (bq (by simp)),[_],(U,U,trivial),?_)
    have:=hq (.mr wd (1+v).toNat b) r' (V,by lia,by lia,hb) (by show(b.cd:Int)+d<=40;lia) s0 (by lia) (by show((4+b.wt:Nat):Int)<=_;lia)
    rw[show(Bd.mr wd (1+v).toNat b).t=.t [.s wd,.i ((1+v).toNat:Int),b.t]from U,Zf (by lia)]at this
    exact this
   refine(ws,U,w1,w2,hw,λx hx=>(U,ws,U,w1,w2,hw,λz hz=>(U,U,aY (λh4=>?_) (λh4=>aY (λh5=>?_) (λh5=>?_)))))
   ·refine(U,U,U,U,U,U,_,U,U,U,U,λ_=>(ws,y,r - 1,d+1,lg,U,w1,w2,hw,by lia,by lia,by lia,by lia,by lia,λb r' hb ah s0 s1 aq=>(b.im,b.im,xj (bq (by simp)),[_],(U,U,trivial),?_)))
    exact hq (.nam x z b) r' (hx,hz,hb) (by show(b.cd:Int)+d<=40;lia) s0 (by lia) (by show((6+b.wt:Nat):Int)<=_;lia)
   ·refine(ws,3,U,w1,w2,hw,by decide,by decide,λns hn ln=>(by decide,by decide,λk k0 k1=>?_))
    let(wd,ew,hm):=rQ (ws:=[("make":Str),"call"]) k0 k1;have V:wd="make" \/ wd="call":=by simpa using hm
    have hi:=a9 ns;refine(_,ew,U,U,U,U,U,U,hi,hi,_,U,U,U,U,λ_=>(ws,y,r - 1,d+1,lg,U,w1,w2,hw,by lia,by lia,by lia,by lia,by lia,λb r' hb ah s0 s1 aq=>(b.im,b.im,xj (bq (by simp)),[_],(U,U,trivial),?_)))
    exact hq (.mk wd x z ns b) r' (V,hx,hz,hn,hb) (by show(b.cd:Int)+d<=40;lia) s0 (by lia) (by show((6+ns.length+b.wt:Nat):Int)<=_;lia)
   ·refine(by decide,by decide,λc c0 c1=>?_)
    let(m,em,m1):=pick (x:=3) (y:=5) (decide ((L2.T.i c).v=(L2.T.i 1).v));refine(U,_,em,by lia,by lia,λv v0 v1=>(_,U,0,U,U,U,by lia,by lia,λi q=>(Q4 λ(o9 ak:Sl)(ls:List (Str×List Str×Bd))(rr:Int)=>q=[.r .jy,.r (.zl (ws.map .s)),.o (.lp y [.i rr]),.r (.i d),.r (.b lg),.o (.i f),.no,.o (.s x),.o (.s z),o9,.o (.i (1+v)),.o (.l (ls.map Pz)),ak]/\ls.length=i/\(∀z∈ls,(ao z.1=O/\(∀k∈z.2.1,ao k=O)/\z.2.2.ok)/\(z.2.2.cd:Int)+(d+1)<=40) /\ -6<=rr/\rr<=r - 1 - (1+v)/\(((ls.map λz=>3+z.2.1.length+z.2.2.wt).sum:Nat):Int)<=10*(i:Int)+10*(r - 1 - (1+v) - rr)),(_,_,[],_,U,U,(λ_ z=>nomatch z),by lia,by lia,by show(0:Int)<=_;lia),?_,?_))
    ·rintro i k q hk ⟨o9,ak,ls,rr,rfl,hc,hl,av,aG,hs⟩
     let(U,hi):=mS hk;refine(_,U,by decide,by decide,λe e0 e1=>?_)
     obtain⟨m2,aV,m3⟩:∃m:Int,atI [L2.T.i 2,.i 3] e=Z (.i m)/\(m=2\/m=3):=by
      obtain rfl|rfl:=(by lia:e=0\/e=1)
      ·exact(2,U,.inl U)
      ·exact(3,U,.inr U)
     refine(_,aV,ws,m2,U,w1,w2,hw,by lia,by lia,λns hn ln=>((_,U),ws,U,w1,w2,hw,λmk aL=>?_))
     have aD:=a9 ns;refine(U,U,aD,aD,_,U,U,U,U,λ_=>(ws,y,rr,d+1,lg,U,w1,w2,hw,by lia,by lia,by lia,by lia,by lia,λb r' hb ah s0 s1 aq=>(b.im,b.im,xj (bq (by simp)),_,U,bq (by rw[gV];lia),_,_,ls ++ [(mk,ns,b)],r',by rw[u9];rfl,by simp[hc],λu hu=>?_,s0,by lia,?_)))
     ·obtain z|z:=lS.mp hu
      ·exact hl u z
      ·rw[aB.mp z];exact((aL,hn,hb),ah)
     ·rw[u9,Y4];show(((ls.map λz=>3+z.2.1.length+z.2.2.wt).sum+(3+ns.length+b.wt+0):Nat):Int)<=_
      lia
    ·rintro q ⟨o9,ak,ls,rr,rfl,hc,hl,av,aG,hs⟩
     rw[fL]at hc hs;refine(U,ff Py ls,[_],(U,U,trivial),?_);have a0:=GO ls
     have:=hq (.cas x (tR ls)) rr (hx,λe=>?_,GQ λz hz=>(hl z hz).1) (GR (by lia) λz hz=>(hl z hz).2) av (by lia) (by show((4+(tR ls).wt:Nat):Int)<=_;lia)
     ·rw[show(Bd.cas x (tR ls)).t=.t [.s "case",.s x,.t (tR ls).ts]from U,GP]at this
      exact this
     ·cases ls with
      |nil=>simp at hc;lia
      |cons _ _=>cases e
  ·let(ws,y,r,d,lg,U,_):=h;exact([y],(_,U,U),trivial)
theorem bI(h:n<=16000000):n<=px:=u6 h (by decide)
theorem assoc(a b c:Str):a++b++c=a++(b++c):=Str.append_assoc a b c
theorem empty_append(x:Str):("":Str)++x=x:=by
 exact Str.empty_append x
theorem Bd.ne(b:Bd):b.ws ≠ []:=by
 cases b <;> exact xR _ _
theorem eY{r:List Str}(h:r ≠ []):Txt.join sep (x::r)=x++(sep++Txt.join sep r):=by
 cases r with
 |nil=>exact absurd U h
 |cons y r=>rw[jI,assoc]
def my(z:Str×List Str×Bd):List Str:=z.1 ::(z.2.1++(":":Str)::z.2.2.ws)
theorem PK:∀as:Ar,as.ws=as.ls.flatMap λz=>("|":Str)::my z
 |.nil=>rfl
 |.cons m ns b r=>by
  show("|":Str)::m ::(ns++(":":Str) ::(b.ws++r.ws))=(("|":Str)::my (m,ns,b))++r.ls.flatMap _
  rw[PK r];simp[my]
theorem Ez{α:Type}{f:α->List Str}(hf:∀z,f z ≠ []):∀(z:α)(r:List α),Txt.join " " (f z++r.flatMap λy=>("|":Str)::f y)=Txt.join " | " ((z::r).map λy=>Txt.join " " (f y))
 |z,[]=>by rw[List.flatMap_nil,qp];exact Ey.symm
 |z,y::r=>by
  rw[YR,tu (hf z) (by simp),Ze,eY (by simp[hf y]),Ez hf y r]
  simp only[E6];rw[jI];rw[show(" | ":Str)=" " ++ ("|" ++ " ")from by decide +kernel]
  simp only[assoc]
theorem ME(z:Str×List Str×Bd):Txt.join " " (my z)=Txt.join " " (z.1::z.2.1) ++ " : " ++ Txt.join " " z.2.2.ws:=by
 show Txt.join " " ((z.1::z.2.1)++(":":Str)::z.2.2.ws)=_;rw[tu (by simp) (by simp),eY z.2.2.ne,show(" : ":Str)=" " ++ (":" ++ " ")from by decide +kernel]
 simp only[assoc]
theorem Px(z:Str×List Str×Bd):my z ≠ []:=xR _ _
theorem Uo{as:Ar}(h:as ≠ .nil):Txt.join " " (Bd.cas x as).ws="case " ++ (x++(" " ++ (Txt.join " | " (as.ls.map λz=>Txt.join " " (my z)) ++ " end"))):=by
 cases as with
 |nil=>exact absurd U h
 |cons m ns b r =>
  have e:(Ar.cons m ns b r).ws.tail=my (m,ns,b)++r.ls.flatMap λy=>("|":Str)::my y:=by rw[PK];rfl
  show Txt.join " " ("case" :: x ::((Ar.cons m ns b r).ws.tail ++ [("end":Str)]))=_
  rw[eY (by simp),eY (by simp),tu (by rw[e];simp[my]) (by simp),e,Ez Px,show("case ":Str)="case" ++ " " from by decide +kernel]
  simp only[assoc];rfl
theorem Pq{w:Str}:Txt.join " " (Bd.mr w n b).ws=w++(" " ++ (kc n++(" ; " ++ Txt.join " " b.ws))):=by
 show Txt.join " " (w::kc n :: ";" :: b.ws)=_;rw[eY (by simp),eY (by simp),eY b.ne,show(" ; ":Str)=" " ++ (";" ++ " ")from by decide +kernel]
 simp only[assoc]
theorem S7:Txt.join " " (Bd.nam x y b).ws="let " ++ (x++(" name " ++ (y++(" ; " ++ Txt.join " " b.ws)))):=by
 show Txt.join " " ("let" :: x :: "name" :: y :: ";" :: b.ws)=_
 rw[eY (by simp),eY (by simp),eY (by simp),eY (by simp),eY b.ne,show(" ; ":Str)=" " ++ (";" ++ " ")from by decide +kernel,show("let ":Str)="let" ++ " " from by decide +kernel,show(" name ":Str)=" " ++ ("name" ++ " ")from by decide +kernel]
 simp only[assoc]
theorem Wi{w:Str}:Txt.join " " (Bd.mk w x y ns b).ws=Txt.join " " (("let":Str)::x::w::y::ns)++(" ; " ++ Txt.join " " b.ws):=by
 show Txt.join " " ((("let":Str)::x::w::y::ns)++(";":Str)::b.ws)=_
 rw[tu (by simp) (by simp),eY b.ne,show(" ; ":Str)=" " ++ (";" ++ " ")from by decide +kernel]
 simp only[assoc]
theorem Jr(h:b.ok)(hw:b.wt<=2000):(Txt.join " " b.ws).length<=20000:=by
 have h1:=lF " " b.ws;have h2:=(Bd.sh h).sum;have h3:=b.wl;rw[show(" ":Str).length=1 from by decide]at h1
 lia
theorem never{w:Da}{K:BT}{CX:CXT}{k:Nat}{f:J}{fd:Ch}{ps:List Str}{sp:PSp}(h:∀ts Q,¬ sp ts Q):aS P w K mg base CX k f fd ps (spQ K sp) :=
 (λ_ _ _ _ g=>by let(_,ts,_,Qp,_,_,z,_):=g;exact(h ts Qp z).elim,λ_ _ _ _ _ _ _ _ _ _ _ _ _ g=>by let(_,ts,_,Qp,_,_,z,_):=g;exact(h ts Qp z).elim)
def So(n:Nat):PSp:=λts Q=>∃b:Bd,ts=[b.t]/\b.ok/\b.wt<=2000/\b.cd<n/\Q (.s (Txt.join " " b.ws))
theorem Lq:∀as:Ar,as.ls.length<=as.wt
 |.nil=>qd _
 |.cons m ns b r=>by show r.ls.length+1<=3+ns.length+b.wt+r.wt;have:=Lq r;lia
theorem Lp:∀{as:Ar},as.ok->∀z∈as.ls,ao z.1=O/\(∀k∈z.2.1,ao k=O)/\z.2.2.ok/\z.2.2.wt<=as.wt/\z.2.1.length<=as.wt/\z.2.2.cd<=as.cd
 |.nil,_,z,g=>nomatch g
 |.cons m ns b r,(h1,h2,h3,h4),z,g=>by
  have V:(Ar.cons m ns b r).wt=3+ns.length+b.wt+r.wt:=rfl;have Q:(Ar.cons m ns b r).cd=max b.cd r.cd:=rfl;obtain u|u:=fH.mp (g)
  ·subst u;exact(h1,h2,h3,by lia,by lia,by lia)
  ·let(g1,g2,g3,P,K,q):=Lp h4 z u;exact(g1,g2,g3,by lia,by lia,by lia)
def aT(z:Str×List Str×Bd):L2.T:=.s (Txt.join " " (my z))
theorem yR{z:Str×List Str×Bd}(g1:ao z.1=O)(g2:∀k∈z.2.1,ao k=O)(g3:z.2.2.ok)(q:z.2.2.wt<=2000)(P:z.2.1.length<=2000):
  txs ([L2.T.s z.1]++z.2.1.map L2.T.s)=Z (z.1::z.2.1)/\((z.1::z.2.1).map (·.length)).sum+(z.1::z.2.1).length*(Str.ofString " ").length<=16777216 /\ [L2.T.s z.1].length+(z.2.1.map L2.T.s).length<=px /\
  (Txt.join " " (z.1::z.2.1)).length+(" : ":Str).length<=px/\(Txt.join " " (z.1::z.2.1) ++ " : ").length+(Txt.join " " z.2.2.ws).length<=px:=by
 have hs:=Sh.sum (.cons (bA g1).2 (.nm g2));rw[mD]at hs;have l1:(Str.ofString " ").length=1:=by decide +kernel
 have l3:(Str.ofString " : ").length=3:=by decide +kernel
 have g:=lF " " (z.1::z.2.1);rw[mD,l1]at g;have K:=Jr g3 q;refine(fK (z.1::z.2.1),by rw[l1,mD];lia,bI (by rw[gV];show 1+z.2.1.length<=_;lia),bI (by lia),bI (by rw[Str.length_append];lia))
def TxI(n:Nat)(b0:Bd)(q:Sq)(c:Nat):Prop:=∃(o0:Sl)(b:Bd)(fo:Str),q=[o0,.o (.s fo),.no,.no,.no,.no]/\(o0=.r b.t\/o0=.o b.t)/\b.ok/\b.wt<=2000/\b.cd<n+1/\fo++Txt.join " " b.ws=Txt.join " " b0.ws/\c=b.wt
theorem zN(T:Txt K mg a)(n:Nat):aS P w K mg base CX0 (n+1) a.jQ a.uB [TW] (spQ K (So n)):=by
 induction n with
 |zero=>exact never λts Q h=>by let(b,_,_,_,z,_):=h;lia
 |succ n nF =>
  refine T.nI.F.okQ bZ (λts Q h=>?_) (λ_ _ _ _ _ _ hr=>?_)
  ·let(_,U,_):=h;rfl
  ·have hu:=b9 hr;refine(_,_,((ag (aH 1 bZ.nd ay)
 (ag (mT PassesOwn.never (bQ (sT U) jW U (bw (qv 0) af) (ZB (bt (dq (by rfl)))))
 (ag (bx (bQ (pF U) jW U (bw (qv 0) af) (ZB (bt (dq (by rfl)))))
 (ar (aH 1 bZ.nd (az (ZB (az (ZB (az (ZB (az (qv 1) (bw (qv 0) af))) (ZB ay))) (ZB (aU IS JJ (by rfl) T.W7 (by kernel_rfl) (ae (bw (qv 0) af) ax))))) (ZB ay))))
 (ar (bx (cY hu (bw (qv 0) af) (ZB ay))
 (ar (aH 1 bZ.nd (az (ZB (az (ZB (az (ZB (az (ZB (az (qv 1) (ZB ay))) (bw (qv 0) af))) (ZB ay))) (bw (qv 0) af))) (ZB ay))))
 (ar (aH 1 bZ.nd (az (ZB (az (qv 1) (ZB (fN (ZB ay) (ZB (az (ZB (aZ (ai ay (ai (XL (bw (qv 0) af)) (ai (XL (bw (qv 0) af)) (ai (XL (bw (qv 0) af)) aF)))))) (ZB (aU (n8 U) nL (by rfl) T.xf (by kernel_rfl) (ae (bw (qv 0) af) ax))))))))) (ZB ay)))))))
 (ar (aH 0 bZ.nd (XL (bw (qv 0) (ZB (ij af))))))))
 (ag (bx (cY hu (bw (qv 0) af) (ZB ay))
 (ar (aM (az (ZB (az (qv 1) (ZB ay))) (bw (qv 0) af))))
 aN)
 (ag (aH 2 bZ.nd (aZ aF))
 (ag (j9 (g:=(Tg.tp [3,4,5])) PassesOwn.never U (zr (XL (bw (qv 0) af))) (zB (K:=K) (n:=3) U U (fB (kb 3 bZ.nd) (fB (kb 4 bZ.nd) (fB (kb 5 bZ.nd) vh))))
 (ar (ig (i:=2) (pv 2) (az (ZB (az (ZB (fN (ZB ay) (ZB (az (ZB (aZ (ai (XL (qv 3)) aF))) (ZB (aU (n8 U) nL (by rfl) T.xf (by kernel_rfl) (ae (qv 4) ax))))))) (ZB ay))) (ZB (aQ nF hr T.nI (ae (qv 5) ax)))))))
 (ar (aM (az (ZB (az (ZB (az (ZB (az (ZB (az (qv 1) (ZB ay))) (bw (qv 0) af))) (ZB ay))) (ZB (fN (ZB ay) (qv 2))))) (ZB ay)))))))))),λts Q h=>?_)
   let(b0,U,aD,av,aG,hq):=h;have aL:=Jr aD av;refine(λc q=>TxI n b0 q c,(_,_,b0,"",U,.inl U,aD,av,aG,empty_append _,U),?_)
   rintro c q ⟨o0,b,fo,rfl,ho,hb,hw,hn,hf,rfl⟩
   have V:fo.length+(Txt.join " " b.ws).length<=20000:=by rw[<- Str.length_append,hf];exact aL
   cases b with
   |give x =>
    have e:Txt.join " " (Bd.give x).ws="give " ++ x:=by
     show Txt.join " " ["give",x]=_;rw[jI,Ey];rfl
    rw[e]at hf V;rw[<- hf,<- assoc]at hq;rw[Str.length_append]at V;obtain rfl|rfl:=ho
    all_goals
     refine(_,U,U,aY (λz=>absurd z (by decide +kernel)) (λ_=>?_))
     refine(_,U,U,aY (λ_=>?_) (λz=>absurd (by decide +kernel) z))
     exact(bI (by lia),_,U,bI (by rw[Str.length_append];lia),hq)
   |mr w k b =>
    let(ah,k1,k2,hb):=hb;have ak:(Bd.mr w k b).wt=4+b.wt:=rfl;have aq:(Bd.mr w k b).cd=b.cd:=rfl;rw[Pq]at hf V;simp only[Str.length_append]at V;have hf:fo++w ++ " " ++ kc k ++ " ; " ++ Txt.join " " b.ws=Txt.join " " b0.ws:=by rw[<- hf];simp only[assoc]
    have ln:=(zO k2).2;have lw:w.length=3:=by obtain rfl|rfl:=ah <;> decide +kernel
    have l1:(" ":Str).length=1:=by decide +kernel
    have l3:(" ; ":Str).length=3:=by decide +kernel
    obtain rfl|rfl:=ah
    all_goals
     obtain rfl|rfl:=ho
     all_goals
      refine(_,U,U,aY (λ_=>?_) (λz=>absurd (by decide +kernel) z))
      refine(λq=>∃c,c<_/\TxI n b0 q c,λq h=>h,?_)
      refine(_,U,U,aY (λ_=>?_) (λz=>absurd (by decide +kernel) z))
      refine(_,U,bI (by lia),bI (by rw[Str.length_append];lia),_,U,HV k2,bI (by simp only[Str.length_append];lia),bI (by simp only[Str.length_append];lia),?_)
      exact(_,U,b.im,b.wt,by lia,_,b,_,U,.inr U,hb,by lia,by lia,hf,U)
   |nam x y b =>
    let(h1,h2,hb):=hb;have ak:(Bd.nam x y b).wt=6+b.wt:=rfl;have aq:(Bd.nam x y b).cd=b.cd:=rfl;rw[S7]at hf V;simp only[Str.length_append]at V;have hf:fo ++ "let " ++ x ++ " name " ++ y ++ " ; " ++ Txt.join " " b.ws=Txt.join " " b0.ws:=by rw[<- hf];simp only[assoc]
    obtain rfl|rfl:=ho
    all_goals
     refine(_,U,U,aY (λ_=>?_) (λz=>absurd (by decide +kernel) z))
     refine(λq=>∃c,c<_/\TxI n b0 q c,λq h=>h,?_)
     refine(_,U,U,aY (λz=>absurd z (by decide +kernel)) (λ_=>?_))
     refine(_,U,U,aY (λ_=>?_) (λz=>absurd (by decide +kernel) z))
     refine(bI (by lia),_,U,bI (by simp only[Str.length_append];lia),bI (by simp only[Str.length_append];lia),_,U,bI (by simp only[Str.length_append];lia),bI (by simp only[Str.length_append];lia),?_)
     exact(_,U,b.im,b.wt,by lia,_,b,_,U,.inr U,hb,by lia,by lia,hf,U)
   |mk w x y ns b =>
    let(ah,h1,h2,h3,hb):=hb;have ak:(Bd.mk w x y ns b).wt=6+ns.length+b.wt:=rfl;have aq:(Bd.mk w x y ns b).cd=b.cd:=rfl;rw[Wi]at hf V;simp only[Str.length_append]at V;have hf:fo++Txt.join " " (("let":Str)::x::w::y::ns) ++ " ; " ++ Txt.join " " b.ws=Txt.join " " b0.ws:=by rw[<- hf];simp only[assoc]
    have hs:((("let":Str)::x::w::y::ns).map (·.length)).sum<=8*(("let":Str)::x::w::y::ns).length:=Sh.sum (.cons (by decide) (.cons (bA h1).2 (.cons (by obtain h|h:=ah <;> rw[h] <;> decide) (.cons (bA h2).2 (.nm h3)))))
    have hi:=a9 ns;have t1:(!inT (.s w) [.s "give",.s "case"])=true:=by obtain rfl|rfl:=ah <;> decide +kernel
    have t2:¬ inT (.s w) [.s "pay",.s "get"]=true:=by obtain rfl|rfl:=ah <;> decide +kernel
    have t3:¬ decide ((L2.T.s w).v=(L2.T.s "name").v)=true:=by obtain rfl|rfl:=ah <;> decide +kernel
    have l1:(Str.ofString " ").length=1:=by decide +kernel
    have le:(("let":Str)::x::w::y::ns).length=ns.length+4:=rfl
    rw[le]at hs;have et:txs ([L2.T.s "let",.s x,.s w,.s y]++ns.map L2.T.s)=Z (("let":Str)::x::w::y::ns):=fK (("let":Str)::x::w::y::ns)
    have eb:((("let":Str)::x::w::y::ns).map (·.length)).sum+(("let":Str)::x::w::y::ns).length*(Str.ofString " ").length<=16777216:=by rw[l1,le];lia
    have el:[L2.T.s "let",.s x,.s w,.s y].length+(ns.map L2.T.s).length<=px:=bI (by rw[gV];show 4+ns.length<=_;lia)
    have e2:fo.length+(Txt.join " " (("let":Str)::x::w::y::ns)).length<=px:=bI (by lia)
    have e3:(fo++Txt.join " " (("let":Str)::x::w::y::ns)).length+(" ; ":Str).length<=px:=bI (by rw[Str.length_append];lia)
    obtain rfl|rfl:=ho
    ·refine(_,U,U,aY (λ_=>?_) (λz=>absurd t1 z))
     refine(λq=>∃c,c<_/\TxI n b0 q c,λq h=>h,?_)
     refine(_,U,U,aY (λz=>absurd z t2) (λ_=>?_))
     refine(_,U,U,aY (λz=>absurd z t3) (λ_=>?_))
     refine(_,U,U,_,U,U,_,U,U,_,U,hi,el,U,hi,_,et,eb,e2,e3,?_);exact(_,U,b.im,b.wt,by lia,_,b,_,U,.inr U,hb,by lia,by lia,hf,U)
    ·refine(_,U,U,aY (λ_=>?_) (λz=>absurd t1 z))
     refine(λq=>∃c,c<_/\TxI n b0 q c,λq h=>h,?_)
     refine(_,U,U,aY (λz=>absurd z t2) (λ_=>?_))
     refine(_,U,U,aY (λz=>absurd z t3) (λ_=>?_))
     refine(_,U,U,_,U,U,_,U,U,_,U,hi,el,U,hi,_,et,eb,e2,e3,?_);exact(_,U,b.im,b.wt,by lia,_,b,_,U,.inr U,hb,by lia,by lia,hf,U)
   |cas x as =>
    let(h1,h2,h3):=hb;have ak:(Bd.cas x as).wt=4+as.wt:=rfl;have aq:(Bd.cas x as).cd=as.cd+1:=rfl;rw[Uo h2]at hf V;simp only[Str.length_append]at V;have hf:fo ++ "case " ++ x ++ " " ++ Txt.join " | " (as.ls.map λz=>Txt.join " " (my z)) ++ " end"=Txt.join " " b0.ws:=by rw[<- hf];simp only[assoc]
    rw[<- hf]at hq;have aV:=Lq as;have e1:fo.length+("case ":Str).length<=px:=bI (by lia)
    have e2:(fo ++ "case ").length+x.length<=px:=bI (by simp only[Str.length_append];lia)
    have e3:(fo ++ "case " ++ x).length+(" ":Str).length<=px:=bI (by simp only[Str.length_append];lia)
    have e4:txs (as.ls.map aT)=Z (as.ls.map λz=>Txt.join " " (my z)):=by
     rw[<- fK,Y3];rfl
    have e5:((as.ls.map λz=>Txt.join " " (my z)).map (·.length)).sum+(as.ls.map λz=>Txt.join " " (my z)).length*(Str.ofString " | ").length<=16777216:=by
     have h:(Txt.join " | " (as.ls.map λz=>Txt.join " " (my z))).length=_:=PySem.size_glued " | " (as.ls.map λz=>Txt.join " " (my z))
     rw[show(Str.ofString " | ").length=3 from by decide +kernel]at h ⊢
     rw[gV]at h ⊢
     lia
    have e6:(fo ++ "case " ++ x ++ " ").length+(Txt.join " | " (as.ls.map λz=>Txt.join " " (my z))).length<=px:=bI (by simp only[Str.length_append];lia)
    have e7:(fo ++ "case " ++ x ++ " " ++ Txt.join " | " (as.ls.map λz=>Txt.join " " (my z))).length+(" end":Str).length<=px:=bI (by simp only[Str.length_append];lia)
    obtain rfl|rfl:=ho
    ·refine(_,U,U,aY (λz=>absurd z (by decide +kernel)) (λ_=>?_))
     refine(_,U,U,aY (λz=>absurd z (by decide +kernel)) (λ_=>?_))
     refine(_,U,as.im,λi q=>P3 λ(o3 o4 o5:Sl)=>q=[.r (Bd.cas x as).t,.o (.s fo),.o (.l ((as.ls.take i).map aT)),o3,o4,o5],(_,_,_,U),?_,?_)
     ·rintro i t q ht ⟨o3,o4,o5,rfl⟩
      rw[AX,ti]at ht;let(z,hz,U):=kf.mp ht;let(g1,g2,g3,g4,g5,g6):=Lp h3 z (yb hz);let(et,eb,el,e2,e3):=yR g1 g2 g3 (by lia) (by lia)
      have hi:=a9 z.2.1;refine(_,U,aR (by rw[gV,x8];lia),?_)
      refine(U,hi,el,U,hi,_,et,eb,e2,z.2.2,U,g3,by lia,by lia,e3,?_)
      have es:(as.ls.take (i+1)).map aT=(as.ls.take i).map aT ++ [.s (Txt.join " " (z.1::z.2.1) ++ " : " ++ Txt.join " " z.2.2.ws)]:=by
       rw[E8,hz,u9,<- ME];rfl
      exact(_,_,_,by rw[es];rfl)
     ·rintro q ⟨o3,o4,o5,rfl⟩
      rw[AX,gV,MJ];exact(e1,_,U,e2,e3,_,e4,e5,e6,e7,hq)
    ·refine(_,U,U,aY (λz=>absurd z (by decide +kernel)) (λ_=>?_))
     refine(_,U,U,aY (λz=>absurd z (by decide +kernel)) (λ_=>?_))
     refine(_,U,as.im,λi q=>P3 λ(o3 o4 o5:Sl)=>q=[.o (Bd.cas x as).t,.o (.s fo),.o (.l ((as.ls.take i).map aT)),o3,o4,o5],(_,_,_,U),?_,?_)
     ·rintro i t q ht ⟨o3,o4,o5,rfl⟩
      rw[AX,ti]at ht;let(z,hz,U):=kf.mp ht;let(g1,g2,g3,g4,g5,g6):=Lp h3 z (yb hz);let(et,eb,el,e2,e3):=yR g1 g2 g3 (by lia) (by lia)
      have hi:=a9 z.2.1;refine(_,U,aR (by rw[gV,x8];lia),?_)
      refine(U,hi,el,U,hi,_,et,eb,e2,z.2.2,U,g3,by lia,by lia,e3,?_)
      have es:(as.ls.take (i+1)).map aT=(as.ls.take i).map aT ++ [.s (Txt.join " " (z.1::z.2.1) ++ " : " ++ Txt.join " " z.2.2.ws)]:=by
       rw[E8,hz,u9,<- ME];rfl
      exact(_,_,_,by rw[es];rfl)
     ·rintro q ⟨o3,o4,o5,rfl⟩
      rw[AX,gV,MJ];exact(e1,_,U,e2,e3,_,e4,e5,e6,e7,hq)
theorem Yo(z:Fh×Bd):ke z=Txt.join " " (("def":Str)::z.1.nm::pws z.1.ps) ++ " to " ++ z.1.kd ++ " : " ++ Txt.join " " z.2.ws:=by
 show Txt.join " " ((("def":Str)::z.1.nm::pws z.1.ps)++("to":Str)::z.1.kd :: ":" :: z.2.ws)=_;rw[tu (xR _ _) (xR _ _)]
 generalize Txt.join " " (("def")::z.1.nm::pws z.1.ps)=D
 rw[eY (xR _ _),eY (xR _ _),eY z.2.ne,show(" to ":Str)=" " ++ ("to" ++ " ")from by decide +kernel,show(" : ":Str)=" " ++ (":" ++ " ")from by decide +kernel]
 simp only[assoc]
def Sv:PSp:=λts Q=>∃ks fs,ts=[pT ks fs]/\CN ks fs/\(∀z∈fs,z.2.cd<190)/\Q (.l ((ks.map i7++fs.map ke).map .s))
theorem zI(T:Txt K mg a):aS P w K mg base CX0 192 a.Ad a.Ml [Sc] (spQ K Sv):=by
 refine T.AK.F.okQ gM (λts Q h=>?_) (λ_ _ _ _ _ _ hr=>?_)
 ·let(_,_,U,_):=h;rfl
 ·have hu:=b9 hr;refine(_,_,((ag (aH 1 gM.nd (aZ aF))
 (ag (j9 (g:=(Tg.tp [2,3])) PassesOwn.never U (zr (XL (bw (qv 0) af))) (K5 (kb 2 gM.nd) (kb 3 gM.nd))
 (ag (zq (i:=4) gM.nd U (Or.inl U) U (RV (qv 3)) (N':=["_law_maker","_law_fields"]) (.own U (.own U .nil)) (ka (g:=(Tg.tp [0,1])) (λ_ _ _ _ _=>((K5 (uO 0) (uO 1)),(fN (ZB ay) (ZB (az (ZB (aZ (ai (XL (qv 0)) aF))) (ZB (aU (n8 U) nL (by rfl) T.xf (by kernel_rfl) (ae (qv 1) ax))))))))))
 (ar (ig (i:=1) (pv 1) (az (ZB (az (ZB (az (ZB ay) (qv 2))) (ZB ay))) (ZB (fN (ZB ay) (qv 4))))))))
 (ag (j9 (g:=(Tg.tp [2,5,6,7])) PassesOwn.never U (zr (XL (bw (qv 0) af))) (zB (K:=K) (n:=4) U U (fB (kb 2 gM.nd) (fB (kb 5 gM.nd) (fB (kb 6 gM.nd) (fB (kb 7 gM.nd) vh)))))
 (ag (aH 8 gM.nd (aZ (ai ay (ai (XL (qv 2)) aF))))
 (ag (j9 (g:=(Tg.nm 9)) PassesOwn.never U (zr (XL (qv 5))) (kb 9 gM.nd)
 (ar (HD (i:=8) (pv 8) (aU (n8 U) nL (by rfl) T.xf (by kernel_rfl) (ae (qv 9) ax)))))
 (ar (ig (i:=1) (pv 1) (az (ZB (az (ZB (az (ZB (az (ZB (fN (ZB ay) (qv 8))) (ZB ay))) (qv 6))) (ZB ay))) (ZB (aQ (zN T 190) hr T.nI (ae (qv 7) ax)))))))))
 (ar (FO (i:=1) (pv 1))))))),λts Q h=>?_)
  let(ks,fs,U,hp,hd,hq):=h;have hl:=hp.l;refine(_,U,ff B9 ks,λi q=>P3 λ(o2 o3 o4:Sl)=>q=[.r (pT ks fs),.o (.l (((ks.take i).map i7).map .s)),o2,o3,o4,.no,.no,.no,.no,.no],(_,_,_,U),?_,?_)
  ·rintro i t q V ⟨o2,o3,o4,rfl⟩
   rw[ti]at V;let(k,hk,U):=kf.mp V;have ok:=hp.k k (yb hk);have e1:∀m∈k.2,txs ([L2.T.s m.1]++m.2.map L2.T.s)=Z (m.1::m.2):=λm _=>fK (m.1::m.2)
   refine(_,U,bq (by rw[gV];have:=ok.l;lia),λj ys=>ys=(k.2.take j).map λm=>.s (Txt.join " " (m.1::m.2)),U,?_,?_)
   ·rintro j t ys V rfl
    rw[ti]at V;let(m,hm,U):=kf.mp V;have mo:=ok.m m (yb hm);have hi:=a9 m.2;have ml:=Ln mo;refine(_,U,U,hi,bI (by rw[gV];show 1+m.2.length<=_;lia),U,hi,_,e1 m (yb hm),by rw[mD,show(Str.ofString " ").length=1 from by decide +kernel];lia,?_)
    rw[E8,hm,u9];rfl
   ·rintro ys rfl
    rw[gV,MJ];have kl:=LC ok;unfold i7 at kl;simp only[Str.length_append]at kl;have e2:txs (k.2.map λm=>L2.T.s (Txt.join " " (m.1::m.2)))=Z (k.2.map λm=>Txt.join " " (m.1::m.2)):=by rw[<- fK,Y3];rfl
    have e3:=zT ok.m;have e4:=ok.l;have ek:((ks.take (i+1)).map i7).map L2.T.s=((ks.take i).map i7).map L2.T.s ++ [.s (i7 k)]:=by
     rw[E8,hk,u9,u9];rfl
    refine(aR (by rw[gV,gV,x8];lia),bI (by lia),bI (by simp only[Str.length_append];lia),_,e2,by rw[gV,show(Str.ofString " | ").length=3 from by decide +kernel];lia,bI (by simp only[Str.length_append];lia),?_)
    exact(_,_,_,by rw[ek];rfl)
  rintro q ⟨o2,o3,o4,rfl⟩
  rw[gV,MJ];refine(_,U,ff QN fs,λi q=>Ea8 λ(o2 o3 o4 o5 o6 o7 o8 o9:Sl)=>q=[.r (pT ks fs),.o (.l ((ks.map i7++(fs.take i).map ke).map .s)),o2,o3,o4,o5,o6,o7,o8,o9],(_,_,_,_,_,_,_,_,by rw[List.take_zero,List.map_nil,qp]),?_,?_)
  ·rintro i t q V ⟨o2,o3,o4,o5,o6,o7,o8,o9,rfl⟩
   rw[ti]at V;let(z,hz,U):=kf.mp V;have hm:=yb hz;have ok:=hp.f z hm;have ol:=ok.l;refine(_,U,U,wz z.1.ps,λj q=>∃(o9:Sl),q=[.r (pT ks fs),.o (.l ((ks.map i7++(fs.take i).map ke).map .s)),.r (.s z.1.nm),o3,o4,.r (tPs z.1.ps),.r (.s z.1.kd),.r z.2.t,.o (.l ((("def":Str)::z.1.nm::pws (z.1.ps.take j)).map .s)),o9],(_,U),?_,?_)
   ·rintro j t q V ⟨o9,rfl⟩
    rw[ti]at V;let(p,ak,U):=kf.mp V;have ep:(("def":Str)::z.1.nm::pws (z.1.ps.take (j+1))).map L2.T.s=(("def":Str)::z.1.nm::pws (z.1.ps.take j)).map L2.T.s ++ [.s p.1,.s p.2]:=by
     rw[E8,ak];unfold pws;rw[List.flatMap_append];simp
    have el:(pws (z.1.ps.take j)).length<=1400:=by rw[qI,x8];lia
    refine(_,U,U,bI (by rw[gV,mD,mD];show _+2<=_;lia),_,by rw[ep];rfl)
   ·rintro q ⟨o9,rfl⟩
    rw[gV,MJ];have ft:=Yo z;have fl:=LZ ok;rw[ft]at fl;simp only[Str.length_append]at fl;have hs:((("def":Str)::z.1.nm::pws z.1.ps).map (·.length)).sum<=8*(("def":Str)::z.1.nm::pws z.1.ps).length:=Sh.sum (.cons (by decide) (.cons (bA ok.n).2 (KG ok.p)))
    have aq:=qI z.1.ps;have ah:(("def":Str)::z.1.nm::pws z.1.ps).length=(pws z.1.ps).length+2:=rfl;rw[ah]at hs;have ef:((ks.map i7++(fs.take (i+1)).map ke).map L2.T.s)=(ks.map i7++(fs.take i).map ke).map L2.T.s ++ [.s (ke z)]:=by
     rw[E8,hz,u9 (l₁:=fs.take i),<- AI,u9];rfl
    rw[ft]at ef;refine(aR (by rw[gV,oa,gV,gV,x8];lia),_,fK (("def":Str)::z.1.nm::pws z.1.ps),by rw[ah,show(Str.ofString " ").length=1 from by decide +kernel];lia,bI (by lia),bI (by simp only[Str.length_append];lia),bI (by simp only[Str.length_append];lia),z.2,U,ok.b,ok.w,by have:=hd z hm;lia,bI (by simp only[Str.length_append];lia),?_)
    exact(_,_,_,_,_,_,_,_,by rw[ef];rfl)
  ·rintro q ⟨o2,o3,o4,o5,o6,o7,o8,o9,rfl⟩
   rw[gV,MJ];exact hq
theorem pI{due:Str}(hd:ao due=ϊ){l:List Str}:∀{ns:List Str},(∀m∈ns,ao m=O)->fNames due (ns++due::l)=Z (ns,l)
 |[],_=>by show fNames due (due::l)=_;rw[fNames,if_pos rfl]
 |n::r,h=>by
  have hn:=h n di;show fNames due (n ::(r++due::l))=_;rw[fNames,if_neg (λe=>by rw[e,hd]at hn;cases hn),if_pos hn,pI hd λm hm=>h m (aJ _ hm)]
  rfl
theorem semi:ao ";"=false:=by decide +kernel
theorem colon:ao ":"=false:=by decide +kernel
theorem CC(hm:ao m=O)(hn:∀k∈ns,ao k=O):lP (m ::(ns++(":":Str)::l))=Z ([.s m,.t (ns.map .s)],l):=by
 show(if ao m=O then(fNames ":" (ns++(":":Str)::l)).map _ else Y)=_
 rw[if_pos hm,pI colon hn];rfl
def After(cs:List Oc)(u:L2.T)(l:List Str)(o:Option (L2.T×List Str)):Prop:=match bz cs u l with
 |.fin b l=>o=Z (b,l)
 |.on cs l=>Run (cs,[],l) o
 |.bad=>o=Y
theorem nJ(hts:List (List L2.T))(h:List L2.T)(b:L2.T):dg (hts ++ [h]) b=dg hts (.t (h ++ [b])):=by
 unfold dg;rw[List.foldr_append];rfl
theorem HA{u:L2.T}{o:Option (L2.T×List Str)}(hs:fm s=(bz cs u l).stp)(h:After cs u l o):Run s o:=by
 unfold After at h;cases e:bz cs u l with
 |fin b l'=>rw[e]at h hs;rw[h];exact .fin hs
 |on g l'=>rw[e]at h hs;exact .on hs h
 |bad=>rw[e]at h hs;rw[h];exact .bad hs
mutual
theorem sL:∀{b:Bd},b.ok->∀{cs:List Oc}{hts:List (List L2.T)}{l:List Str}{o:Option (L2.T×List Str)},After cs (dg hts b.t) l o->Run (cs,hts,b.ws++l) o
 |.give x,g,cs,hts,l,o,h=>HA (u:=dg hts (Bd.give x).t) (l:=l) (cs:=cs) (by
   have g:ao x=true:=g;show(if("give":Str)="case" then _ else if("give":Str)="give" then(if ao x=O then _ else _)else _)=_
   rw[if_neg (by decide),if_pos U,if_pos g]
   rfl) h
 |.mr w n b,(h1,h2,h3,h4),cs,hts,l,o,h=>by
  let(P,K):=Lh h2 h3;have e:cR w (kc n ::(";":Str) ::(b.ws++l))=Z ([.s w,.i n],b.ws++l):=by
   unfold cR;rw[if_neg (by obtain h|h:=h1 <;> rw[h] <;> decide),if_pos h1]
   show(if dH (kc n)=O then(oq ";" ((";":Str) ::(b.ws++l))).map (λz=>Prod.mk [L2.T.s w,.i (intOf (kc n))] z.2)else Y)=_
   rw[if_pos P,K];rfl
  refine .on (s':=(cs,hts ++ [[.s w,.i n]],b.ws++l)) ?_ (sL h4 (by rw[nJ];exact h))
  show(if w="case" then _ else if w="give" then _ else match cR w (kc n ::(";":Str) ::(b.ws++l))with|some (h,l2)=>Stp.on (cs,hts ++ [h],l2)|none=>.bad)=_
  rw[if_neg (by obtain h|h:=h1 <;> rw[h] <;> decide),if_neg (by obtain h|h:=h1 <;> rw[h] <;> decide),e]
 |.nam x y b,(h1,h2,h3),cs,hts,l,o,h=>by
  have e:cR "let" (x :: "name" :: y ::(";":Str) ::(b.ws++l))=Z ([.s "name",.s x,.s y],b.ws++l):=by
   unfold cR;rw[if_pos rfl];show(if ao x=O then if("name":Str)="make" \/ ("name":Str)="call" \/ ("name":Str)="name" then if ao y=O then if("name":Str)="name" then _ else _ else Y else Y else Y)=_
   rw[if_pos h1,if_pos (.inr (.inr U)),if_pos h2,if_pos rfl];rfl
  refine .on (s':=(cs,hts ++ [[.s "name",.s x,.s y]],b.ws++l)) ?_ (sL h3 (by rw[nJ];exact h))
  show(if("let":Str)="case" then _ else if("let":Str)="give" then _ else match cR "let" (x :: "name" :: y ::(";":Str) ::(b.ws++l))with|some (h,l2)=>Stp.on (cs,hts ++ [h],l2)|none=>.bad)=_
  rw[if_neg (by decide),if_neg (by decide),e]
 |.mk w x y ns b,(h1,h2,h3,h4,h5),cs,hts,l,o,h=>by
  have e:cR "let" (x::w::y ::(ns++(";":Str) ::(b.ws++l)))=Z ([.s w,.s x,.s y,.t (ns.map .s)],b.ws++l):=by
   unfold cR;rw[if_pos rfl];show(if ao x=O then if w="make" \/ w="call" \/ w="name" then if ao y=O then if w="name" then _ else(fNames ";" (ns++(";":Str) ::(b.ws++l))).map _ else Y else Y else Y)=_
   rw[if_pos h2,if_pos (by obtain h|h:=h1;exact .inl h;exact .inr (.inl h)),if_pos h3,if_neg (by obtain h|h:=h1 <;> rw[h] <;> decide),pI semi h4]
   rfl
  refine .on (s':=(cs,hts ++ [[.s w,.s x,.s y,.t (ns.map .s)]],b.ws++l)) ?_ (sL h5 (by rw[nJ];exact h))
  have q:(Bd.mk w x y ns b).ws++l=("let":Str)::x::w::y ::(ns++(";":Str) ::(b.ws++l)):=by
   show(("let":Str)::x::w::y ::(ns++(";":Str)::b.ws))++l=_
   simp
  rw[q];show(if("let":Str)="case" then _ else if("let":Str)="give" then _ else match cR "let" (x::w::y ::(ns++(";":Str) ::(b.ws++l)))with|some (h,l2)=>Stp.on (cs,hts ++ [h],l2)|none=>.bad)=_
  rw[if_neg (by decide),if_neg (by decide),e]
 |.cas x .nil,(_,h,_),_,_,_,_,_=>absurd U h
 |.cas x (.cons m ns b r),(h1,_,h2,h3,h4,h5),cs,hts,l,o,h=>by
  have q:(Bd.cas x (.cons m ns b r)).ws++l=("case":Str)::x::m ::(ns++(":":Str) ::(b.ws++(r.ws++("end":Str)::l))):=by
   show(("case":Str)::x ::(m ::(ns++(":":Str) ::(b.ws++r.ws)) ++ [("end":Str)]))++l=_
   simp
  refine .on (s':=((hts,x,[],[.s m,.t (ns.map .s)])::cs,[],b.ws++(r.ws++("end":Str)::l))) ?_ (sL h4 (JZ h5 h));rw[q];show(if("case":Str)="case" then if ao x=O then match lP (m ::(ns++(":":Str) ::(b.ws++(r.ws++("end":Str)::l))))with|some (ah,l2)=>Stp.on ((hts,x,[],ah)::cs,[],l2)|none=>.bad else .bad else _)=_
  rw[if_pos U,if_pos h1,CC h2 h3]
theorem JZ:∀{r:Ar},r.ok->∀{c:Oc}{cs:List Oc}{u:L2.T}{l:List Str}{o:Option (L2.T×List Str)},After cs (dg c.hts (.t [.s "case",.s c.lk,.t (c.arms ++ .t (c.ah ++ [u])::r.ts)])) l o->After (c::cs) u (r.ws++("end":Str)::l) o
 |.nil,_,c,cs,u,l,o,h=>by
  have e:bz (c::cs) u ((Ar.nil).ws++("end":Str)::l)=bz cs (c.fed u).whole l:=by
   show(if("end":Str)="|" then _ else if("end":Str)="end" then bz cs (c.fed u).whole l else .bad)=_
   rw[if_neg (by decide),if_pos rfl]
  unfold After;rw[e];exact h
 |.cons m ns b r,(h1,h2,h3,h4),c,cs,u,l,o,h=>by
  have g:(Ar.cons m ns b r).ws++("end":Str)::l=("|":Str)::m ::(ns++(":":Str) ::(b.ws++(r.ws++("end":Str)::l))):=by
   show(("|":Str)::m ::(ns++(":":Str) ::(b.ws++r.ws)))++("end":Str)::l=_
   simp
  have e:bz (c::cs) u ((Ar.cons m ns b r).ws++("end":Str)::l)=.on ({c.fed u with ah:=[.s m,.t (ns.map .s)]}::cs) (b.ws++(r.ws++("end":Str)::l)):=by
   rw[g];show(if("|":Str)="|" then match lP (m ::(ns++(":":Str) ::(b.ws++(r.ws++("end":Str)::l))))with|some (ah,l2)=>Res.on ({c.fed u with ah:=ah}::cs) l2|none=>.bad else _)=_
   rw[if_pos U,CC h1 h2]
  unfold After;rw[e];refine sL h3 (JZ h4 ?_);have q:(c.arms ++ [L2.T.t (c.ah ++ [u])])++L2.T.t ([L2.T.s m,.t (ns.map .s)] ++ [b.t])::r.ts=c.arms++L2.T.t (c.ah ++ [u]) ::(Ar.cons m ns b r).ts:=by
   show _=c.arms++L2.T.t (c.ah ++ [u]) ::(.t [.s m,.t (ns.map .s),b.t]::r.ts);simp
  show After cs (dg c.hts (.t [.s "case",.s c.lk,.t ((c.arms ++ [L2.T.t (c.ah ++ [u])])++L2.T.t ([L2.T.s m,.t (ns.map .s)] ++ [b.t])::r.ts)])) l o
  rw[q];exact h
end
theorem Hy(h:b.ok):Run ([],[],b.ws) (Z (b.t,[])):=by
 have:=sL h (cs:=[]) (hts:=[]) (l:=[]) U
 rw[qp]at this;exact this
theorem uf{v:Str}{l:List Str}:∀{ps:List (Str×Str)},(∀p∈ps,ao p.1=O/\ao p.2=O)->fParams (pws ps++("to":Str)::v::l)=Z (ps,v::l)
 |[],_=>by show fParams (("to")::v::l)=_;rw[fParams,if_pos rfl]
 |p::r,h=>by
  have hp:=h p di;have e:pws (p::r)++("to":Str)::v::l=p.1::p.2 ::(pws r++("to":Str)::v::l):=rfl;rw[e,fParams,if_neg (λe=>by have:=hp.1;rw[e]at this;exact absurd this (by decide +kernel)),if_pos hp.1,if_pos hp.2,uf λq g=>h q (aJ _ g)]
  rfl
theorem IB(h:me z):fHd (fws z.1 z.2)=Z (z.1,z.2.ws):=by
 show(if("def")="def" then if ao z.1.nm=O then match fParams (pws z.1.ps++("to":Str)::z.1.kd :: ":" :: z.2.ws)with|some (ps,l2)=>(if ao (hd l2)=O then if hd l2.tail=":" then Z (Prod.mk ((z.1.nm,ps,hd l2):Fh) l2.tail.tail)else Y else Y)|none=>Y else Y else Y)=_
 rw[if_pos h.n,uf h.p];show(if ao z.1.kd=O then if(":")=":" then _ else Y else Y)=_
 rw[if_pos h.k];rfl
theorem LX(h:me z):oA (fws z.1 z.2) (Z (fT z)):=.ok (IB h) (Hy h.b)
theorem uq{l:List Str}(hl:l=[]\/∃r,l=("|":Str)::r):∀{ns:List Str},(∀m∈ns,ao m=O)->bN (ns++l)=Z (ns,l)
 |[],_=>by
  obtain rfl |⟨r,rfl⟩:=hl
  ·rfl
  ·show bN (("|")::r)=_;rw[bN,if_pos rfl]
 |n::r,h=>by
  have hn:=h n di;show bN (n ::(r++l))=_;rw[bN,if_neg (λe=>by rw[e]at hn;exact absurd hn (by decide +kernel)),if_pos hn,uq hl λm hm=>h m (aJ _ hm)]
  rfl
def mw(m:Mk1):List Str:=m.1::m.2
def UM(m:Mk1):Prop:=ao m.1=O/\m.2.length<=700/\∀f∈m.2,ao f=O
theorem we{m:Mk1}(hm:UM m)(hl:l=[]\/∃r,l=("|":Str)::r):iy (mw m++l)=Z (m,l):=by
 show(if ao m.1=O then(bN (m.2++l)).map (λz=>Prod.mk (Prod.mk m.1 z.1) z.2)else Y)=_
 rw[if_pos hm.1,uq hl hm.2.2];rfl
theorem uh:∀{ms:List Mk1}{m:Mk1}{k:Nat},UM m->(∀m∈ms,UM m)->ms.length<k->bM k (mw m++ms.flatMap λm=>("|":Str)::mw m)=Z (m::ms)
 |[],m,k+1,hm,_,_=>by
  rw[bM,List.flatMap_nil,we hm (.inl U)];rfl
 |n::r,m,k+1,hm,hr,q=>by
  rw[bM,YR,Ze,we hm (.inr (_,U))];show(if ϊ=O then _ else if("|")="|" then(bM k (mw n++r.flatMap λm=>("|":Str)::mw m)).map (m :: ·)else Y)=_
  rw[uh (hr n di) (λy g=>hr y (aJ _ g)) (by rw[mD]at q;lia)]
  rfl
theorem vj{k:Kd}(h:k.2 ≠ []):i7 k=Txt.join " " (kws k):=by
 let(x,ms):=k;cases ms with
 |nil=>exact absurd U h
 |cons m ms =>
  have e:kws (x,m::ms)=("kind":Str)::x ::(mw m++ms.flatMap λm=>("|":Str)::mw m):=rfl
  rw[e,eY (xR _ _),eY (by simp[mw]),Ez (f:=mw) (λz=>xR _ _)]
  unfold i7;rw[show("kind ":Str)="kind" ++ " " from by decide +kernel]
  simp only[assoc];rfl
theorem Gk(ms:List Mk1):ms.length <=(ms.flatMap λm=>("|":Str)::mw m).length:=by
 induction ms with
 |nil=>exact qd _
 |cons m r g=>rw[YR,oa,mD,mD];lia
theorem Il{k:Kd}(h:x6 k):iX (kws k)=Z (k,[]):=by
 let(x,ms):=k;cases ms with
 |nil=>exact absurd U h.ne
 |cons m ms =>
  have hm:=h.m;have hx:=h.n;have hlen:=Gk ms;show(if ao x=O then(bM ((kws (x,m::ms)).length+1) (mw m++ms.flatMap λm=>("|":Str)::mw m)).map (λms=>Prod.mk (Prod.mk x ms) ([]:List Str))else Y)=_
  rw[if_pos hx,uh (hm m di) (λy g=>hm y (aJ _ g)) (by
   have e:kws (x,m::ms)=("kind":Str)::x ::(mw m++ms.flatMap λm=>("|":Str)::mw m):=rfl
   rw[e,mD,mD,oa];lia)]
  rfl
def Cl(ws:List Str):Prop:=∀w∈ws,∀c∈w.cps.toList,33<=c/\c<=126
theorem Cl.cons{w:Str}{ws:List Str}(h:∀c∈w.cps.toList,33<=c/\c<=126)(hr:Cl ws):Cl (w::ws):=λx hx=>(fH.mp hx).elim (λz=>z▸h) (hr x)
theorem Cl.app{a b:List Str}(ha:Cl a)(g:Cl b):Cl (a++b):=λx hx=>(lS.mp hx).elim (ha x) (g x)
theorem Cl.nil:Cl []:=λ_ h=>nomatch h
theorem Ii:∀c∈fO.cps.toList,33<=c/\c<=126:=by decide +kernel
theorem dY(h:ao x=O):∀c∈x.cps.toList,33<=c/\c<=126:=λc g=>by
 unfold ao ofB at h;simp only[tY]at h;exact Ii c (vb (AE.mp h.1.2.2 c g))
theorem Pr(h:dH x=O):∀c∈x.cps.toList,33<=c/\c<=126:=λc g=>by
 unfold dH ofB at h;simp only[tY]at h
 have:=tE c (vb (AE.mp h.1.2.2 c g))
 lia
theorem Cl.nm(h:∀m∈ns,ao m=O):Cl ns:=λx hx=>dY (h x hx)
theorem Cl.tail{a:List Str}(h:Cl a):Cl a.tail:=λx hx=>h x (Z7 hx)
mutual
theorem Bd.cl:∀{b:Bd},b.ok->Cl b.ws
 |.give x,h=>.cons (by decide +kernel) (.cons (dY h) .nil)
 |.mr w n b,(h1,h2,h3,h4)=>.cons (by obtain h|h:=h1 <;> rw[h] <;> decide +kernel) (.cons (Pr (Lh h2 h3).1) (.cons (by decide +kernel) (Bd.cl h4)))
 |.nam x y b,(h1,h2,h3)=>.cons (by decide +kernel) (.cons (dY h1) (.cons (by decide +kernel) (.cons (dY h2) (.cons (by decide +kernel) (Bd.cl h3)))))
 |.mk w x y ns b,(h1,h2,h3,h4,h5)=>.cons (by decide +kernel) (.cons (dY h2) (.cons (by obtain h|h:=h1 <;> rw[h] <;> decide +kernel) (.cons (dY h3) (.app (.nm h4) (.cons (by decide +kernel) (Bd.cl h5))))))
 |.cas x as,(h1,_,h3)=>.cons (by decide +kernel) (.cons (dY h1) (.app (Ar.cl h3).tail (.cons (by decide +kernel) .nil)))
theorem Ar.cl:∀{as:Ar},as.ok->Cl as.ws
 |.nil,_=>.nil
 |.cons m ns b r,(h1,h2,h3,h4)=>.cons (by decide +kernel) (.cons (dY h1) (.app (.nm h2) (.cons (by decide +kernel) (.app (Bd.cl h3) (Ar.cl h4)))))
end
theorem Se{ps:List (Str×Str)}(h:∀p∈ps,ao p.1=O/\ao p.2=O):Cl (pws ps):=λx hx=>by
 let(p,hp,hx):=YY.mp hx;obtain z|z:=fH.mp hx
 ·rw[z];exact dY (h p hp).1
 ·rw[aB.mp z];exact dY (h p hp).2
theorem EF(h:me z):Cl (fws z.1 z.2):=.cons (by decide +kernel) (.cons (dY h.n) (.app (Se h.p) (.cons (by decide +kernel) (.cons (dY h.k) (.cons (by decide +kernel) (Bd.cl h.b))))))
theorem Eu{k:Kd}(h:x6 k):Cl (kws k):=.cons (by decide +kernel) (.cons (dY h.n) (Cl.tail λx hx=>by
 let(m,hm,hx):=YY.mp hx;exact(Cl.cons (by decide +kernel) (.cons (dY (h.m m hm).1) (.nm (h.m m hm).2.2))) x hx))
theorem Va:(" ":Str)=⟨#[32]⟩:=by decide +kernel
theorem Wf:("\n":Str)=⟨#[10]⟩:=by decide +kernel
theorem p9{ws:List Str}(g:ws ≠ [])(h:Cl ws):Txt.split (Txt.join " " ws) " "=ws:=by
 exact oX g λp hp z=>absurd (h p hp 32 z).1 (by decide)
theorem z5{ws:List Str}(h:Cl ws):10 ∉ (Txt.join " " ws).cps.toList:=by
 rw[qY,Va]
 induction ws with
 |nil=>decide +kernel
 |cons w r g =>
  cases r with
  |nil=>exact λz=>absurd (h w di 10 z).1 (by decide)
  |cons v r =>
   rw[kI];intro z;obtain z|z:=lS.mp z
   ·exact absurd (h w di 10 z).1 (by decide)
   ·obtain z|z:=fH.mp z
    ·exact absurd z (by decide)
    ·exact g (λx hx=>h x (aJ _ hx)) z
theorem RL{fs:List (Fh×Bd)}(hf:∀z∈fs,me z):∀{gs:List (Fh×Bd)}{n:Nat}{ks:List Kd},dQ n ks (gs.map fT) (fs.map ke) (.inl (pT ks (gs++fs))):=by
 induction fs with
 |nil=>intro gs n ks;rw[qp];exact .nil
 |cons z r q =>
  intro gs n ks;have g:=hf z di;have es:Txt.split (ke z) " "=fws z.1 z.2:=p9 (xR _ _) (EF g);refine .fn (λh=>?_) (by rw[es];exact LX g) ?_
  ·have h:=h.1;rw[es]at h;exact absurd h (by show ¬("def":Str)="kind";decide)
  ·have:=q (λy K=>hf y (aJ _ K)) (gs:=gs ++ [z]) (n:=n+1) (ks:=ks)
   rw[u9,AI]at this;exact this
theorem Bc{fs:List (Fh×Bd)}(hf:∀z∈fs,me z):∀{ks gs:List Kd}{n:Nat},(∀k∈ks,x6 k)->dQ n gs [] (ks.map i7++fs.map ke) (.inl (pT (gs++ks) fs))
 |[],gs,n,_=>by rw[qp];exact RL hf (gs:=[])
 |k::r,gs,n,h=>by
  have g:=h k di;have es:Txt.split (i7 k) " "=kws k:=by rw[vj g.ne];exact p9 (xR _ _) (Eu g)
  have:=Bc hf (gs:=gs ++ [k]) (n:=n+1) λy q=>h y (aJ _ q)
  rw[AI]at this;exact .kind (by rw[es];rfl) (by rw[es];exact Il g) this
theorem NG{fs:List (Fh×Bd)}(h:CN ks fs):rowsOf (Txt.join "\n" (ks.map i7++fs.map ke))=ks.map i7++fs.map ke:=by
 have hr:∀r∈ks.map i7++fs.map ke,10 ∉ r.cps.toList/\1<=r.length:=λr hr=>by
  obtain z|z:=lS.mp hr
  ·let(k,g,U):=Jf.mp z;have ok:=h.k k g;rw[vj ok.ne];refine(z5 (Eu ok),?_)
   have:=join_le (c:=32) (ws:=kws k) di
   rw[qY];exact u6 (by decide +kernel) this
  ·let(f,hf,U):=Jf.mp z;refine(z5 (EF (h.f f hf)),?_)
   have:=join_le (c:=32) (ws:=fws f.1 f.2) di
   show 1 <=(Txt.join " " (fws f.1 f.2)).length;rw[qY];exact u6 (by decide +kernel) this
 generalize ks.map i7++fs.map ke=rows at hr ⊢
 unfold rowsOf;cases rows with
 |nil=>rw[if_pos (by decide +kernel)]
 |cons r rs =>
  have h1:=(hr r di).2;have h2:=join_le (c:=10) (ws:=r::rs) di;have h3:Txt.join "\n" (r::rs) ≠ "":=λe=>by
   rw[qY,Wf]at e;rw[e]at h2
   have:(Str.ofString "").length=0:=by decide +kernel
   lia
  rw[if_neg h3];exact oX (xR _ _) λp hp=>(hr p hp).1
theorem Dm{fs:List (Fh×Bd)}(h:CN ks fs):dQ 0 [] [] (rowsOf (Txt.join "\n" (ks.map i7++fs.map ke))) (.inl (pT ks fs)):=by
 rw[NG h];exact Bc h.f h.k
theorem vQ:∀ws:List Str,L2.T.zA (ws.map .s)=O
 |[]=>rfl
 |w::r=>by show(O&&L2.T.zA (r.map .s))=O;rw[vQ r];rfl
def tw(ks:List Kd)(fs:List (Fh×Bd)):Nat:=(ks.map λk=>(kws k).length).sum+(fs.map λz=>(fws z.1 z.2).length).sum
def SH:CO:=λts Q _=>ts=[.jy]/\∀ks fs,CN ks fs->(∀z∈fs,z.2.cd<=39)->ks.length<=3->fs.length<=5->tw ks fs<=640->Q (pT ks fs)
theorem ON(T:Txt K mg a):aS P w K mg base (CX1 P w) 60 a.wH a.EM [WF] (A2 K SH):=by
 have a6:=kg (@iC P w K mg base a T);refine T.MY.F.V6 gN (λts Q W h=>?_) (λ_ _ _ _ _ _ hr=>?_)
 ·let(U,_):=h;rfl
 ·have hu:=b9 hr;refine(_,_,((aj (bf (aH 1 gN.nd (FP (aQ (Ge T) hr T.Fb (ae (qv 0) ax)))))
 (aj (bf (aH 2 gN.nd (aQ a6 hr T.bo (ae (qv 0) (ae af ax)))))
 (aj (bf (zq (i:=3) gN.nd U (Or.inl U) U (nP U T.iJ (ae (ZB (aQ a6 hr T.bo (ae (qv 0) (ae af ax)))) ax)) (N':=[Tu,WF,W1]) (.own U (.got (i:=0) U U (.inl U) (.got (i:=1) U U (.inl U) .nil))) (ka (g:=(Tg.nm 0)) (λ_ _ _ _ _=>((uO 0),(aQ (OM T) hr T.MX (ae (qv 1) (ae (qv 2) ax))))))))
 (aj (bf (aH 4 gN.nd (aZ aF)))
 (aj (bf (aH 5 gN.nd (aZ (ai (gc (aZ (ai bT (ai bT (ai bT aF)))) (ZB (aQ a6 hr T.bo (ae (qv 0) (ae af ax))))) aF))))
 (aj (bf (aH 6 gN.nd (cI (fD hu U) cX (a8 _) (ZB (aQ a6 hr T.bo (ae (qv 0) (ae af ax)))) af)))
 (aj (zp (g:=(Tg.nm 7)) PassesOwn.leaving U (jh U T.iJ (ae (ZB (aQ a6 hr T.bo (ae (qv 0) (ae (ZB (gc (aZ (ai bT (ai bT aF))) (ZB (aU dI gL (by rfl) T.kM (by kernel_rfl) (ae (ZB (cI (fD hu U) cX (a8 _) (qv 2) af)) ax))))) ax)))) ax)) (kb 7 gN.nd)
 (aj (bf (aH 8 gN.nd (aZ aF)))
 (aj (bf (j9 (g:=(Tg.nm 9)) PassesOwn.leaving U (jh U T.iJ (ae (ZB (aQ a6 hr T.bo (ae (qv 0) (ae (ZB (gc (aZ (ai bT (ai bT aF))) (ZB (aQ a6 hr T.bo (ae (qv 0) (ae af ax)))))) ax)))) ax)) (kb 9 gN.nd)
 (ar (ig (i:=8) (pv 8) (bt (ai (aQ (vX T) hr T.kP (ae (qv 0) (ae (qv 1) ax))) (ai (aQ (vX T) hr T.kP (ae (qv 0) (ae (qv 1) ax))) aF)))))))
 (aj (cZ (i:=10) gN.nd (mW (i:=5) (j:=2) (OP T 40) hr.aW U T.gi.m T.gi.F.kp T.gi.b (iB (qv 0) (iB (qv 1) (qG (i:=5) (pv 5) (ae af (ae (qv 6) ax)))))))
 (aK (bf (ig (i:=4) (pv 4) (bt (ai (aQ (vX T) hr T.kP (ae (qv 0) (ae (qv 1) ax))) (ai (aU (cE U) cB (by rfl) T.fS (by kernel_rfl) (ae (qv 8) ax)) (ai (aQ (vX T) hr T.kP (ae (qv 0) (ae (qv 1) ax))) (ai (XL (qv 10)) aF))))))))))))
 (aK (bf (aM (bt (ai (aU (cE U) cB (by rfl) T.fS (by kernel_rfl) (ae (qv 3) ax)) (ai (aU (cE U) cB (by rfl) T.fS (by kernel_rfl) (ae (qv 4) ax)) aF)))))))))))))),λts Q W h=>?_)
  let(U,hq):=h;refine(U,λws w1 w2 hw=>(vQ ws,by decide,by decide,λg g0 g1=>?_))
  refine(by decide,by decide,λn n0 n1=>(by lia,by lia,bq (by rw[fL];lia),λi ys=>∃ks:List Kd,ys=ks.map tK/\ks.length=i/\∀k∈ks,x6 k/\(kws k).length<=32,([],U,U,λ_ z=>nomatch z),?_,?_))
  ·rintro i x ys hx ⟨ks,rfl,hc,hk⟩
   let(U,hi):=mS hx;refine(_,U,ws,U,w1,w2,hw,λk V aV=>(ks ++ [k],by simp,by simp[hc],λz hz=>?_))
   obtain z|z:=lS.mp hz
   ·exact hk _ z
   ·rw[aB.mp z];exact(V,aV)
  rintro ys ⟨ks,rfl,aL,hk⟩
  rw[fL]at aL;refine(by decide,by decide,λc c0 c1=>?_)
  obtain⟨r,er,r0,r1⟩:∃m:Int,atI [L2.T.i 14,.i 14,.i 40] c=Z (.i m)/\1<=m/\m<=40:=by
   obtain rfl|rfl|rfl:=(by lia:c=0\/c=1\/c=2)
   ·exact(14,U,by decide,by decide)
   ·exact(14,U,by decide,by decide)
   ·exact(40,U,by decide,by decide)
  refine(_,er,by decide,by decide,λlg l0 l1=>(U,?_))
  generalize decide ((L2.T.i lg).v=(L2.T.i 1).v)=ak
  let(m,em,m1):=pick (x:=4) (y:=6) (decide ((L2.T.i g).v=(L2.T.i 2).v));refine(U,_,em,by lia,by lia,λn2 a7 a5=>(by lia,by lia,λi q=>(Ea6 λ(o7 o8 o9 ah:Sl)(fs:List (Fh×Bd))(rr:Int)=>q=[.r .jy,.o (.zl (ws.map .s)),.o (.i g),.o (.l (ks.map tK)),.o (.l (fs.map fT)),.o (.l [.i rr]),.o (.b ak),o7,o8,o9,ah]/\fs.length=i/\(∀z∈fs,me z/\z.2.cd<=39) /\ -6<=rr/\rr<=48/\((fs.map λz=>(fws z.1 z.2).length).sum:Int)<=16*i+10*(r - rr)),(_,_,_,_,[],r,U,U,(λ_ z=>nomatch z),by lia,by lia,by show(0:Int)<=_;lia),?_,?_))
  ·rintro i k q hk ⟨o7,o8,o9,ah,fs,rr,rfl,hc,hf,av,aq,O7⟩
   let(U,hi):=mS hk;refine(_,U,by decide,by decide,λe e0 e1=>?_)
   obtain⟨m2,a0,m3⟩:∃m:Int,atI [L2.T.i 3,.i 5] e=Z (.i m)/\(m=3\/m=5):=by
    obtain rfl|rfl:=(by lia:e=0\/e=1)
    ·exact(3,U,.inl U)
    ·exact(5,U,.inr U)
   refine(_,a0,by lia,by lia,λn3 a4 a3=>(by lia,by lia,λj q=>(M2 λ(o9:Sl)(ps:List (Str×Str))=>q=[.r .jy,.o (.zl (ws.map .s)),.o (.i g),.o (.l (ks.map tK)),.o (.l (fs.map fT)),.o (.l [.i rr]),.o (.b ak),.r (.i (0+(i:Int))),.o (.l (ps.map λp=>.t [.s p.1,.s p.2])),o9,ah]/\ps.length=j/\∀p∈ps,ao p.1=O/\ao p.2=O),(_,[],U,U,(λ_ z=>nomatch z)),?_,?_))
   ·rintro j k q hk ⟨o9,ps,rfl,hc,hp⟩
    let(U,hj):=mS hk;refine(_,U,bq (by rw[gV];lia),ws,U,w1,w2,hw,λx hx=>(ws,U,w1,w2,hw,λz hz=>(_,ps ++ [(x,z)],by rw[u9];rfl,by simp[hc],λp aG=>?_)))
    obtain u|u:=lS.mp aG
    ·exact hp p u
    ·rw[aB.mp u];exact(hx,hz)
   rintro q ⟨o9,ps,rfl,aD,hp⟩
   rw[fL]at aD;refine(_,U,U,U,U,λy=>(ws,y,rr,1,ak,U,w1,w2,hw,av,aq,by decide,by decide,by decide,λb r' hb bj s0 s1 bb=>(b.im,?_)))
   refine(bq (by rw[gV];lia),ws,U,w1,w2,hw,λx hx=>(wz ps,ws,U,w1,w2,hw,λz hz=>(b.im,_,_,_,_,fs ++ [((x,ps,z),b)],r',by rw[u9];rfl,by simp[hc],λu hu=>?_,s0,by lia,?_)))
   rotate_left
   ·have h1:=b.wl;have h2:=qI ps;have h3:(fws (x,ps,z) b).length=(pws ps).length+5+b.ws.length:=by show(pws ps++("to":Str)::z :: ":" :: b.ws).length+2=_;rw[oa];show _+(b.ws.length+3)+2=_;lia
    rw[u9,Y4];show(((fs.map λz=>(fws z.1 z.2).length).sum+((fws (x,ps,z) b).length+0):Nat):Int)<=16*((i+1:Nat):Int)+_
    lia
   obtain v|v:=lS.mp hu
   ·exact hf u v
   ·rw[aB.mp v];exact((hx,hz,by show ps.length<=700;lia,hp,hb,by show b.wt<=2000;lia),by show b.cd<=39;lia)
  ·rintro q ⟨o7,o8,o9,ah,fs,rr,rfl,hc,hf,av,aq,O7⟩
   rw[fL]at hc O7;have bc:=fk (f:=λk=>(kws k).length) (n:=32) (xs:=ks) λk V=>(hk k V).2
   exact(ff B9 ks,ff QN fs,hq ks fs (λk V=>(hk k V).1,λz hz=>(hf z hz).1,by lia,by lia) (λz hz=>(hf z hz).2) (by lia) (by lia) (by unfold tw;lia))
def Sn:PSp:=λts Q=>M2 λ(ws:List Str)(n:Nat)=>ts=[.l (ws.map .s),.i n]/\ws.length<=900000/\n<=900010/\Q (.s (hd (ws.drop n)))
theorem nR(T:Txt K mg a):aS P w K mg base CX0 1 a.Ab a.Mi [WP,Th] (spQ K Sn):=by
 refine T.cL.F.okQ NA (λts Q h=>?_) (λ_ _ _ _ _ _ hr=>?_)
 ·let(_,_,U,_):=h;rfl
 ·refine(_,_,((ar (aM (XL (bw (ZB (az (qv 0) (ZB (aZ (dq (by rfl)))))) (ZB (gj (IT U) JO (by rfl) T.W8 (by kernel_rfl) (ae (qv 1) (ae (ZB (eV T.gU (ae (qv 0) ax))) ax))))))))),λts Q h=>?_)
  let(ws,n,U,hl,hn,g):=h;refine(xj (aR (by rw[gV];show ws.length+1<=_;lia)),a9 ws,U,.s (hd (ws.drop n)),?_,U,g)
  have e:((if((ws.map L2.T.s).length:Int)<(n:Int)then((ws.map L2.T.s).length:Int)else(n:Int)):Int)=((min n ws.length:Nat)):=by
   rw[gV]
   split <;> lia
  show atI (ws.map L2.T.s ++ [L2.T.s ""]) (if((ws.map L2.T.s).length:Int)<(n:Int)then((ws.map L2.T.s).length:Int)else(n))=_
  rw[e];refine jd ?_;rw[show ws.map L2.T.s ++ [L2.T.s ""]=(ws ++ [("":Str)]).map L2.T.s by simp,ti]
  by_cases h:n<ws.length
  ·rw[Z0 (by lia),CS h,rZ h,UO h];rfl
  ·rw[ZL (by lia),CP (qd _),ZW,MK (by lia)];rfl
theorem oJ{ws:List Str}{k:Nat}(h:∀w∈ws,w.length<=k)(m:Nat):(hd (ws.drop m)).length<=k:=by
 cases e:ws.drop m with
 |nil=>exact Fs _
 |cons w r=>exact h w (GS (by rw[e];exact di))
theorem gu(T:Txt K mg a):aS P w K mg base CX0 2 a.gS a.ni [WP,Th] (spQ K KY):=by
 refine T.fJ.F.okQ lW (λts Q h=>?_) (λ_ _ _ _ _ _ hr=>?_)
 ·let(_,_,U,_):=h;rfl
 ·refine(_,_,((ag (mT PassesOwn.never (bp (ZB (aQ (dX T) hr T.cf (ae (ZB (aQ (nR T) hr T.cL (ae (qv 0) (ae (qv 1) ax)))) ax))))
 (ar (aH 1 lW.nd (az (qv 1) af))))
 (ar (aM (XL (qv 1)))))),λts Q h=>?_)
  let(ws,n,U,hl,hn,g,hq):=h;have V:=λm=>oJ g m
  refine(λc q=>M2 λ(o:Sl)(m:Nat)=>q=[.r (.l (ws.map .s)),o]/\(o=.r (.i m)\/o=.o (.i m))/\n+nN (ws.drop n)=m+nN (ws.drop m)/\c=ws.length+n - m/\m<=900009/\n<=m,(_,_,n,U,.inl U,U,U,hn,qd _),?_)
  rintro c q ⟨o,m,rfl,ho,he,rfl,hm,ah⟩
  obtain rfl|rfl:=ho
  all_goals
   refine(ws,m,U,hl,by lia,_,U,V m,aY (λh=>?_) (λh=>?_))
   ·have ak:m<ws.length:=by
     apply Classical.byContradiction
     intro z;rw[MK (by lia)]at h
     exact absurd h (by decide +kernel)
    let(e1,_):=m5 h;rw[CQ]at e1;exact(λq=>∃c,c<_/\_,λq h=>h,_,by lia,_,m+1,U,.inr U,by lia,U,by lia,by lia)
   ·let(e1,_):=tj h;rw[e1]at he;rw[he]at hq;exact(U,hq)
theorem xG(T:Txt K mg a):aS P w K mg base CX0 1 a.i9 a.rE [Tl] (spQ K yo):=by
 refine T.sk.F.okQ xA (λts Q h=>?_) (λ_ _ _ _ _ _ hr=>?_)
 ·let(_,U,_):=h;rfl
 ·have hu:=b9 hr;refine(_,_,((ag (bx (QPW.pt (kB (oE (ZB (eV T.gU (ae (qv 0) ax))) af) (kB (Bh (ZB (eV T.gU (ae (qv 0) ax))) af) (k9 (cY hu (bw (qv 0) af) (ZB ay))))))
 (ar (aM iK))
 aN)
 (ar (aM (gj (tP U U) zi (by rfl) T.MD (by kernel_rfl) (ae (ZB (lh U (DR (qv 0)) (N':=["_law_sign"]) (.own U .nil) (ka (g:=(Tg.nm 0)) (λ_ _ _ _ _=>((uO 0),(cI (pF U) jW U (qv 0) (ZB ay))))))) ax)))))),λts Q h=>?_)
  let(x,U,hx,q):=h;have lx:x.length<=px:=xj (aR (by lia))
  unfold dH ofB at q;refine(lx,aY (λh1=>?_) (λh1=>?_))
  ·have h1:(x.length:Int)<1:=of_decide_eq_true h1;rw[decide_eq_false (show ¬ 1 <=(x.length:Int)by lia)]at q
   exact q
  rw[decide_eq_true (show 1 <=(x.length:Int)by lia),YT]at q
  refine(lx,aY (λh2=>?_) (λh2=>?_))
  ·have h2:7<(x.length:Int):=of_decide_eq_true h2;rw[decide_eq_false (show ¬(x.length:Int)<=7 by lia)]at q
   exact q
  rw[decide_eq_true (show(x.length:Int)<=7 by lia),YT]at q
  obtain⟨c,r,e⟩:∃c r,x.cps.toList=c::r:=by
   cases e:x.cps.toList with
   |nil=>have:x.length=0:=congrArg E7 e;lia
   |cons c r=>exact(c,r,U)
  have e2:(decide ((L2.T.s ⟨#[c]⟩).v=(L2.T.s "0").v))=decide (x.cps.toList.head?=Z 48):=by
   rw[e];exact decide_eq_decide.mpr (λh=>by
    have:=V.str.inj h
    have:=congrArg (λz:Str=>z.cps.toList) this
    cases this;rfl,λh=>by cases h;rfl)
  rw[<- e2]at q;refine(lx,c,by rw[e];exact jd (j:=0) U,U,aY (λh3=>?_) (λh3=>?_))
  ·rw[show decide ((L2.T.s ⟨#[c]⟩).v=(L2.T.s "0").v)=O from h3,Bool.not_true,Zl]at q;exact q
  rw[E3.mpr h3,Bool.not_false,Bool.and_true]at q;refine(by rw[n6];exact aR (by lia),λi ys=>ys=(x.cps.toList.take i).map λc=>.b (sgn nW c),U,λi z ys hz e=>?_,λys e=>?_)
  ·let(c,hc,U):=ER hz;subst e;refine(_,U,?_);show _ ++ [L2.T.b (sgn nW c)]=_;rw[E8,hc];simp
  ·subst e;rw[n6,show x.length=x.cps.toList.length from U,MJ];exact(_,lQ _ _,by rw[ZC];exact q)
theorem pk{x y:Int}(b:Bool):atI [L2.T.i x,.i y] (if b then 1 else 0)=Z (.i (if b then y else x)):=by cases b <;> rfl
theorem iY:decide ((L2.T.s x).v=(L2.T.s y).v)=decide (x=y):=decide_eq_decide.mpr (λh=>V.str.inj h,λh=>by rw[h])
theorem in2{w a b:Str}:inT (.s w) [.s a,.s b]=O ↔ w=a\/w=b:=by
 have:=wy (w:=w) (ws:=[a,b])
 rw[show inT (.s w) [.s a,.s b]=_ from this,vm];simp
theorem ma{ws:List Str}{k:Nat}(h:ws.drop k=l)(g:hd l ≠ ""):k<ws.length/\ws.drop (k+1)=l.tail:=by
 refine(?_,drop_tail h)
 apply Classical.byContradiction
 intro z;rw[MK (by lia)]at h
 rw[<- h]at g;exact g U
theorem nS(h:ao (hd l)=O):hd l ≠ "":=λz=>by rw[z]at h;exact absurd h (by decide +kernel)
def yC(l:List Str):Option (List Str):=(lP l).map (·.2)
theorem L4(l:List Str):yC l=if ao (hd l)=O then if hd (dN l)=":" then Z (dN l).tail else Y else none:=by
 unfold yC lP;by_cases h:ao (hd l)=O
 ·rw[if_pos h,if_pos h,tF (by decide +kernel) (by decide),(m5 h).2]
  split <;> rfl
 ·rw[if_neg h,if_neg h];rfl
theorem vi(ws:List Str)(n:Nat):ws.drop (n+nN (ws.drop n))=dN (ws.drop n):=by rw[<- List.drop_drop,Pn]
theorem oF(T:Txt K mg a):aS P w K mg base CX0 3 a.jc a.rH [WP,Th] (spQ K (P9 yC)):=by
 refine T.lV.F.okQ oC (λts Q h=>?_) (λ_ _ _ _ _ _ hr=>?_)
 ·let(_,_,U,_):=h;rfl
 ·have V:=b9 hr;refine(_,_,((ag (bx (fw (bp (ZB (aQ (dX T) hr T.cf (ae (ZB (aQ (nR T) hr T.cL (ae (qv 0) (ae (qv 1) ax)))) ax)))))
 (ar (aM (ij af)))
 aN)
 (ag (aH 1 oC.nd (aQ (gu T) hr T.fJ (ae (qv 0) (ae (qv 1) ax))))
 (ar (aM (gc (aZ (ai (ij af) (ai (az (qv 1) af) aF))) (ZB (aU dI gL (by rfl) T.kM (by kernel_rfl) (ae (ZB (cI (fD V U) cX (a8 _) (ZB (aQ (nR T) hr T.cL (ae (qv 0) (ae (qv 1) ax)))) (ZB ay))) ax))))))))),λts Q h=>?_)
  let(ws,n,U,hl,hn,g,q):=h;rw[L4]at q;refine(ws,n,U,hl,by lia,_,U,oJ g n,aY (λh=>?_) (λh=>?_))
  ·have h:¬ ao (hd (ws.drop n))=true:=by simpa using h
   rw[if_neg h]at q;exact q _ U
  have h:ao (hd (ws.drop n))=true:=by simpa using h
  have z:=Gf (ws.drop n);rw[xE]at z;have hd2:=vi ws n;rw[if_pos h]at q;refine(ws,n,U,hl,by lia,g,?_)
  refine(ws,n+nN (ws.drop n),U,hl,by lia,U,_,pk _,?_)
  rw[iY,hd2];refine q _ ?_;cases e:decide (hd (dN (ws.drop n))=":")with
  |false=>rw[if_neg (of_decide_eq_false e)];rfl
  |true =>
   have e:=of_decide_eq_true e;rw[if_pos e]
   have:=ma hd2 (by rw[e];decide)
   exact(n+nN (ws.drop n)+1,U,by lia,this.2)
def EJ(l:List Str):Option (List Str):=if hd l="case" then(if ao (hd l.tail)=O then yC l.tail.tail else Y)else(cR (hd l) l.tail).map (·.2)
theorem Cm(l:List Str):(lO l).map (·.2)=if ao (hd l)=O then if ao (hd l.tail.tail)=O then if hd l.tail="name" then(if hd l.tail.tail.tail=";" then Z l.tail.tail.tail.tail else Y)else if hd l.tail="make" \/ hd l.tail="call" then(if hd (dN l.tail.tail.tail)=";" then Z (dN l.tail.tail.tail).tail else Y)else Y else Y else none:=by
 unfold lO;by_cases h1:ao (hd l)=O
 ·rw[if_pos h1,if_pos h1];by_cases h3:ao (hd l.tail.tail)=O
  ·rw[if_pos h3,if_pos h3];by_cases h4:hd l.tail="name"
   ·rw[if_pos (.inr (.inr h4)),if_pos h4,if_pos h4];unfold oq
    split <;> rfl
   ·rw[if_neg h4,if_neg h4];by_cases h5:hd l.tail="make" \/ hd l.tail="call"
    ·rw[if_pos h5,if_pos (h5.elim .inl λz=>.inr (.inl z)),tF (by decide +kernel) (by decide)]
     split <;> rfl
    ·rw[if_neg h5,if_neg (λz=>z.elim (λz=>h5 (.inl z)) λz=>z.elim (λz=>h5 (.inr z)) h4)];rfl
  ·split <;> rfl
 ·rw[if_neg h1,if_neg h1];rfl
theorem vZ(T:Txt K mg a):aS P w K mg base CX0 4 a.iG a.oN [WP,Th] (spQ K (P9 EJ)):=by
 have bY:=@nR P w K mg base a T;refine T.oV.F.okQ fv (λts Q h=>?_) (λ_ _ _ _ _ _ hr=>?_)
 ·let(_,_,U,_):=h;rfl
 ·have hu:=b9 hr;refine(_,_,((ag (aH 2 fv.nd (aQ bY hr T.cL (ae (qv 0) (ae (qv 1) ax))))
 (ag (bx (bQ (pF U) jW U (qv 2) (ZB (bt (dq (by rfl)))))
 (ag (aH 3 fv.nd (vN (ZB (aQ (xG T) hr T.sk (ae (ZB (aQ bY hr T.cL (ae (qv 0) (ae (ZB (az (qv 1) af)) ax)))) ax))) (sO (cI (fD hu U) cX (a8 _) (ZB (aQ bY hr T.cL (ae (qv 0) (ae (ZB (az (qv 1) af)) ax)))) (ZB ay)))))
 (ar (aM (gc (aZ (ai (ij af) (ai (az (qv 1) af) aF))) (ZB (aU dI gL (by rfl) T.kM (by kernel_rfl) (ae (qv 3) ax)))))))
 aN)
 (ag (bx (fw (bp (ZB (aQ (dX T) hr T.cf (ae (ZB (aQ bY hr T.cL (ae (qv 0) (ae (ZB (az (qv 1) af)) ax)))) ax)))))
 (ar (aM (ij af)))
 aN)
 (ag (bx (cY hu (qv 2) (ZB ay))
 (ar (aM (aQ (oF T) hr T.lV (ae (qv 0) (ae (ZB (az (qv 1) af)) ax)))))
 aN)
 (ag (bx (QPW.pt (kB (bQ hV eT (a8 _) (qv 2) (ZB ay)) (k9 (fw (bp (ZB (aQ (dX T) hr T.cf (ae (ZB (aQ bY hr T.cL (ae (qv 0) (ae (ZB (az (qv 1) af)) ax)))) ax))))))))
 (ar (aM (ij af)))
 aN)
 (ag (aH 4 fv.nd (aQ bY hr T.cL (ae (qv 0) (ae (ZB (az (qv 1) af)) ax))))
 (ag (bx (cY hu (qv 4) (ZB ay))
 (ar (aM (gc (aZ (ai (ij af) (ai (az (qv 1) af) aF))) (ZB (aU dI gL (by rfl) T.kM (by kernel_rfl) (ae (ZB (cI (fD hu U) cX (a8 _) (ZB (aQ bY hr T.cL (ae (qv 0) (ae (ZB (az (qv 1) af)) ax)))) (ZB ay))) ax))))))
 aN)
 (ag (bx (bQ (sT U) jW U (qv 4) (ZB (bt (dq (by rfl)))))
 (ar (aM (ij af)))
 aN)
 (ag (aH 1 fv.nd (aQ (gu T) hr T.fJ (ae (qv 0) (ae (ZB (az (qv 1) af)) ax))))
 (ar (aM (gc (aZ (ai (ij af) (ai (az (qv 1) af) aF))) (ZB (aU dI gL (by rfl) T.kM (by kernel_rfl) (ae (ZB (cI (fD hu U) cX (a8 _) (ZB (aQ bY hr T.cL (ae (qv 0) (ae (qv 1) ax)))) (ZB ay))) ax)))))))))))))))),λts Q h=>?_)
  let(ws,n,U,hl,hn,q,g):=h;have d1:ws.drop (n+1)=(ws.drop n).tail:=(CQ ..).symm;have d2:ws.drop (n+2)=(ws.drop n).tail.tail:=by rw[<- d1,CQ]
  have d3:ws.drop (n+3)=(ws.drop n).tail.tail.tail:=by rw[<- d2,CQ]
  have d4:ws.drop (n+4)=(ws.drop n).tail.tail.tail.tail:=by rw[<- d3,CQ]
  have d5:ws.drop (n+5)=(ws.drop n).tail.tail.tail.tail.tail:=by rw[<- d4,CQ]
  unfold EJ at g;refine(ws,n,U,hl,by lia,U,aY (λh=>?_) (λh=>?_))
  ·have h:=in2.mp h;rw[if_neg (by obtain h|h:=h <;> rw[h] <;> decide)]at g
   unfold cR at g;rw[if_neg (by obtain h|h:=h <;> rw[h] <;> decide),if_pos h]at g
   have fin:∀b:Bool,b=(dH (hd (ws.drop n).tail)&&decide (hd (ws.drop n).tail.tail=";"))->Q (.i (if b then(n:Int)+3 else -1)):=λb V=>g _ (by
    cases b with
    |true =>
     have V:=V.symm;rw[tY,decide_eq_true_eq]at V;unfold oq;rw[if_pos V.1,if_pos V.2]
     have:=ma d2 (by rw[V.2];decide)
     exact(n+3,U,by lia,this.2)
    |false =>
     have V:=V.symm;rw[Bool.and_eq_false_iff]at V;unfold oq
     split
     ·rename_i h1;rw[if_neg (by obtain z|z:=V;rw[z]at h1;cases h1;exact of_decide_eq_false z)];rfl
     ·rfl)
   refine(ws,n+1,U,hl,by lia,_,U,u6 (oJ q _) (by decide),aY (λh1=>?_) (λh1=>?_))
   ·refine(ws,n+2,U,hl,by lia,U,?_)
    rw[iY];exact(_,pk _,fin _ (by rw[<- d2,<- d1,h1];rfl))
   ·exact(_,pk _,fin _ (by rw[<- d1,E3.mpr h1];rfl))
  have h:¬(hd (ws.drop n)="pay" \/ hd (ws.drop n)="get"):=λz=>h (in2.mpr z)
  refine(ws,n+1,U,hl,by lia,_,U,oJ q _,aY (λh1=>?_) (λh1=>?_))
  ·have h1:¬ ao (hd (ws.drop (n+1)))=true:=by simpa using h1
   rw[d1]at h1;refine g _ ?_;rw[if_neg h1];unfold cR;rw[if_neg h]
   split
   ·rfl
   ·split
    ·rw[Cm,if_neg h1];rfl
    ·rfl
  have h1:ao (hd (ws.drop (n+1)))=true:=by simpa using h1
  rw[d1]at h1;have ak:=(ma d1 (nS h1)).1;rw[if_pos h1]at g;refine(U,aY (λh2=>?_) (λh2=>?_))
  ·have h2:hd (ws.drop n)="case":=by rw[iY]at h2;exact of_decide_eq_true h2
   rw[if_pos h2,<- d2]at g;exact(ws,n+2,U,hl,by lia,q,g)
  have h2:¬ hd (ws.drop n)="case":=by rw[iY]at h2;exact λz=>h2 (decide_eq_true z)
  unfold cR at g;rw[if_neg h2,if_neg h]at g;refine(U,aY (λh3=>?_) (λh3=>?_))
  ·rw[if_neg (en h3)]at g;exact g _ U
  rw[if_pos (nh h3),Cm,if_pos h1,<- d3]at g;refine(ws,n+3,U,hl,by lia,_,U,oJ q _,aY (λh4=>?_) (λh4=>?_))
  ·have h4:¬ ao (hd (ws.drop (n+3)))=true:=by simpa using h4
   rw[if_neg h4]at g;exact g _ U
  have h4:ao (hd (ws.drop (n+3)))=true:=by simpa using h4
  rw[if_pos h4,d3,<- d4,<- d2]at g;refine(ws,n+2,U,hl,by lia,U,aY (λh5=>?_) (λh5=>?_))
  ·have h5:hd (ws.drop (n+2))="name":=by rw[iY]at h5;exact of_decide_eq_true h5
   rw[if_pos h5]at g;refine(ws,n+4,U,hl,by lia,U,_,pk _,?_)
   rw[iY];refine g _ ?_;cases e:decide (hd (ws.drop (n+4))=";")with
   |false=>rw[if_neg (of_decide_eq_false e)];rfl
   |true =>
    have e:=of_decide_eq_true e;rw[if_pos e]
    have:=ma (ws:=ws) U (by rw[e];decide)
    exact(n+5,U,by lia,this.2)
  have h5:¬ hd (ws.drop (n+2))="name":=by rw[iY]at h5;exact λz=>h5 (decide_eq_true z)
  rw[if_neg h5]at g;refine(U,aY (λh6=>?_) (λh6=>?_))
  ·have h6:¬(hd (ws.drop (n+2))="make" \/ hd (ws.drop (n+2))="call"):=λz=>by
    have h6:(!inT (.s (hd (ws.drop (n+2)))) [.s "make",.s "call"])=true:=h6;rw[in2.mpr z]at h6;cases h6
   rw[if_neg h6]at g;exact g _ U
  have h6:hd (ws.drop (n+2))="make" \/ hd (ws.drop (n+2))="call":=in2.mp (by
   cases e:inT (.s (hd (ws.drop (n+2)))) [.s "make",.s "call"]with
   |true=>rfl
   |false=>exact absurd (show(!inT (.s (hd (ws.drop (n+2)))) [.s "make",.s "call"])=O by rw[e];rfl) h6)
  rw[if_pos h6]at g;have YG:=(ma (ws:=ws) (k:=n+3) U (nS h4)).1;have hd2:=vi ws (n+4);have ah:=Gf (ws.drop (n+4));rw[xE]at ah;refine(ws,n+4,U,hl,by lia,q,?_)
  refine(ws,n+4+nN (ws.drop (n+4)),U,hl,by lia,U,_,pk _,?_)
  rw[iY,hd2];refine g _ ?_;cases e:decide (hd (dN (ws.drop (n+4)))=";")with
  |false=>rw[if_neg (of_decide_eq_false e)];rfl
  |true =>
   have e:=of_decide_eq_true e;rw[if_pos e]
   have:=ma hd2 (by rw[e];decide)
   exact(n+4+nN (ws.drop (n+4))+1,U,by lia,this.2)
inductive BI(ws:List Str)(s0:BS):Int->Nat->Nat->Prop
 |no{k:Nat}{z:Int}:z<0->Run s0 Y->BI ws s0 z k 0
 |at{m:Nat} {s:BS}:m<=ws.length->ws.drop m=s.l->(∀o,Run s o->Run s0 o)->BI ws s0 m s.cs.length (ws.length+1 - m)
theorem L3(h:EJ l=Z l2):l2.length<l.length:=by
 unfold EJ at h
 split at h
 ·split at h
  ·let(z,h1,U):=kf.mp h
   have:=(vq h1).1
   rw[xi,xi]at this;omega
  ·cases h
 ·let(z,h1,U):=kf.mp h
  have:=tG h1
  cases l with
  |nil=>exact absurd U this.1
  |cons w r=>exact Nat.lt_succ_of_le this.2
theorem JC(h:hd s.l ≠ "give"):match EJ s.l with
  |none=>fm s=.bad
  |some l2=>∃s',fm s=.on s'/\s'.l=l2/\(s'.cs.length:Int)=s.cs.length+(if decide (hd s.l="case")then 1 else 0):=by
 unfold EJ fm;by_cases h1:hd s.l="case"
 ·rw[if_pos h1,if_pos h1,decide_eq_true h1];by_cases h2:ao (hd s.l.tail)=O
  ·rw[if_pos h2,if_pos h2];unfold yC;cases e:lP s.l.tail.tail with
   |none=>rfl
   |some z=>exact(_,U,U,U)
  ·rw[if_neg h2,if_neg h2]
 ·rw[if_neg h1,if_neg h1,if_neg h,decide_eq_false h1];cases e:cR (hd s.l) s.l.tail with
  |none=>rfl
  |some z=>exact(_,U,U,(Int.add_zero _).symm)
theorem Rk{m:Nat}{A ό:Prop}(h:q[j]?=Z (.o (.i m))\/q[j]?=Z (.r (.i m)))(g:A):jE (qOp (qI0 λi j=>.b (decide (j<=i))) (mm j) (qC (.i 0))) q λb=>if b=O then A else ό:=by
 have e:(if decide ((0) <=(m))=O then A else ό):=by exact g
 unfold jE qOp mm;obtain h|h:=h <;> rw[h] <;> exact e
def Oo:PSp:=λts Q=>M2 λ(ws:List Str)(n:Nat)=>ts=[.l (ws.map .s),.i n]/\ws.length<=900000/\n<=ws.length/\(∀w∈ws,w.length<=900000)/\(Run ([],[],ws.drop n) Y->Q (.i (-1)))/\∀b l (m:Nat),Run ([],[],ws.drop n) (Z (b,l))->m<=ws.length->ws.drop m=l->Q (.i m)
theorem v5(T:Txt K mg a):aS P w K mg base CX0 5 a.iH a.oO [WP,Th] (spQ K Oo):=by
 refine T.oW.F.okQ b7 (λts Q h=>?_) (λ_ _ _ _ _ _ hr=>?_)
 ·let(_,_,U,_):=h;rfl
 ·have hu:=b9 hr;refine(_,_,((ag (aH 2 b7.nd bT)
 (ag (mT PassesOwn.never (Vs (qv 1) af)
 (ag (bx (bQ hV eT (a8 _) (ZB (aQ (nR T) hr T.cL (ae (qv 0) (ae (qv 1) ax)))) (ZB ay))
 (ag (aH 2 b7.nd (az (qv 2) (ZB (aU dI gL (by rfl) T.kM (by kernel_rfl) (ae (ZB (cI (fD hu U) cX (a8 _) (ZB (aQ (nR T) hr T.cL (ae (qv 0) (ae (qv 1) ax)))) (ZB ay))) ax)))))
 (ag (aH 1 b7.nd (aQ (vZ T) hr T.oV (ae (qv 0) (ae (qv 1) ax))))
 (ar Bj)))
 aN)
 (ag (bx (fw (bp (ZB (aQ (dX T) hr T.cf (ae (ZB (aQ (nR T) hr T.cL (ae (qv 0) (ae (ZB (az (qv 1) af)) ax)))) ax)))))
 (ar (aM (ij af)))
 aN)
 (ag (aH 1 b7.nd (az (qv 1) af))
 (ag (mT PassesOwn.never (QPW.pt (j8 (Bh (qv 2) af) (i6 (cY hu (ZB (aQ (nR T) hr T.cL (ae (qv 0) (ae (qv 1) ax)))) (ZB ay)))))
 (ag (aH 2 b7.nd (pj (qv 2) af))
 (ar (aH 1 b7.nd (az (qv 1) af)))))
 (ag (bx (cY hu (qv 2) af)
 (ar (aM (XL (qv 1))))
 aN)
 (ar (aH 1 b7.nd (gc (aZ (ai (ij af) (ai (aQ (oF T) hr T.lV (ae (qv 0) (ae (ZB (az (qv 1) af)) ax))) aF))) (ZB (aU dI gL (by rfl) T.kM (by kernel_rfl) (ae (ZB (cI (fD hu U) cX (a8 _) (ZB (aQ (nR T) hr T.cL (ae (qv 0) (ae (qv 1) ax)))) (ZB ay))) ax))))))))))))
 (ar (aM (ij af)))))),λts Q h=>?_)
  let(ws,n,U,hl,hn,av,hx,hq):=h
  generalize aG:(([],[],ws.drop n):BS)=s0 at hx hq
  refine(λc q=>P3 λ(o:Sl)(at_:Int)(k:Nat)=>q=[.r (.l (ws.map .s)),o,.o (.i k)]/\(o=.r (.i at_)\/o=.o (.i at_))/\BI ws s0 at_ k c,(_,_,n,0,U,.inl U,by
   have:=BI.at (ws:=ws) (s0:=s0) (m:=n) (s:=s0) hn (by rw[<- aG]) (λ_ h=>h)
   rw[<- aG]at this ⊢;exact this),?_)
  rintro c q ⟨o,at_,k,rfl,ho,hb⟩
  cases hb with
  |no hz aV =>
   obtain rfl|rfl:=ho
   all_goals
    refine aY (λz=>?_) (λ_=>?_)
    ·exact absurd (of_decide_eq_true z) (by lia)
    ·exact hx aV
  |@«at» m s hm aq ED =>
   have dl:s.l.length=ws.length - m:=by rw[<- aq,xE]
   have d1:ws.drop (m+1)=s.l.tail:=by rw[<- aq,CQ]
   have d2:ws.drop (m+2)=s.l.tail.tail:=by rw[<- d1,CQ]
   obtain rfl|rfl:=ho
   all_goals
    refine Rk (m:=m) (by first|exact .inl rfl|exact .inr U) ?_
    refine(λq=>∃c,c<_/\_,λq h=>h,?_)
    refine(ws,m,U,hl,by lia,U,aY (λh=>?_) (λh=>?_))
    ·have h:=en h;rw[aq]at h;have st:=JC h;refine(ws,m,U,hl,by lia,U,?_)
     rw[iY,aq];refine(ws,m,U,hl,by lia,av,λr hr=>?_)
     rw[aq]at hr;have ek:((s.cs.length:Int)+(if decide (hd s.l="case")=O then 1 else 0))=((s.cs.length+(if decide (hd s.l="case")=O then 1 else 0):Nat):Int):=by cases decide (hd s.l="case") <;> simp
     cases e:EJ s.l with
     |none =>
      rw[e]at hr st;have hr:r = -1:=hr;subst hr;exact(0,by lia,_,-1,_,by rw[<- ek];rfl,.inr U,.no (by decide) (ED _ (.bad st)))
     |some l2 =>
      rw[e]at hr st;let(n',U,aD,ak):=hr;let(s',hs,a3,hk):=st
      have:=L3 e
      have:l2.length=ws.length - n':=by rw[<- ak,xE]
      exact(ws.length+1 - n',by lia,_,n',s'.cs.length,by rw[hk];rfl,.inr U,.at aD (by rw[ak,a3]) λo ho=>ED _ (.on hs ho))
    have h:=nh h;rw[aq]at h;refine(ws,m+1,U,hl,by lia,_,U,oJ av _,aY (λh1=>?_) (λh1=>?_))
    ·have h1:¬ ao (hd (ws.drop (m+1)))=true:=by simpa using h1
     rw[d1]at h1;refine hx (ED _ (.bad ?_));unfold fm;rw[h,if_neg (by decide),if_pos U,if_neg h1]
    have h1:ao (hd (ws.drop (m+1)))=true:=by simpa using h1
    have a5:=(ma (ws:=ws) U (nS h1)).1;rw[d1]at h1;have aL:fm s=(bz s.cs (dg s.hts (.t [.s "give",.s (hd s.l.tail)])) s.l.tail.tail).stp:=by
     unfold fm;rw[h,if_neg (by decide),if_pos U,if_pos h1]
    refine(λc q=>Ea5 λ(m':Nat)(cs:List Oc)(b:L2.T)(l':List Str)(k:Int)=>q=[.r (.l (ws.map .s)),.o (.i m'),.o (.i k)]/\k=cs.length/\m<m'/\m'<=ws.length/\c=cs.length/\ws.drop m'=l'/\fm s=(bz cs b l').stp,(_,m+2,s.cs,_,_,_,U,U,by lia,by lia,U,d2,aL),?_)
    rintro c q ⟨m',cs,b,l',k,rfl,hk,a4,a0,rfl,ak,g⟩
    cases cs with
    |nil =>
     have hk:k=0:=hk;refine aY (λz=>?_) (λ_=>?_)
     ·exact absurd (of_decide_eq_true z) (by lia)
     refine(U,aY (λ_=>?_) (λz=>?_))
     ·exact(U,hq b l' m' (ED _ (.fin g)) a0 ak)
     ·exact absurd (decide_eq_true (by rw[hk])) z
    |cons c cs =>
     rw[mD]at hk;refine aY (λz=>?_) (λz=>?_)
     rotate_left
     ·exact absurd (decide_eq_true (by lia)) z
     refine(ws,m',U,hl,by lia,U,aY (λh2=>?_) (λh2=>?_))
     ·have h2:hd (ws.drop m')="end":=by rw[iY]at h2;exact of_decide_eq_true h2
      have:=ma (ws:=ws) U (by rw[h2];decide)
      rw[ak]at h2;refine(λq=>∃c,c<_/\_,λq h=>h,?_)
      refine(cs.length,by rw[mD];lia,m'+1,cs,(c.fed b).whole,l'.tail,k - 1,U,by lia,by lia,by lia,U,by rw[<- ak,CQ],?_)
      rw[g,bz,h2,if_neg (by decide),if_pos rfl]
     have h2:¬ hd (ws.drop m')="end":=by rw[iY]at h2;exact λz=>h2 (decide_eq_true z)
     rw[ak]at h2;refine(U,aY (λz=>?_) (λ_=>?_))
     ·exfalso
      have z:(L2.T.i k).v=(L2.T.i 0).v:=of_decide_eq_true z;have z:=V.int.inj z
      lia
     refine(ws,m'+1,U,hl,by lia,av,λr hr=>?_)
     refine(ws,m',U,hl,by lia,U,_,pk _,?_)
     rw[iY,ak];rw[bz,if_neg h2]at g;have d3:ws.drop (m'+1)=l'.tail:=by rw[<- ak,CQ]
     rw[d3]at hr;cases e:decide (hd l'="|")with
     |false =>
      rw[if_neg (of_decide_eq_false e)]at g;exact(0,by lia,_,-1,cs.length+1,by rw[hk];rfl,.inr U,.no (by decide) (ED _ (.bad g)))
     |true =>
      rw[if_pos (of_decide_eq_true e)]at g;unfold yC at hr;cases e2:lP l'.tail with
      |none =>
       rw[e2]at g hr;have hr:r = -1:=hr;subst hr;exact(0,by lia,_,-1,cs.length+1,by rw[hk];rfl,.inr U,.no (by decide) (ED _ (.bad g)))
      |some z =>
       rw[e2]at g hr;let(n',U,aD,hd2):=hr;have hd2:ws.drop n'=z.2:=hd2
       have:=(vq (l2:=z.2) (ah:=z.1) e2).1
       rw[<- hd2,<- d3,xE,xE]at this;exact(ws.length+1 - n',by lia,_,n',cs.length+1,by rw[hk];rfl,.inr U,.at (s:=(_::cs,[],z.2)) aD hd2 λo ho=>ED _ (.on g ho))
theorem wK:∀l:List Str,bN l=if dN l=[]\/hd (dN l)="|" then Z (l.takeWhile ao,dN l)else Y
 |[]=>by rfl
 |w::l=>by
  rw[bN];cases e:ao w with
  |true =>
   have h:w ≠ "|":=λz=>by rw[z]at e;exact absurd e (by decide +kernel)
   unfold dN;rw[if_neg h,if_pos U,wK l,YL e,YM e];unfold dN
   split <;> rfl
  |false =>
   unfold dN;rw[YN (by rw[e];decide),YO (by rw[e];decide)]
   by_cases h:w="|"
   ·rw[if_pos h,if_pos (.inr h)]
   ·rw[if_neg h,if_neg (by decide),if_neg (λz=>z.elim (λz=>nomatch z) h)]
theorem EI{k:Nat}:(bM (k+1) l).isSome=if ao (hd l)=O then if dN l=[]then O else if hd (dN l)="|" then(bM k (dN l).tail).isSome else ϊ else false:=by
 rw[bM];unfold iy;by_cases h:ao (hd l)=O
 ·rw[if_pos h,if_pos h,wK,<- (m5 h).2];by_cases h1:dN l=[]
  ·rw[h1];rfl
  ·rw[if_neg h1];have h3:(dN l).isEmpty=false:=by cases e:dN l;exact absurd e h1;rfl
   by_cases h2:hd (dN l)="|"
   ·rw[if_pos (.inr h2),if_pos h2];show(if(dN l).isEmpty=O then _ else if hd (dN l)="|" then(bM k (dN l).tail).map _ else Y).isSome=_
    rw[h3,if_neg (by decide),if_pos h2,ZH]
   ·rw[if_neg (λz=>z.elim h1 h2),if_neg h2];rfl
 ·rw[if_neg h,if_neg h];rfl
def Oh:PSp:=λts Q=>∃ws:List Str,ts=[.l (ws.map .s)]/\ws ≠ []/\ws.length<=900000/\(∀w∈ws,w.length<=900000)/\Q (.b (iX ws).isSome)
theorem rh(ws:List Str):(iX ws).isSome=if hd ws="kind" then if ao (hd ws.tail)=O then(bM (ws.length+1) ws.tail.tail).isSome else ϊ else false:=by
 unfold iX oq;by_cases h:hd ws="kind"
 ·rw[if_pos h,if_pos h];show(if ao (hd ws.tail)=O then(bM (ws.length+1) ws.tail.tail).map _ else Y).isSome=_
  split
  ·rw[ZH]
  ·rfl
 ·rw[if_neg h,if_neg h];rfl
theorem zM(T:Txt K mg a):aS P w K mg base CX0 3 a.jP a.uA [WP] (spQ K Oh):=by
 refine T.uJ.F.okQ kU (λts Q h=>?_) (λ_ _ _ _ _ _ hr=>?_)
 ·let(_,U,_):=h;rfl
 ·have hu:=b9 hr;refine(_,_,((ag (bx (QPW.pt (kB (bQ hV eT (a8 _) (bw (qv 0) af) (ZB ay)) (k9 (fw (bp (ZB (aQ (dX T) hr T.cf (ae (ZB (aQ (nR T) hr T.cL (ae (qv 0) (ae af ax)))) ax))))))))
 (ar (aM iK))
 aN)
 (ag (aH 1 kU.nd bT)
 (ag (mT PassesOwn.never (oE (qv 1) (ZB (eV T.gU (ae (qv 0) ax))))
 (ag (bx (fw (bp (ZB (aQ (dX T) hr T.cf (ae (ZB (aQ (nR T) hr T.cL (ae (qv 0) (ae (ZB (az (qv 1) af)) ax)))) ax)))))
 (ar (aM iK))
 aN)
 (ag (aH 1 kU.nd (aQ (gu T) hr T.fJ (ae (qv 0) (ae (ZB (az (qv 1) af)) ax))))
 (ar (bx (QPW.pt (j8 (oE (qv 1) (ZB (eV T.gU (ae (qv 0) ax)))) (i6 (bQ hV eT (a8 _) (bw (qv 0) (qv 1)) (ZB ay)))))
 (ar (aM iK))
 aN)))))
 (ar (aM iK)))))),λts Q h=>?_)
  let(ws,U,ak,hl,V,g):=h;rw[rh]at g;have e0:atI (ws.map L2.T.s) 0=Z (.s (hd ws)):=by
   cases ws with
   |nil=>exact absurd U ak
   |cons w r=>exact jd (j:=0) U
  have d1:ws.drop 1=ws.tail:=by rw[List.drop_one]
  have ll:(ws.map L2.T.s).length=ws.length:=gV ..;refine(_,e0,U,aY (λh=>?_) (λh=>?_))
  ·rw[if_neg (en h)]at g;exact g
  rw[if_pos (nh h)]at g;refine(ws,1,U,hl,by lia,_,U,oJ V _,aY (λh1=>?_) (λh1=>?_))
  ·have h1:¬ ao (hd (ws.drop 1))=true:=by simpa using h1
   rw[d1]at h1;rw[if_neg h1]at g;exact g
  have h1:ao (hd (ws.drop 1))=true:=by simpa using h1
  have aq:=(ma (ws:=ws) U (nS h1)).1;rw[d1]at h1;rw[if_pos h1]at g;refine(λc q=>M2 λ(m k:Nat)=>q=[.r (.l (ws.map .s)),.o (.i m)]/\1<=m/\m<=ws.length/\c=ws.length - m/\(m=ws.length/\Q (.b O)\/m<ws.length/\ws.length - m<k/\Q (.b (bM k (ws.drop (m+1))).isSome)),(_,1,ws.length+1,U,by lia,by lia,U,.inr (aq,by lia,by rw[show ws.drop (1+1)=ws.tail.tail by rw[<- d1,CQ]];exact g)),?_)
  rintro c q ⟨m,k,rfl,m1,hm,rfl,av⟩
  obtain⟨rfl,g⟩|⟨aG,hk,g⟩:=av
  ·refine aY (λz=>?_) (λ_=>?_)
   ·have z:=of_decide_eq_true z;rw[ll]at z
    lia
   ·exact g
  refine aY (λ_=>?_) (λz=>?_)
  rotate_left
  ·exact absurd (decide_eq_true (by rw[ll];lia)) z
  obtain⟨k,rfl⟩:∃k',k=k'+1:=(k - 1,by lia)
  rw[EI]at g;refine(λq=>∃c,c<_/\_,λq h=>h,?_)
  refine(ws,m+1,U,hl,by lia,_,U,oJ V _,aY (λh2=>?_) (λh2=>?_))
  ·have h2:¬ ao (hd (ws.drop (m+1)))=true:=by simpa using h2
   rw[if_neg h2]at g;exact g
  have h2:ao (hd (ws.drop (m+1)))=true:=by simpa using h2
  have YH:=(ma (ws:=ws) U (nS h2)).1;rw[if_pos h2]at g;have hd2:=vi ws (m+1);have ah:=Gf (ws.drop (m+1));have aD:=(m5 h2).1;rw[xE]at ah;refine(ws,m+1,U,hl,by lia,V,?_)
  generalize nN (ws.drop (m+1))=j at *
  by_cases h3:dN (ws.drop (m+1))=[]
  ·rw[if_pos h3]at g;have hj:m+1+j=ws.length:=by
    rw[h3,Z9]at hd2
    lia
   refine aY (λz=>?_) (λ_=>?_)
   ·have z:=of_decide_eq_true z;rw[ll]at z
    lia
   exact(0,by lia,m+1+j,0,U,by lia,by lia,by lia,.inl (hj,g))
  rw[if_neg h3]at g;have hj:m+1+j<ws.length:=by
   apply Classical.byContradiction
   intro z;rw[MK (by lia)]at hd2
   exact h3 hd2.symm
  refine aY (λ_=>?_) (λz=>?_)
  rotate_left
  ·exact absurd (decide_eq_true (by rw[ll];lia)) z
  have ej:atI (ws.map L2.T.s) ((m+1+j:Nat):Int)=Z (.s (hd (dN (ws.drop (m+1))))):=by
   refine jd ?_;rw[ti,<- hd2,rZ hj,UO hj];rfl
  refine(_,ej,U,aY (λh4=>?_) (λh4=>?_))
  ·rw[if_neg (en h4)]at g;exact g
  rw[if_pos (nh h4)]at g;refine(ws.length - (m+1+j),by lia,m+1+j,k,U,by lia,by lia,U,.inr (hj,by lia,?_))
  rw[<- hd2,CQ]at g;exact g
theorem wI:∀(n:Nat)(l:List Str),l.length<n->match fParams l with
  |none=>¬(nN l % 2=0/\hd (dN l)="to")
  |some (ps,l2)=>nN l % 2=0/\hd (dN l)="to" /\ l2=(dN l).tail
 | 0,_,h=>absurd h (Nat.not_lt_zero _)
 |n+1,[],_=>λz=>absurd z.2 (by decide)
 |n+1,[w],_=>by
  have q:ao "to"=false:=by decide +kernel
  rw[fParams];by_cases h:w="to"
  ·rw[if_pos h,h]
   have:=tj (l:=[("to":Str)]) (by rw[show hd [("to":Str)]="to" from U,q];decide)
   refine(by rw[this.1],by rw[this.2];rfl,by rw[this.2];rfl)
  ·rw[if_neg h];intro z;by_cases hw:ao w=O
   ·have:=m5 (l:=[w]) hw
    rw[this.2]at z;exact absurd z.2 (show ¬ hd (dN ([]:List Str))="to" by decide)
   ·have:=tj (l:=[w]) hw
    rw[this.2]at z;exact h z.2
 |n+1,w::v::l,hn=>by
  have q:ao "to"=false:=by decide +kernel
  rw[fParams];by_cases h:w="to"
  ·rw[if_pos h,h]
   have:=tj (by rw[show hd (("to":Str)::v::l)="to" from U,q];decide)
   refine(by rw[this.1],by rw[this.2];rfl,by rw[this.2];rfl)
  ·rw[if_neg h];by_cases hw:ao w=O
   ·have a1:=m5 (l:=w::v::l) hw;rw[if_pos hw];by_cases hv:ao v=O
    ·have a2:=m5 (l:=v::l) hv;have g:=wI n l (by simp only[mD]at hn;lia)
     have b1:nN (w::v::l)=nN l+2:=by rw[a1.1];show nN (v::l)+1=_;rw[a2.1];rfl
     have b2:dN (w::v::l)=dN l:=by rw[a1.2];show dN (v::l)=_;rw[a2.2];rfl
     rw[if_pos hv,b1,b2];cases e:fParams l with
     |none =>
      rw[e]at g;exact λz=>g (by lia,z.2)
     |some z =>
      rw[e]at g;exact(by lia,g.2.1,g.2.2)
    ·have a2:=tj (l:=v::l) hv;have b1:nN (w::v::l)=1:=by rw[a1.1];show nN (v::l)+1=_;rw[a2.1]
     rw[if_neg hv,b1];exact λz=>absurd z.1 (by decide)
   ·have a1:=tj (l:=w::v::l) hw;rw[if_neg hw,a1.2];exact λz=>h z.2
def SE:PSp:=λts Q=>∃ws:List Str,ts=[.l (ws.map .s)]/\hd ws="def" /\ ws.length<=900000/\(∀w∈ws,w.length<=900000)/\(oA ws Y->Q (.b ϊ))/\∀r,oA ws (Z r)->Q (.b O)
theorem sW(T:Txt K mg a):aS P w K mg base CX0 6 a.gx a.lZ [WP] (spQ K SE):=by
 refine T.mj.F.okQ ku (λts Q h=>?_) (λ_ _ _ _ _ _ hr=>?_)
 ·let(_,U,_):=h;rfl
 ·have hu:=b9 hr;refine(_,_,((ag (bx (fw (bp (ZB (aQ (dX T) hr T.cf (ae (ZB (aQ (nR T) hr T.cL (ae (qv 0) (ae af ax)))) ax)))))
 (ar (aM iK))
 aN)
 (ag (aH 1 ku.nd (aQ (gu T) hr T.fJ (ae (qv 0) (ae af ax))))
 (ag (bx (QPW.pt (kB (cY hu (ZB (RX (qv 1) af)) af) (k9 (bQ hV eT (a8 _) (ZB (aQ (nR T) hr T.cL (ae (qv 0) (ae (qv 1) ax)))) (ZB ay)))))
 (ar (aM iK))
 aN)
 (ag (bx (QPW.pt (kB (fw (bp (ZB (aQ (dX T) hr T.cf (ae (ZB (aQ (nR T) hr T.cL (ae (qv 0) (ae (ZB (az (qv 1) af)) ax)))) ax))))) (k9 (bQ hV eT (a8 _) (ZB (aQ (nR T) hr T.cL (ae (qv 0) (ae (ZB (az (qv 1) af)) ax)))) (ZB ay)))))
 (ar (aM iK))
 aN)
 (ar (aM (cI (fD hu U) cX (a8 _) (ZB (aQ (v5 T) hr T.oW (ae (qv 0) (ae (ZB (az (qv 1) af)) ax)))) (ZB (eV T.gU (ae (qv 0) ax))))))))))),λts Q h=>?_)
  let(ws,U,WO,hl,g,hx,hq):=h;have d1:ws.drop 1=ws.tail:=by rw[List.drop_one]
  have q:=wI (ws.tail.tail.length+1) ws.tail.tail (YV _);have bad:fHd ws=Y->Q (.b ϊ):=λh=>hx (.xa h)
  unfold fHd at bad;rw[if_pos WO]at bad;refine(ws,1,U,hl,by lia,_,U,oJ g _,aY (λh1=>?_) (λh1=>?_))
  ·have h1:¬ ao (hd (ws.drop 1))=true:=by simpa using h1
   rw[d1]at h1;rw[if_neg h1]at bad;exact bad U
  have h1:ao (hd (ws.drop 1))=true:=by simpa using h1
  have aD:=(ma (ws:=ws) U (nS h1)).1;have ak:=m5 h1;have hd2:=vi ws 1;have aq:=Gf (ws.drop 1);rw[xE]at aq;rw[ak.2]at hd2;rw[d1]at h1 ak hd2;rw[if_pos h1]at bad;refine(ws,1,U,hl,by lia,g,?_)
  rw[show nN (ws.drop 1)=nN ws.tail from by rw[d1]]
  rw[d1]at aq;have hn:1+nN ws.tail=nN ws.tail.tail+2:=by lia
  generalize 1+nN ws.tail=n at *
  generalize dN ws.tail.tail=L at *
  refine((by show(0:Int)<2;decide),U,aY (λh2=>?_) (λh2=>?_))
  ·have h2:((n:Nat):Int) % 2=1:=V.int.inj (of_decide_eq_true h2);refine bad ?_;cases e:fParams ws.tail.tail with
   |none=>rfl
   |some z =>
    let(ps,l2):=z;rw[e]at q
    have:=q.1
    lia
  have h2:((n:Nat):Int) % 2≠1:=λz=>h2 (decide_eq_true (show(L2.T.i ((n:Int) % 2)).v=(L2.T.i 1).v by rw[z]))
  refine(ws,n,U,hl,by lia,U,aY (λh3=>?_) (λh3=>?_))
  ·have h3:=en h3;rw[hd2]at h3;refine bad ?_;cases e:fParams ws.tail.tail with
   |none=>rfl
   |some z =>
    let(ps,l2):=z;rw[e]at q;exact absurd q.2.1 h3
  have h3:=nh h3;rw[hd2]at h3;obtain⟨ps,l2,e⟩:∃ps l2,fParams ws.tail.tail=Z (ps,l2):=by
   cases e:fParams ws.tail.tail with
   |none=>rw[e]at q;exact absurd (by lia,h3) q
   |some z=>exact(z.1,z.2,U)
  rw[e]at q bad;let(_,_,U):=q;have bad:(if ao (hd L.tail)=O then if hd L.tail.tail=":" then Z (Prod.mk ((hd ws.tail,ps,hd L.tail):Fh) L.tail.tail.tail)else Y else Y)=Y->Q (.b ϊ):=bad
  have e1:ws.drop (n+1)=L.tail:=by rw[<- hd2,CQ]
  have e2:ws.drop (n+2)=L.tail.tail:=by rw[<- e1,CQ]
  have e3:ws.drop (n+3)=L.tail.tail.tail:=by rw[<- e2,CQ]
  refine(ws,n+1,U,hl,by lia,_,U,oJ g _,aY (λh4=>?_) (λh4=>?_))
  ·have h4:¬ ao (hd (ws.drop (n+1)))=true:=by simpa using h4
   rw[e1]at h4;exact bad (if_neg h4)
  have h4:ao (hd (ws.drop (n+1)))=true:=by simpa using h4
  rw[e1]at h4;refine(ws,n+2,U,hl,by lia,U,aY (λh5=>?_) (λh5=>?_))
  ·have h5:=en h5;rw[e2]at h5;exact bad (by rw[if_pos h4,if_neg h5])
  have h5:=nh h5;have h6:=(ma (ws:=ws) U (by rw[h5];decide)).1
  rw[e2]at h5;have hf:fHd ws=Z (Prod.mk ((hd ws.tail,ps,hd L.tail):Fh) L.tail.tail.tail):=by
   unfold fHd;rw[if_pos WO,if_pos h1,e];show(if ao (hd L.tail)=O then if hd L.tail.tail=":" then Z (Prod.mk ((hd ws.tail,ps,hd L.tail):Fh) L.tail.tail.tail)else Y else Y)=_
   rw[if_pos h4,if_pos h5]
  rw[<- e3]at hf;have ll:(ws.map L2.T.s).length=ws.length:=gV ..;have dec:∀m:Int,decide ((L2.T.i m).v=(L2.T.i ((ws.map L2.T.s).length:Int)).v)=decide (m=ws.length):=λm=>by rw[ll];exact decide_eq_decide.mpr (λh=>V.int.inj h,λh=>by rw[h])
  refine(ws,n+3,U,hl,by lia,g,λh=>(U,?_),λb l m h hm ah=>(U,?_))
  ·rw[dec,decide_eq_false (by lia)]
   exact hx (.xY hf h)
  ·rw[dec];by_cases av:m=ws.length
   ·rw[av,MK (qd _)]at ah;rw[decide_eq_true (by lia)]
    subst ah;exact hq _ (.ok hf h)
   ·rw[decide_eq_false (by lia)]
    refine hx (.ET hf h ?_);rw[<- ah,UO (show m<ws.length by lia)]
    rfl
def N7:PSp:=λts Q=>∃text,ts=[.s text]/\text.length<=800000/\(∀r,dQ 0 [] [] (rowsOf text) (.inl r)->Q .n)/\∀n:Nat,dQ 0 [] [] (rowsOf text) (.inr n)->Q (.i n)
theorem vA:Txt.split x y ≠ []:=by
 unfold Txt.split
 split
 ·exact λz=>nomatch z
 ·split
  ·exact λz=>nomatch z
  ·intro z
   have:=congrArg E7 z
   rw[PyProof.Rows.len_partsBetween]at this;simp at this
theorem vY(T:Txt K mg a):aS P w K mg base CX0 7 a.iF a.oM [Tk] (spQ K N7):=by
 refine T.oU.F.okQ dA (λts Q h=>?_) (λ_ _ _ _ _ _ hr=>?_)
 ·let(_,U,_):=h;rfl
 ·have hu:=b9 hr;refine(_,_,((ag (bx (cY hu (qv 0) (ZB ay))
 (ar (aM vM))
 aN)
 (ag (aH 1 dA.nd bT)
 (ag (j9 (g:=(Tg.tp [2,3])) PassesOwn.never U (Kj T.nt (gG (qv 0) (ZB ay))) (K5 (kb 2 dA.nd) (kb 3 dA.nd))
 (ag (aH 4 dA.nd (gG (qv 3) (ZB ay)))
 (ar (bx (cY hu (bw (qv 4) af) (ZB ay))
 (ag (aH 1 dA.nd (az (qv 1) af))
 (ar (bx (fw (bp (ZB (aQ (sW T) hr T.mj (ae (qv 4) ax)))))
 (ar (aM (XL (qv 2))))
 aN)))
 (ar (bx (QPW.pt (kB (Bh (qv 1) af) (k9 (fw (bp (ZB (aQ (zM T) hr T.uJ (ae (qv 4) ax))))))))
 (ar (aM (XL (qv 2))))
 aN))))))
 (ar (aM vM)))))),λts Q h=>?_)
  let(text,U,hl,hq,hx):=h;refine(U,aY (λh=>?_) (λh=>?_))
  ·have h:text="":=by rw[iY]at h;exact of_decide_eq_true h
   have er:rowsOf text=[]:=if_pos h;rw[er]at hq;exact hq _ .nil
  have h:text ≠ "":=by rw[iY]at h;exact λz=>h (decide_eq_true z)
  have er:rowsOf text=Txt.split text "\n":=if_neg h;rw[er]at hq hx;have sl:=hZ text "\n";have rl:∀row∈Txt.split text "\n",row.length<=text.length:=λrow hr=>split_le (c:=10) hr
  refine(by decide,aR (by lia),?_)
  generalize Txt.split text "\n"=rows at *
  refine(λi q=>Ea6 λ(fs:List L2.T)(ks:List Kd)(m:Int)(o2 o3 o4:Sl)=>q=[.r (.s text),.o (.i m),o2,o3,o4]/\m=fs.length/\(∀o,dQ i ks fs (rows.drop i) o->dQ 0 [] [] rows o),([],[],_,_,_,_,U,U,λ_ h=>h),λi z q hz hi=>?_,λq hi=>?_)
  ·let(fs,ks,m,o2,o3,o4,U,hm,hf):=hi;let(u,ah,U):=rj hz;rw[ti]at ah;let(row,z9,U):=kf.mp ah;have il:=(iZ.mp z9).1;have ed:rows.drop i=row::rows.drop (i+1):=(UO il).trans (by rw[(iZ.mp z9).2])
   have aD:=rl row (yb z9);rw[ed]at hf;have av:=hZ row " ";have wl:∀w∈Txt.split row " ",w.length<=900000:=λw hw=>u6 (split_le (c:=32) hw) (by lia)
   refine(_,U,by decide,aR (by lia),?_)
   have ak:=vA (x:=row) (y:=" ")
   generalize V:Txt.split row " "=ws at *
   have e0:atI (ws.map L2.T.s) 0=Z (.s (hd ws)):=by
    cases ws with
    |nil=>exact absurd U ak
    |cons w r=>exact jd (j:=0) U
   refine(_,e0,U,aY (λh1=>?_) (λh1=>?_))
   ·have h1:hd ws="def":=by rw[iY]at h1;exact of_decide_eq_true h1
    have nk:¬(hd (Txt.split row " ")="kind" /\ fs=[]):=λz=>by rw[V,h1]at z;exact absurd z.1 (by decide)
    refine(ws,U,h1,by lia,wl,λhb=>?_,λr hb=>?_)
    ·exact(U,hx i (hf _ (.fnX nk (by rw[V];exact hb))))
    ·exact(fs ++ [r],ks,m+1,_,_,_,U,by rw[oa,hm];rfl,λo ho=>hf o (.fn nk (by rw[V];exact hb) ho))
   have h1:¬ hd ws="def":=by rw[iY]at h1;exact λz=>h1 (decide_eq_true z)
   have nf:oA (Txt.split row " ") none:=.xa (by rw[V];unfold fHd;rw[if_neg h1])
   refine aY (λh2=>?_) (λh2=>?_)
   ·have h2:0<m:=of_decide_eq_true h2;exact(U,hx i (hf _ (.fnX (λz=>by rw[z.2]at hm;have hm:m=0:=hm;lia) nf)))
   have aq:fs=[]:=by
    have h2:¬ 0<m:=λz=>h2 (decide_eq_true z)
    cases fs with
    |nil=>rfl
    |cons f r=>rw[mD]at hm;lia
   subst aq;refine(ws,U,ak,by lia,wl,?_)
   cases e:iX ws with
   |none =>
    by_cases hk:hd ws="kind"
    ·exact(U,hx i (hf _ (.um (by rw[V];exact hk) (by rw[V];exact e))))
    ·exact(U,hx i (hf _ (.fnX (λz=>hk (by rw[<- V];exact z.1)) nf)))
   |some z =>
    let(k,l):=z;have hk:hd ws="kind":=by
     have:=rh ws
     rw[e]at this;by_cases hk:hd ws="kind"
     ·exact hk
     ·rw[if_neg hk]at this;cases this
    exact([],ks ++ [k],m,_,_,_,U,hm,λo ho=>hf o (.kind (by rw[V];exact hk) (by rw[V];exact e) ho))
  ·let(fs,ks,m,o2,o3,o4,U,hm,hf):=hi;rw[kL,gV,List.drop_length]at hf;exact hq _ (hf _ .nil)
def Wc(n:Nat)(w:Str):Prop:=w.length<=n/\∀c∈w.cps.toList,33<=c/\c<=126
def VY:PSp:=λts Q=>M2 λ(ws:List Str)(x:Str)=>ts=[.jy,.zl (ws.map .s),.s x]/\4<=ws.length/\ws.length<=7/\(∀w∈ws,ao w=O)/\Wc 8 x/\∀y,Wc 20 y->Q (.s y)
open PyProof.Rows in
theorem yh(z:Str)(lo hi:Option Int):(Txt.slice z lo hi).cps.toList.Sublist z.cps.toList:=by
 unfold Txt.slice
 split
 ·exact List.Sublist.refl _
 ·let(h1,h2,h3):=qi lo hi z.length;have e:Builtin.Str.strSliceIndices lo hi 1 z.length=sliceRange (sliceBounds lo hi Y z.length).1 (sliceBounds lo hi Y z.length).2.1 1:=rfl;show(List.filterMap (λx=>z.cps[x]?) (Builtin.Str.strSliceIndices lo hi 1 z.length)).Sublist _
  rw[e,h1,h2,sliceRange_one,pick_run];exact(List.take_sublist _ _).trans (List.drop_sublist _ _)
theorem Wc.slice{n:Nat}{z:Str}(h:Wc n z)(lo hi:Option Int):Wc n (Txt.slice z lo hi):=(u6 (yh z lo hi).length_le h.1,λc g=>h.2 c ((yh z lo hi).subset g))
theorem Wc.app{m:Nat}(h:Wc n x)(g:Wc m y):Wc (n+m) (x++y):=(by rw[Str.length_append];exact Nat.add_le_add h.1 g.1,λc q=>by
 rw[Str.cps_append,Zy]at q;exact(lS.mp q).elim (h.2 c) (g.2 c))
theorem Wc.le{m:Nat}(h:Wc n x)(g:n<=m):Wc m x:=(u6 h.1 g,h.2)
theorem Rg:∀n:Fin 94,(Unicode.upperOf (33+n.val)).length=1/\∀c∈Unicode.upperOf (33+n.val),33<=c/\c<=126:=by decide +kernel
theorem Ff:∀(l:List Nat)(f:Nat->Nat->Array Nat),(∀i c,f i c=(Unicode.upperOf c).toArray)->(∀c∈l,33<=c/\c<=126)->((l.mapIdx f).map Zz).flatten.length=l.length/\∀c∈((l.mapIdx f).map Zz).flatten,33<=c/\c<=126
 |[],_,_,_=>(U,λ_ z=>nomatch z)
 |c::l,f,hf,h=>by
  rw[List.mapIdx_cons,E6,List.flatten_cons,hf];let(q,g):=Ff l (λi=>f (i+1)) (λi c=>hf (i+1) c) λd hd=>h d (aJ _ hd)
  have K:=h c di;have h1:=Rg (c - 33,by lia)
  rw[show 33+(c - 33)=c from by lia]at h1
  refine(?_,λd hd=>?_)
  ·rw[oa,mD,h1.1];lia
  ·obtain z|z:=lS.mp hd
   ·exact h1.2 d z
   ·exact g d z
theorem Wc.up{z:Str}(h:Wc n z):Wc n (Txt.upper z):=by
 have:=Ff z.cps.toList (λi c=>(Unicode.upperOf c).toArray) (λ_ _=>rfl) h.2
 have e:(Txt.upper z).cps.toList=((z.cps.toList.mapIdx λi c=>(Unicode.upperOf c).toArray).map Zz).flatten:=by
  unfold Txt.upper placed;rw[Array.toList_flatten,Array.toList_mapIdx]
 refine(?_,λc g=>this.2 c (by rw[<- e];exact g))
 rw[nU,e,this.1];exact h.1
theorem OT(h:ao x=O):Wc 8 x:=((bA h).2,dY h)
def zj:Str:="ABZ09_-+.;:|kdx"
theorem Hu:∀c∈zj.cps.toList,33<=c/\c<=126:=by decide +kernel
def xa:List Str:=[";",":","|","","(",",","=",";;","let;","x;","x:","to:","||"]
def xY:List Str:=["0","01","+1","1_0","-1","-0","10000000","1.0","9999999","7","1e3","00","12345678"]
def WcB(w:Str):Bool:=decide (w.length<=20)&&w.cps.toList.all λc=>decide (33<=c)&&decide (c<=126)
theorem wcB{w:Str}(h:WcB w=O):Wc 20 w:=by
 unfold WcB at h;rw[tY,decide_eq_true_eq,AE]at h;refine(h.1,λc g=>?_)
 have:=h.2 c g
 rw[tY,decide_eq_true_eq,decide_eq_true_eq]at this;exact this
theorem iN{ws:List Str}{r:Int}(h0:0<=r)(h1:r<ws.length):∃w∈ws,atI (ws.map L2.T.s) r=Z (.s w):=by
 obtain⟨k,rfl⟩:∃k:Nat,r=k:=(r.toNat,by lia)
 have g:k<ws.length:=by lia
 exact(ws[k],Zd g,jd (by rw[ti,rZ g];rfl))
theorem Us:∀w∈xa++xY++kept,WcB w=true:=by decide +kernel
theorem BN(T:Txt K mg a):aS P w K mg base CX0 3 a.lN a.wU [WF,W1,Tl] (spQ K VY):=by
 have z:=kg (@iC P w K mg base a T);refine T.xp.F.okQ dP (λts Q h=>?_) (λ_ _ _ _ _ _ hr=>?_)
 ·let(_,_,U,_):=h;rfl
 ·have hu:=b9 hr;refine(_,_,((ag (aH 3 dP.nd (aZ (dq (by rfl))))
 (ag (aH 4 dP.nd (aQ z hr T.bo (ae (qv 0) (ae af ax))))
 (ag (bx (cY hu (qv 4) af)
 (ar (aM (aQ (vX T) hr T.kP (ae (qv 0) (ae (qv 1) ax)))))
 aN)
 (ag (bx (cY hu (qv 4) af)
 (ar (aM (XL (bw (qv 3) (ZB (aQ z hr T.bo (ae (qv 0) (ae af ax))))))))
 aN)
 (ag (bx (cY hu (qv 4) af)
 (ag (aH 5 dP.nd (aZ (dq (by rfl))))
 (ar (aM (XL (bw (qv 5) (ZB (aQ z hr T.bo (ae (qv 0) (ae af ax)))))))))
 aN)
 (ag (bx (cY hu (qv 4) af)
 (ag (aH 5 dP.nd (aZ (dq (by rfl))))
 (ar (aM (XL (bw (qv 5) (ZB (aQ z hr T.bo (ae (qv 0) (ae af ax)))))))))
 aN)
 (ag (aH 6 dP.nd (aQ z hr T.bo (ae (qv 0) (ae (ZB (az (ZB (eV T.gU (ae (qv 2) ax))) af)) ax))))
 (ag (aH 7 dP.nd ay)
 (ag (aH 8 dP.nd (aQ z hr T.bo (ae (qv 0) (ae af ax))))
 (ag (bx (cY hu (qv 8) af)
 (ar (aM (Kn (qv 2))))
 aN)
 (ag (bx (cY hu (qv 8) af)
 (ar (aM (az (ZB (bR (qv 2) cM (cy (qv 6)))) (ZB (bR (qv 2) (cy (ZB (az (qv 6) af))) cM)))))
 aN)
 (ar (aM (az (ZB (az (ZB (bR (qv 2) cM (cy (qv 6)))) (bw (qv 7) (ZB (aQ z hr T.bo (ae (qv 0) (ae af ax))))))) (ZB (bR (qv 2) (cy (ZB (pj (ZB (az (qv 6) (qv 8))) af))) cM))))))))))))))))),λts Q h=>?_)
  let(ws,x,U,w1,w2,hw,hx,q):=h;refine(by decide,by decide,λf f0 f1=>?_)
  refine(U,aY (λh=>?_) (λh=>?_))
  ·exact(ws,U,w1,w2,hw,λy g=>q y ((OT g).le (by decide)))
  refine(U,aY (λh=>?_) (λh=>?_))
  ·refine(by decide,by decide,λr r0 V=>?_)
   let(y,g,e):=iN (ws:=kept) r0 V;exact(_,e,U,q y (wcB (Us y (mu _ g))))
  refine(U,aY (λh=>?_) (λh=>?_))
  ·refine(by decide,by decide,λr r0 V=>?_)
   let(y,g,e):=iN (ws:=xa) r0 V;exact(_,e,U,q y (wcB (Us y (ot _ (ot _ g)))))
  refine(U,aY (λh=>?_) (λh=>?_))
  ·refine(by decide,by decide,λr r0 V=>?_)
   let(y,g,e):=iN (ws:=xY) r0 V;exact(_,e,U,q y (wcB (Us y (ot _ (mu _ g)))))
  have ah:=hx.1;have lx:x.length<=px:=xj (aR (by lia))
  refine(lx,by lia,by lia,λp p0 p1=>(by decide,by decide,λt t0 t1=>?_))
  refine(U,aY (λh=>?_) (λh=>?_))
  ·exact(by lia,q _ (hx.up.le (by decide)))
  refine(U,aY (λh=>?_) (λh=>?_))
  ·have w:=(hx.slice Y (Z p)).app (hx.slice (Z (p+1)) Y);have wl:=w.1;rw[Str.length_append]at wl;exact(lx,lx,xj (aR (by lia)),q _ (w.le (by decide)))
  refine(lx,by decide,by decide,λr r0 V=>?_)
  obtain⟨k,rfl⟩:∃k:Nat,r=k:=(r.toNat,by lia)
  have hk:k<zj.cps.toList.length:=by rw[show zj.cps.toList.length=15 from by decide +kernel];lia
  have wc:Wc 1 ⟨#[zj.cps.toList[k]]⟩:=(qd _,λc hc=>by rw[aB.mp hc];exact Hu _ (Zd hk))
  have w1:=(hx.slice Y (Z p)).app wc;have w2:=w1.app (hx.slice (Z (p+t - 2)) Y);have l1:=w1.1;have l2:=w2.1;rw[Str.length_append]at l1 l2;exact(by decide +kernel,_,jd (rZ hk),xj (aR (by lia)),lx,xj (aR (by lia)),q _ (w2.le (by decide)))
def KP:PSp:=λts Q=>M2 λ(ps ws:List Str)=>ts=[.jy,.s (Txt.join " " ws),.zl (ps.map .s)]/\4<=ps.length/\ps.length<=7/\(∀w∈ps,ao w=O)/\ws ≠ []/\ws.length<=640/\(∀w∈ws,Wc 8 w)/\∀g,g.length<=641->(∀w∈g,Wc 20 w)->Q (.s (Txt.join " " g))
theorem Mt{α:Type}{xs:List α}:eI xs Y (Z (j:Int))=xs.take j:=by
 unfold eI;rw[HT.ve,HT.Bb,Nat.sub_zero,List.drop_zero,List.take_eq_take_iff]
 lia
theorem Mv{α:Type}{xs:List α}:eI xs (Z (j:Int)) Y=xs.drop j:=by
 unfold eI;rw[HT.ve,HT.Bb,List.take_of_length_le (by rw[xE];lia)]
 by_cases h:j<=xs.length
 ·rw[Z0 h]
 ·rw[ZL (by lia),MK (qd _),MK (by lia)]
theorem Pp{α:Type}{xs:List α}:(eI xs (Z (j:Int)) (Z ((j:Int)+2))).length<=2/\∀x∈eI xs (Z (j:Int)) (Z ((j:Int)+2)),x∈xs:=by
 refine(?_,λx h=>GS (X6 h))
 rw[show((j)+2)=((j+2:Nat):Int)by lia]
 unfold eI;rw[HT.ve,HT.ve,x8]
 lia
theorem LD:∀{l:List Str},l.length<=2->(∀w∈l,Wc n w)->Wc (n+n) (Txt.join "" l)
 |[],_,_=>(by rw[show(Txt.join "" []).length=0 from by decide +kernel];lia,λc g=>by cases g)
 |[x],_,h=>by exact(h x di).le (by lia)
 |[x,y],_,h=>by
  have:=((h x di).app (show Wc 0 "" from(by decide,by decide))).app (h y (aJ _ di))
  exact this.le (by lia)
 |_::_::_::_,h,_=>by simp at h
theorem tk{ws:List Str}{p:Int}(h:0<=p):eI (ws.map L2.T.s) Y (Z p)=(ws.take p.toNat).map .s:=by
 obtain⟨k,rfl⟩:∃k:Nat,p=k:=(p.toNat,by lia)
 rw[rK,Mt];rfl
theorem dr{ws:List Str}{p:Int}(h:0<=p):eI (ws.map L2.T.s) (Z p) Y=(ws.drop p.toNat).map .s:=by
 obtain⟨k,rfl⟩:∃k:Nat,p=k:=(p.toNat,by omega)
 rw[rK,Mv];rfl
theorem l3{ws:List Str}{a b:Int}(ha:0<=a)(g:0<=b)(hl:ws.length<=640):
  (eI (ws.map L2.T.s) Y (Z a)).length + [L2.T.s y].length<=px/\T.ims (eI (ws.map L2.T.s) Y (Z a))=O/\(eI (ws.map L2.T.s) Y (Z a) ++ [L2.T.s y]).length+(eI (ws.map L2.T.s) (Z b) Y).length<=px/\T.ims (eI (ws.map L2.T.s) Y (Z a) ++ [L2.T.s y])=O/\T.ims (eI (ws.map L2.T.s) (Z b) Y)=O/\eI (ws.map L2.T.s) Y (Z a) ++ [L2.T.s y]++eI (ws.map L2.T.s) (Z b) Y=(ws.take a.toNat ++ [y]++ws.drop b.toNat).map .s:=by
 rw[tk ha,dr g];have e:(ws.take a.toNat).map L2.T.s ++ [.s y]=(ws.take a.toNat ++ [y]).map .s:=by rw[u9];rfl
 rw[e,<- u9];simp only[gV,oa,x8,xE];refine(xj (aR (by show _+1<=_;lia)),a9 _,xj (aR (by show _+1+_<=_;omega)),a9 _,a9 _,trivial)
theorem w3{ws:List Str}{a b:Nat}(h:∀w∈ws,Wc n w)(g:Wc n y):∀w∈ws.take a ++ [y]++ws.drop b,Wc n w:=λw hw=>by
 obtain z|z:=lS.mp hw
 ·obtain z|z:=lS.mp z
  ·exact h w (X6 z)
  ·rw[aB.mp z];exact g
 ·exact h w (GS z)
theorem Gs{p:Int}(h0:0<=p)(h1:p<n):ixN n p=Z p.toNat:=by unfold ixN;rw[if_pos h0,if_pos h1]
theorem Jl{ws:List Str}(h:∀w∈ws,Wc n w)(g:Wc n y):∀w∈ws.set j y,Wc n w:=λw hw=>(List.mem_or_eq_of_mem_set hw).elim (h w) λz=>z▸g
theorem HR(T:Txt K mg a):aS P w K mg base CX0 4 a.q9 a.Cs [WF,Ty,W1] (spQ K KP):=by
 have a6:=kg (@iC P w K mg base a T);refine T.CY.F.okQ dy (λts Q h=>?_) (λ_ _ _ _ _ _ hr=>?_)
 ·let(_,_,U,_):=h;rfl
 ·have hu:=b9 hr;refine(_,_,((ag (aH 3 dy.nd (gG (qv 1) (ZB ay)))
 (ag (aH 4 dy.nd (aQ a6 hr T.bo (ae (qv 0) (ae (ZB (eV T.gU (ae (qv 3) ax))) ax))))
 (ag (bx (cY hu (ZB (aQ a6 hr T.bo (ae (qv 0) (ae af ax)))) af)
 (ar (aH 4 dy.nd (gj (yK U) JO (by rfl) T.QU (by kernel_rfl) (ae af (ae (ZB (pj (ZB (pj (ZB (eV T.gU (ae (qv 3) ax))) af)) (ZB (aQ a6 hr T.bo (ae (qv 0) (ae af ax)))))) ax)))))
 aN)
 (ag (aH 5 dy.nd (aQ (BN T) hr T.xp (ae (qv 0) (ae (qv 2) (ae (bw (qv 3) (qv 4)) ax)))))
 (ag (aH 6 dy.nd (aQ a6 hr T.bo (ae (qv 0) (ae af ax))))
 (ag (bx (oE (qv 6) af)
 (ag (aH 7 dy.nd (az (qv 4) (ZB (aQ a6 hr T.bo (ae (qv 0) (ae af ax))))))
 (ar (aH 3 dy.nd (az (ZB (az (ZB (bR (qv 3) cM (cy (qv 7)))) (ZB (aZ (ai (XL (qv 5)) aF))))) (ZB (bR (qv 3) (cy (qv 7)) cM))))))
 (ar (bx (oE (qv 6) af)
 (ar (NS (i:=3) (pv 3) (qv 4) (qv 5)))
 (ar (bx (cY hu (qv 6) af)
 (ar (aH 3 dy.nd (az (ZB (bR (qv 3) cM (cy (qv 4)))) (ZB (bR (qv 3) (cy (ZB (az (qv 4) af))) cM)))))
 (ar (bx (cY hu (qv 6) af)
 (ar (aH 3 dy.nd (az (ZB (az (ZB (bR (qv 3) cM (cy (qv 4)))) (ZB (aZ (ai (XL (bw (qv 3) (qv 4))) aF))))) (ZB (bR (qv 3) (cy (qv 4)) cM)))))
 (ar (bx (QPW.pt (j8 (cY hu (qv 6) af) (i6 (oE (ZB (az (qv 4) af)) (ZB (eV T.gU (ae (qv 3) ax)))))))
 (ar (NQ (i:=3) (pv 3) (pv 3) (ZB (bt (ai (XL (bw (qv 3) (ZB (az (qv 4) af)))) (ai (XL (bw (qv 3) (qv 4))) aF)))) (qv 4) (ZB (az (qv 4) af))))
 (ar (aH 3 dy.nd (az (ZB (az (ZB (bR (qv 3) cM (cy (qv 4)))) (ZB (aZ (ai (fN (ZB ay) (ZB (bR (qv 3) (cy (qv 4)) (cy (ZB (az (qv 4) af)))))) aF))))) (ZB (bR (qv 3) (cy (ZB (az (qv 4) af))) cM))))))))))))))
 (ar (aM (fN (ZB ay) (qv 3))))))))))),λts Q h=>?_)
  let(ps,ws,U,p1,p2,hp,ak,hl,hw,hq):=h;have av:Cl ws:=λw h=>(hw w h).2
  have ah:=p9 ak av;have O7:(Txt.join " " ws).length<=8*640+640:=by
   have h1:=lF " " ws;have h2:=Sh.sum (ws:=ws) λw h=>(hw w h).1
   rw[show(Str.ofString " ").length=1 from by decide +kernel]at h1
   lia
  generalize Txt.join " " ws=row at ah O7
  have ll:(ws.map L2.T.s).length=ws.length:=gV ..;refine(by decide,aR (by lia),?_)
  rw[ah];have pos:0<ws.length:=by cases ws;exact absurd U ak;simp
  refine(λ(rest:∀p:Int,0<=p->p<ws.length->_)=>(by rw[ll];lia,by rw[ll];lia,λp V g=>(by decide,by decide,λd d0 d1=>(U,aY (λ_=>?first) (λ_=>rest p V (by rw[ll]at g;exact g)))))) ?rest
  case first =>
   refine(by decide,by decide,λe e0 e1=>rest _ ?_ ?_)
   ·show(0:Int)<=if((ws.map L2.T.s).length:Int) - 1 - e > 0 then((ws.map L2.T.s).length:Int) - 1 - e else 0
    split <;> lia
   ·show(if((ws.map L2.T.s).length:Int) - 1 - e > 0 then((ws.map L2.T.s).length:Int) - 1 - e else 0:Int)<_
    rw[ll]
    split <;> lia
  intro p V g;let(x,hx,ex):=iN (ws:=ws) V g;refine(_,ex,ps,x,U,p1,p2,hp,hw x hx,λy hy=>(by decide,by decide,λt t0 t1=>?_))
  have q:∀w∈ws,Wc 20 w:=λw h=>(hw w h).le (by decide)
  have ims:=a9 ws;have ht:∀{xs:List Str},xs.length<=641->(∀w∈xs,Wc 20 w)->∀{zs:List L2.T},zs=xs.map .s->Ex4 (λys=>txs zs=Z ys) (λys=>(ys.map (·.length)).sum+ys.length*(Str.ofString " ").length<=16777216) (λys=>L2.T.s (Txt.join (Str.ofString " ") ys)) Q:=λ{xs} h1 h2 {zs} e=>by
   have h3:=fk (f:=λw:Str=>w.length) (n:=20) (xs:=xs) λw h=>(h2 w h).1
   exact(xs,by rw[e,fK],by rw[show(Str.ofString " ").length=1 from by decide +kernel];lia,hq xs h1 h2)
  refine aY (λh=>?_) (λh=>?_)
  ·refine(by decide,by decide,λe e0 e1=>?_)
   let(g1,g2,g3,g4,g5,g6):=l3 (ws:=ws) (y:=y) (a:=p+e) (b:=p+e) (by lia) (by lia) hl
   refine(ims,U,g1,g2,U,ims,g3,g4,g5,ht ?_ (w3 q hy) g6);rw[oa,oa,x8,xE];show _+1+_<=_
   lia
  refine aY (λh=>?_) (λh=>?_)
  ·exact(_,Gs V (by rw[ll];exact g),ims,U,ht (xs:=ws.set p.toNat y) (by rw[AF];lia) (Jl q hy) (by rw[ZX]))
  refine(U,aY (λh=>?_) (λh=>?_))
  ·have e1:=tk (ws:=ws) V;have e2:=dr (ws:=ws) (p:=p+1) (by lia)
   refine(ims,ims,?_);show _+_<=_/\_;rw[e1,e2];refine(xj (aR (by simp only[gV,x8,xE];lia)),a9 _,a9 _,ht (xs:=ws.take p.toNat++ws.drop (p+1).toNat) (by rw[oa,x8,xE];lia) (λw h=>(lS.mp h).elim (λz=>q w (X6 z)) λz=>q w (GS z)) (by rw[u9]))
  refine(U,aY (λh=>?_) (λh=>?_))
  ·let(g1,g2,g3,g4,g5,g6):=l3 (ws:=ws) (y:=x) V V hl;refine(ims,_,ex,U,g1,g2,U,ims,g3,g4,g5,ht ?_ (w3 q (q x hx)) g6);rw[oa,oa,x8,xE];show _+1+_<=_
   lia
  refine(λrest=>(U,aY (λ_=>aY (λh=>?sw) (λ_=>rest)) (λ_=>rest))) ?el
  case sw =>
   have h:p+1<((ws.map L2.T.s).length:Int):=of_decide_eq_true h;rw[ll]at h;let(x2,aq,aD):=iN (ws:=ws) (r:=p+1) (by lia) h
   refine(_,aD,U,_,ex,U,x2,x,U,.mk _ U (_,_,U,Gs V (by rw[ll];exact g),ims,.mk _ U (_,_,U,Gs (by lia) (by rw[AF,ll];exact h),?_,ht (xs:=(ws.set p.toNat x2).set (p+1).toNat x) (by rw[AF,AF];lia) (Jl (Jl q (q x2 aq)) (q x hx)) (by rw[ZX,ZX]))))
   rw[<- ZX];exact a9 _
  case el =>
   have hc:=Pp (xs:=ws) (j:=p.toNat);rw[show((p.toNat:Nat):Int)=p by lia]at hc
   have hj:=LD (n:=8) hc.1 λw h=>hw w (hc.2 w h)
   let(g1,g2,g3,g4,g5,g6):=l3 (ws:=ws) (y:=Txt.join "" (eI ws (Z p) (Z (p+2)))) (b:=p+2) V (by lia) hl
   have h3:=fk (f:=λw:Str=>w.length) (n:=8) (xs:=eI ws (Z p) (Z (p+2))) λw h=>(hw w (hc.2 w h)).1
   refine(ims,ims,eI ws (Z p) (Z (p+2)),by rw[rK,fK],?_,g1,g2,U,ims,g3,g4,g5,ht ?_ (w3 q (hj.le (by decide))) g6)
   ·rw[show(Str.ofString "").length=0 from by decide +kernel]
    lia
   ·rw[oa,oa,x8,xE];show _+1+_<=_
    lia
theorem fg{w:Str}(h:hd l=w)(hw:w ≠ ""):l=w::l.tail:=by
 cases l with
 |nil=>exact absurd h.symm hw
 |cons v r=>rw[show v=w from h];rfl
theorem iD(h:ao (hd l)=O):l=hd l::l.tail:=by
 let(v,r,U):=qT h;rfl
theorem sZ{due:Str}:∀{l:List Str}{ns l2:List Str},fNames due l=Z (ns,l2)->(∀m∈ns,ao m=O)/\l=ns++due::l2
 |[],ns,l2,h=>by cases h
 |w::l,ns,l2,h=>by
  rw[fNames]at h
  split at h
  ·rename_i e;cases h;rw[e];exact((λ_ z=>nomatch z),U)
  ·split at h
   ·rename_i e;let((g,l'),h1,h2):=kf.mp h;cases h2;let(g1,g2):=sZ h1;refine(λm hm=>?_,by rw[g2];rfl)
    obtain z|z:=fH.mp hm
    ·rw[z];exact e
    ·exact g1 m z
   ·cases h
theorem GN{ah:List L2.T}(h:lP l=Z (ah,l2)):∃m ns,ao m=O/\(∀k∈ns,ao k=O)/\ah=[.s m,.t (ns.map .s)]/\l=m ::(ns++(":":Str)::l2):=by
 unfold lP at h
 split at h
 ·rename_i e;let((g,l'),h1,h2):=kf.mp h;cases h2;let(g1,g2):=sZ h1;exact(hd l,g,e,g1,U,by rw[<- g2];exact iD e)
 ·cases h
theorem Jn:∀{cs:List Nat}{acc:Nat},PySem.NumText.AllDigits cs->cs.foldl (λacc c=>acc*10+(c - 48)) acc<(acc+1)*10 ^ cs.length
 |[],acc,_=>by show acc<(acc+1)*10 ^ 0;lia
 |c::cs,acc,h=>by
  have h1:=h c di;have h2:=Jn (acc:=acc*10+(c - 48)) λd hd=>h d (aJ _ hd)
  rw[mD,Nat.pow_succ];refine wh h2 ?_;rw[Nat.mul_comm (10 ^ cs.length) 10,<- Nat.mul_assoc];exact Z8 _ (by lia)
theorem Mw(h:dH x=O):∃n:Nat,1<=n/\n<=9999999/\intOf x=n/\x=kc n:=by
 have hl:=tL h;have hi:=yG h;unfold dH ofB at h;simp only[tY]at h;have hd:=λc q=>tE c (vb (AE.mp h.1.2.2 c q))
 have g:x.cps.toList ≠ []:=λz=>by have:x.length=0:=congrArg E7 z;lia
 have e:=PySem.intText_digits hd g (by lia)
 rw[hi]at e;have e:=Option.some.inj e;have hlen:x.cps.toList.length=x.length:=YU;have Q:=by
  have:=h.2
  simpa using this
 obtain⟨c,r,K⟩:∃c r,x.cps.toList=c::r:=by
  cases e:x.cps.toList with
  |nil=>exact absurd e g
  |cons c r=>exact(c,r,U)
 have q:49<=c:=by
  have h1:=hd c (by rw[K];exact di)
  have:c≠48:=λz=>Q (by rw[K,z];rfl)
  lia
 have hv:=PySem.NumText.toDigits_digitsVal (x.cps.toList.length - 1) x.cps.toList (by rw[hlen];lia) hd (.inr (c,r,K,q))
 refine(PySem.NumText.digitsVal x.cps.toList,?_,?_,e,?_)
 ·rw[K];exact PySem.NumText.digitsVal_pos q
 ·have:=Jn (acc:=0) hd
  have h7:10 ^ x.cps.toList.length<=10 ^ 7:=Nat.pow_le_pow_right (by decide) (by lia)
  have:PySem.NumText.digitsVal x.cps.toList<(0+1)*10 ^ x.cps.toList.length:=this
  lia
 ·have V:=zP (PySem.NumText.digitsVal x.cps.toList);rw[hv,Y3]at V;have e3:x.cps.toList.map (Char.toNat ∘ Char.ofNat)=x.cps.toList:=by
   rw[aa2]
   ·exact List.map_id _
   ·intro d P
    have:=hd d P
    have hk:∀k:Fin 10,(Char.ofNat (48+k.val)).toNat=48+k.val:=by decide
    have:=hk (d - 48,by lia)
    rwa [show 48+(d - 48)=d by lia]at this
  rw[e3]at V;cases x with
  |mk cps =>
   have:=(Array.toList_inj.mp V).symm
   exact congrArg Str.mk this
def HdR(h:List L2.T)(p:List Str):Prop:=∀ό:Bd,ό.ok->∃g:Bd,g.ok/\L2.T.t (h ++ [ό.t])=g.t/\g.ws=p++ό.ws
def HsR(hts:List (List L2.T))(p:List Str):Prop:=∀ό:Bd,ό.ok->∃g:Bd,g.ok/\dg hts ό.t=g.t/\g.ws=p++ό.ws
theorem HsR.nil:HsR [] []:=λό h=>(ό,h,U,U)
theorem HsR.snoc{hts:List (List L2.T)}{q:List Str}{h:List L2.T}(hs:HsR hts p)(K:HdR h q):HsR (hts ++ [h]) (p++q):=λό P=>by
 let(B1,h1,V,z):=K ό P;let(B2,h2,Q,g):=hs B1 h1;exact(B2,h2,by rw[nJ,V,Q],by rw[g,z,AI])
theorem OY{h:List L2.T}(e:lO l=Z (h,l2)):∃p,HdR h (("let":Str)::p)/\l=p++l2:=by
 unfold lO at e
 split at e
 ·rename_i h1
  split at e
  ·rename_i h2
   split at e
   ·rename_i h3;have V:=iD h1;have Q:=fg U (by obtain z|z|z:=h2 <;> rw[z] <;> decide)
    have P:=iD h3
    split at e
    ·rename_i h4;let(z,g1,g2):=kf.mp e;cases g2;let(K,_,q):=cD g1;have e3:=fg K (by decide)
     refine([hd l,hd l.tail,hd l.tail.tail,(";")],λό g=>(.nam (hd l) (hd l.tail.tail) ό,(h1,h3,g),?_,?_),?_)
     ·rw[h4];rfl
     ·rw[h4];rfl
     ·show l=hd l::hd l.tail::hd l.tail.tail ::(";")::z.2;rw[q,<- e3,<- P,<- Q];exact V
    ·rename_i h4;let((ns,l'),g1,g2):=kf.mp e;cases g2;let(K,q):=sZ g1;refine(hd l::hd l.tail::hd l.tail.tail ::(ns ++ [(";":Str)]),λό g=>(.mk (hd l.tail) (hd l) (hd l.tail.tail) ns ό,(?_,h1,h3,K,g),U,?_),?_)
     ·obtain z|z|z:=h2
      ·exact .inl z
      ·exact .inr z
      ·exact absurd z h4
     ·show("let":Str)::hd l::hd l.tail::hd l.tail.tail ::(ns++(";":Str)::ό.ws)=("let":Str)::hd l::hd l.tail::hd l.tail.tail ::(ns ++ [(";":Str)]++ό.ws)
      simp
     ·show l=hd l::hd l.tail::hd l.tail.tail ::(ns ++ [(";":Str)]++l');rw[AI];show l=hd l::hd l.tail::hd l.tail.tail ::(ns++(";":Str)::l');rw[<- q,<- P,<- Q];exact V
   ·cases e
  ·cases e
 ·cases e
theorem LP{w:Str}{h:List L2.T}(e:cR w l=Z (h,l2)):∃p,HdR h p/\w::l=p++l2:=by
 unfold cR at e
 split at e
 ·rename_i hw;let(p,h1,h2):=OY e;exact(_,h1,by rw[h2,hw];rfl)
 ·split at e
  ·rename_i hw
   split at e
   ·rename_i h1;let(z,g1,g2):=kf.mp e;cases g2;let(d1,_,d2):=cD g1;have V:=fg d1 (by decide)
    let(n,P,K,q,g):=Mw h1;have e0:=fg U (λz=>by rw[z]at h1;exact absurd h1 (by decide +kernel))
    refine([w,hd l,(";")],λό Q=>(.mr w n ό,(hw,P,K,Q),?_,?_),?_)
    ·rw[q];rfl
    ·rw[g];rfl
    ·show w::l=w::hd l ::(";")::z.2;rw[d2,<- V,<- e0]
   ·cases e
  ·cases e
def nA:Ar->Str->List Str->Bd->Ar
 |.nil,m,ns,b=>.cons m ns b .nil
 |.cons m' g q r,m,ns,b=>.cons m' g q (nA r m ns b)
theorem FA:∀(a:Ar)(m ns b),(nA a m ns b).ts=a.ts ++ [.t [.s m,.t (ns.map .s),b.t]]
 |.nil,m,ns,b=>rfl
 |.cons m' g q r,m,ns,b=>by show _ ::(nA r m ns b).ts=_;rw[FA r];rfl
theorem Fz:∀(a:Ar)(m ns b),(nA a m ns b).ws=a.ws++("|":Str)::m ::(ns++(":":Str)::b.ws)
 |.nil,m,ns,b=>by show("|":Str)::m ::(ns++(":":Str) ::(b.ws ++ []))=_;rw[qp];rfl
 |.cons m' g q r,m,ns,b=>by
  show("|":Str)::m' ::(g++(":":Str) ::(q.ws++(nA r m ns b).ws))=("|":Str)::m' ::(g++(":":Str) ::(q.ws++r.ws))++_
  rw[Fz r];simp
theorem FC:∀{a:Ar}{m ns b},a.ok->ao m=O->(∀k∈ns,ao k=O)->b.ok->(nA a m ns b).ok/\nA a m ns b ≠ .nil
 |.nil,m,ns,b,_,h1,h2,h3=>((h1,h2,h3,trivial),λz=>nomatch z)
 |.cons m' g K r,m,ns,b,(g1,g2,g3,q),h1,h2,h3=>((g1,g2,g3,(FC q h1 h2 h3).1),λz=>nomatch z)
inductive OcR(c:Oc)(p:List Str):Prop
 |mk(hp:List Str)(done:Ar)(m:Str)(ns:List Str)(h1:HsR c.hts hp)(h2:done.ok)(h3:ao m=O)(h4:∀k∈ns,ao k=O)(h5:ao c.lk=O)(h6:c.arms=done.ts)(h7:c.ah=[.s m,.t (ns.map .s)])(h8:p=hp++("case":Str)::c.lk ::(done.ws++("|":Str)::m ::(ns ++ [(":":Str)])).tail)
theorem AY{α:Type}{a b:List α}(h:a ≠ []):(a++b).tail=a.tail++b:=by
 cases a with
 |nil=>exact absurd U h
 |cons x r=>rfl
theorem OcR.fed{c:Oc}{p:List Str}(h:OcR c p){ό:Bd}(g:ό.ok):∃(hp:List Str)(done:Ar),HsR c.hts hp/\done.ok/\done ≠ .nil/\ao c.lk=O/\(c.fed ό.t).arms=done.ts/\p++ό.ws=hp++("case":Str)::c.lk::done.ws.tail:=by
 let(hp,done,m,ns,h1,h2,h3,h4,h5,h6,h7,U):=h;let(o1,o2):=FC h2 h3 h4 g;refine(hp,nA done m ns ό,h1,o1,o2,h5,?_,?_)
 ·show c.arms ++ [.t (c.ah ++ [ό.t])]=_;rw[h6,h7,FA];rfl
 ·rw[Fz,AI]
  congr 1
  show("case":Str)::c.lk ::((done.ws++("|":Str)::m ::(ns ++ [(":":Str)])).tail++ό.ws)=_
  rw[<- AY (by simp)]
  simp
theorem OcR.next{c:Oc}{ah:List L2.T}(h:OcR c p)(q:ό.ok)(e:lP l=Z (ah,l2)):∃g,OcR {c.fed ό.t with ah:=ah} g/\p++ό.ws++("|":Str)::l=g++l2:=by
 let(hp,done,h1,h2,h3,h4,h5,h6):=h.fed q;let(m,ns,g1,g2,U,U):=GN e;refine(_,.mk hp done m ns h1 h2 g1 g2 h4 h5 U U,?_);have hw:done.ws ≠ []:=by cases done with
  |nil=>exact absurd U h3
  |cons _ _ _ _=>exact λz=>nomatch z
 rw[h6,AY hw];show _=(hp++("case":Str)::c.lk ::(done.ws.tail++("|":Str)::m ::(ns ++ [(":":Str)])))++l2
 simp
theorem OcR.whole{c:Oc}{p:List Str}(h:OcR c p){ό:Bd}(z:ό.ok):∃g:Bd,g.ok/\(c.fed ό.t).whole=g.t/\g.ws=p++ό.ws ++ [("end":Str)]:=by
 let(hp,done,h1,h2,h3,h4,h5,h6):=h.fed z;let(g,o1,o2,q):=h1 (.cas c.lk done) (h4,h3,h2);refine(g,o1,?_,?_)
 ·rw[<- o2];unfold Oc.whole;rw[h5];rfl
 ·rw[q,h6];show hp++("case":Str)::c.lk ::(done.ws.tail ++ [("end":Str)])=_
  simp
inductive CsR:List Oc->List Str->Prop
 |nil:CsR [] []
 |cons{c cs p q}:CsR cs p->OcR c q->CsR (c::cs) (p++q)
theorem tO:∀{cs:List Oc}{p:List Str}{ό:Bd}{l:List Str},CsR cs p->ό.ok->match bz cs ό.t l with
  |.fin b l'=>∃P:Bd,P.ok/\b=P.t/\p++ό.ws++l=P.ws++l'
  |.on ah l'=>∃g,CsR ah g/\p++ό.ws++l=g++l'
  |.bad=>True
 |_,_,ό,l,.nil,Q=>(ό,Q,U,U)
 |_,_,ό,l,.cons (p:=p) (q:=q) h1 h2,Q=>by
  rw[bz];by_cases V:hd l="|"
  ·rw[if_pos V];cases K:lP l.tail with
   |none=>trivial
   |some z =>
    let(g,g1,g2):=h2.next Q K;refine(p++g,.cons h1 g1,?_);rw[<- fg V (by decide)]at g2
    rw[AI p g,<- g2];simp
  ·rw[if_neg V];by_cases K:hd l="end"
   ·rw[if_pos K];let(P,o1,o2,o3):=h2.whole Q
    have:=tO (l:=l.tail) h1 o1
    rw[o2];have e:p++q++ό.ws++l=p++P.ws++l.tail:=by
     rw[o3,fg K (by decide)]
     simp
    rw[e];exact this
   ·rw[if_neg K];trivial
theorem NF{o:Option (L2.T×List Str)}(h:Run s o):∀{p q:List Str},CsR s.cs p->HsR s.hts q->∀{b l'},o=Z (b,l')->∃ό:Bd,ό.ok/\b=ό.t/\p++q++s.l=ό.ws++l':=by
 induction h with
 |@bad s e=>intro p q _ _ b l' z;cases z
 |@fin s b0 l0 e =>
  intro p q V Q b l' z;cases z;unfold fm at e
  split at e
  ·split at e
   ·split at e <;> cases e
   ·cases e
  ·split at e
   ·rename_i e1
    split at e
    ·rename_i K;let(ό,b1,b2,b3):=Q (.give (hd s.l.tail)) K
     have:=tO (l:=s.l.tail.tail) V b1
     have b2:dg s.hts (.t [.s "give",.s (hd s.l.tail)])=ό.t:=b2;rw[b2]at e;cases g:bz s.cs ό.t s.l.tail.tail with
     |fin b4 l4 =>
      rw[g]at e this;cases e;let(B',o1,o2,P):=this;refine(B',o1,o2,?_);rw[<- P,b3];have ee:s.l=("give":Str)::hd s.l.tail::s.l.tail.tail:=by rw[<- iD K];exact fg e1 (by decide)
      rw[ee];show p++q++("give":Str)::hd s.l.tail::s.l.tail.tail=p++(q ++ [("give":Str),hd s.l.tail])++s.l.tail.tail;simp
     |on ak l4=>rw[g]at e;cases e
     |bad=>rw[g]at e;cases e
    ·cases e
   ·split at e <;> cases e
 |@on s s' o e _ ih =>
  intro p q V Q b l' z;unfold fm at e
  split at e
  ·rename_i e1
   split at e
   ·rename_i K
    split at e
    ·rename_i ah l2 g;cases e;let(m,ns,g1,g2,U,g4):=GN g;have oc:OcR (s.hts,hd s.l.tail,[],[.s m,.t (ns.map .s)]) _:=.mk q .nil m ns Q trivial g1 g2 K U U U;let(ό,o1,o2,P):=ih (.cons V oc) .nil z;refine(ό,o1,o2,?_);rw[<- P];have ee:s.l=("case":Str)::hd s.l.tail::m ::(ns++(":":Str)::l2):=by rw[<- g4,<- iD K];exact fg e1 (by decide)
     rw[ee];show p++q++("case":Str)::hd s.l.tail::m ::(ns++(":":Str)::l2)=p++(q++("case":Str)::hd s.l.tail ::(m ::(ns ++ [(":":Str)]))) ++ []++l2
     simp
    ·cases e
   ·cases e
  ·split at e
   ·rename_i e1
    split at e
    ·rename_i K;let(ό,b1,b2,b3):=Q (.give (hd s.l.tail)) K
     have:=tO (l:=s.l.tail.tail) V b1
     have b2:dg s.hts (.t [.s "give",.s (hd s.l.tail)])=ό.t:=b2;rw[b2]at e;cases g:bz s.cs ό.t s.l.tail.tail with
     |fin b4 l4=>rw[g]at e;cases e
     |on ak l4 =>
      rw[g]at e this;cases e;let(p',o1,o2):=this;let(B',r1,r2,r3):=ih o1 .nil z;refine(B',r1,r2,?_);rw[<- r3,qp,<- o2,b3];have ee:s.l=("give":Str)::hd s.l.tail::s.l.tail.tail:=by rw[<- iD K];exact fg e1 (by decide)
      rw[ee];show p++q++("give":Str)::hd s.l.tail::s.l.tail.tail=p++(q ++ [("give":Str),hd s.l.tail])++s.l.tail.tail;simp
     |bad=>rw[g]at e;cases e
    ·cases e
   ·split at e
    ·rename_i h l2 g;cases e;let(pp,g1,g2):=LP g;let(ό,o1,o2,P):=ih V (Q.snoc g1) z;refine(ό,o1,o2,?_);rw[<- P];have e0:=(tG g).1;have ee:=fg (l:=s.l) U e0;rw[ee,g2];simp
    ·cases e
mutual
theorem Bd.cw:∀{b:Bd},b.ok->5*b.cd<=b.ws.length/\b.wt<=2*b.ws.length
 |.give x,_=>by show 5*0<=2/\3<=2*2;omega
 |.mr w n b,(_,_,_,h)=>by have:=Bd.cw h;show 5*b.cd<=b.ws.length+3/\4+b.wt<=2*(b.ws.length+3);omega
 |.nam x y b,(_,_,h)=>by have:=Bd.cw h;show 5*b.cd<=b.ws.length+5/\6+b.wt<=2*(b.ws.length+5);omega
 |.mk w x y ns b,(_,_,_,_,h)=>by have:=Bd.cw h;show 5*b.cd <=(ns++(";":Str)::b.ws).length+4/\6+ns.length+b.wt<=2*((ns++(";":Str)::b.ws).length+4);rw[oa,mD];omega
 |.cas x as,(_,hn,h)=>by
  have h1:=Ar.cw h;have h2:=h1.1 hn;have h3:=h1.2;show 5*(as.cd+1) <=(as.ws.tail ++ [("end":Str)]).length+2/\4+as.wt<=2*((as.ws.tail ++ [("end":Str)]).length+2);rw[oa,xi];show _<=_ - 1+1+2/\_<=2*(_ - 1+1+2);omega
theorem Ar.cw:∀{as:Ar},as.ok->(as ≠ .nil->5*as.cd+3<=as.ws.length)/\as.wt<=2*as.ws.length
 |.nil,_=>(λh=>absurd U h,qd _)
 |.cons m ns b .nil,(_,_,K,_)=>by
  have:=Bd.cw K
  show(_->5*(max b.cd 0)+3 <=(ns++(":":Str) ::(b.ws ++ [])).length+2)/\3+ns.length+b.wt+0<=2*((ns++(":":Str) ::(b.ws ++ [])).length+2);rw[oa,mD,qp];omega
 |.cons m ns b (.cons m' g P r),(_,_,K,hr)=>by
  have:=Bd.cw K
  have h1:=Ar.cw hr;have h2:=h1.1 (λz=>nomatch z)
  have h3:=h1.2
  generalize Ar.cons m' g P r=q at *
  show(_->5*(max b.cd q.cd)+3 <=(ns++(":":Str) ::(b.ws++q.ws)).length+2)/\3+ns.length+b.wt+q.wt<=2*((ns++(":":Str) ::(b.ws++q.ws)).length+2);rw[oa,mD,oa];omega
end
theorem vW:∀{n:Nat}{l l2:List Str}{ps:List (Str×Str)},l.length<n->fParams l=Z (ps,l2)->(∀p∈ps,ao p.1=O/\ao p.2=O)/\l=pws ps++("to":Str)::l2
 | 0,_,_,_,h,_=>absurd h (Nat.not_lt_zero _)
 |n+1,[],_,_,_,h=>by cases h
 |n+1,[w],_,_,_,h=>by
  rw[fParams]at h
  split at h
  ·rename_i e;cases h;rw[e];exact((λ_ z=>nomatch z),U)
  ·cases h
 |n+1,w::v::l,l2,ps,hn,h=>by
  rw[fParams]at h
  split at h
  ·rename_i e;cases h;rw[e];exact((λ_ z=>nomatch z),U)
  ·split at h
   ·rename_i h1
    split at h
    ·rename_i h2;let((g,l'),g1,g2):=kf.mp h;cases g2;let(o1,o2):=vW (n:=n) (by simp only[mD]at hn;lia) g1
     refine(λp hp=>?_,by rw[o2];rfl)
     obtain z|z:=fH.mp hp
     ·rw[z];exact(h1,h2)
     ·exact o1 p z
    ·cases h
   ·cases h
theorem Pg{f:L2.T}(h:oA l (Z f))(hl:l.length<=700):∃z:Fh×Bd,f=fT z/\me z/\z.2.cd<190/\l=fws z.1 z.2:=by
 cases h with
 |@ok h l4 b g K =>
  unfold fHd at g
  split at g
  ·rename_i h1
   split at g
   ·rename_i h2
    split at g
    ·rename_i ps l2 h3
     split at g
     ·rename_i h4
      split at g
      ·rename_i h5;cases g;let(g1,g2):=vW (YV _) h3;let(ό,o1,o2,q):=NF K .nil .nil U;have q:=by simpa using q
       have ee:l=fws (hd l.tail,ps,hd l2) ό:=by
        unfold fws;rw[<- q,<- fg h5 (by decide),<- iD h4,<- g2,<- iD h2]
        exact fg h1 (by decide)
       have hw:=Bd.cw o1;have hlen:(fws (hd l.tail,ps,hd l2) ό).length=(pws ps).length+5+ό.ws.length:=by show(pws ps++("to":Str)::hd l2 :: ":" :: ό.ws).length+2=_;rw[oa];show _+(ό.ws.length+3)+2=_;lia
       rw[<- ee,qI]at hlen;refine(((hd l.tail,ps,hd l2),ό),by rw[o2];rfl,(h2,h4,by lia,g1,o1,by lia),by lia,ee)
      ·cases g
     ·cases g
    ·cases g
   ·cases g
  ·cases g
theorem wF:∀{l l2 ns:List Str},bN l=Z (ns,l2)->(∀m∈ns,ao m=O)/\l=ns++l2
 |[],_,_,h=>by cases h;exact((λ_ z=>nomatch z),U)
 |w::l,l2,ns,h=>by
  rw[bN]at h
  split at h
  ·cases h;exact((λ_ z=>nomatch z),U)
  ·split at h
   ·rename_i e;let((g,l'),h1,h2):=kf.mp h;cases h2;let(g1,g2):=wF h1;refine(λm hm=>?_,by rw[g2];rfl)
    obtain z|z:=fH.mp hm
    ·rw[z];exact e
    ·exact g1 m z
   ·cases h
def MkG(m:Mk1):Prop:=ao m.1=O/\∀f∈m.2,ao f=O
theorem Ic{m:Mk1}(h:iy l=Z (m,l1)):MkG m/\l=mw m++l1:=by
 unfold iy at h
 split at h
 ·rename_i e;let((ns,l'),h1,h2):=kf.mp h;cases h2;let(g1,g2):=wF h1;refine((e,g1),?_);show l=hd l ::(ns++l');rw[<- g2];exact iD e
 ·cases h
theorem wb:∀{k:Nat}{l:List Str}{ms:List Mk1},bM k l=Z ms->ms ≠ []/\(∀m∈ms,MkG m)/\("|":Str)::l=ms.flatMap λm=>("|":Str)::mw m
 | 0,_,_,h=>by cases h
 |k+1,l,ms,h=>by
  rw[bM]at h
  split at h
  ·cases h
  ·rename_i m l1 e;let(g1,g2):=Ic e
   split at h
   ·rename_i he;cases h;have he:l1=[]:=by cases l1;rfl;cases he
    rw[he]at g2;refine(xR _ _,λx hx=>by rw[aB.mp hx];exact g1,?_)
    rw[g2];simp
   ·split at h
    ·rename_i K;let(q,h1,h2):=kf.mp h;cases h2;let(o1,o2,g):=wb h1;refine(xR _ _,λx hx=>?_,?_)
     ·obtain z|z:=fH.mp hx
      ·rw[z];exact g1
      ·exact o2 x z
     ·rw[YR,<- g,g2,<- fg K (by decide)];rfl
    ·cases h
theorem Gg{α β:Type}{f:α->List β}{x:α}:∀{xs:List α},x∈xs->(f x).length <=(xs.flatMap f).length
 |y::r,h=>by
  rw[YR,oa];obtain z|z:=fH.mp h
  ·rw[z];lia
  ·have:=Gg (f:=f) z;lia
theorem LA{k:Kd}(h:iX l=Z (k,l1))(hl:l.length<=700):x6 k/\l=kws k:=by
 unfold iX at h
 split at h
 ·cases h
 ·rename_i r l2 h1;let(z,_,U):=cD h1
  split at h
  ·rename_i h2;let(ms,h3,h4):=kf.mp h;cases h4;let(o1,o2,q):=wb h3;have ee:=by
    show l=("kind":Str)::hd l.tail ::(ms.flatMap λm=>("|":Str)::mw m).tail
    rw[<- q];show l=("kind":Str)::hd l.tail::l.tail.tail;rw[<- iD h2];exact fg z (by decide)
   have hlen:=congrArg E7 q;rw[mD,xi,xi]at hlen;have hm:=Gk ms;refine((h2,by lia,o1,λm g=>((o2 m g).1,?_,(o2 m g).2)),ee)
   have:=Gg (f:=λm=>("|":Str)::mw m) g
   have:m.2.length+2 <=(ms.flatMap λm=>("|":Str)::mw m).length:=this
   lia
  ·cases h
theorem Gq(row:Str):Txt.join " " (Txt.split row " ")=row:=by
 rw[qY];exact StrLaws.join_split ..
theorem J0{fs:List L2.T}{rows:List Str}{o:L2.T ⊕ Nat}(h:dQ n ks fs rows o):∀{r},o=.inl r->(∀row∈rows,(Txt.split row " ").length<=700)->∃(g:List Kd)(gs:List (Fh×Bd)),r=.t [tKs (ks++g),.t (fs++gs.map fT)]/\rows=g.map i7++gs.map ke/\(∀k∈g,x6 k)/\(∀z∈gs,me z/\z.2.cd<190)/\(fs ≠ []->g=[]):=by
 induction h with
 |nil =>
  intro r e _;cases e;exact([],[],by simp,U,(λ_ z=>nomatch z),(λ_ z=>nomatch z),λ_=>rfl)
 |@kind n ks row rows k l o h1 h2 _ q =>
  intro r e hl;let(g,gs,Q,P,V,K,_):=q e λrow hr=>hl row (aJ _ hr)
  let(g1,g2):=LA h2 (hl row di);refine(k::g,gs,by rw[Q];simp,?_,λx hx=>?_,K,λz=>absurd U z)
  ·rw[P,E6,vj g1.ne,<- g2,Gq];rfl
  ·obtain z|z:=fH.mp hx
   ·rw[z];exact g1
   ·exact V x z
 |um=>intro r e;cases e
 |@fn n ks fs row rows f o h1 h2 _ q =>
  intro r e hl;let(g,gs,Q,P,V,K,e5):=q e λrow hr=>hl row (aJ _ hr)
  cases e5 (by simp)
  let(z,g1,g2,g3,g4):=Pg h2 (hl row di);refine([],z::gs,by rw[Q,g1];simp,?_,λ_ z=>(nomatch z),λx hx=>?_,λ_=>rfl)
  ·rw[P];show row::gs.map ke=Txt.join " " (fws z.1 z.2)::gs.map ke;rw[<- g4,Gq]
  ·obtain y|y:=fH.mp hx
   ·rw[y];exact(g2,g3)
   ·exact K x y
 |fnX=>intro r e;cases e
theorem Run.det{o o':Option (L2.T×List Str)}(h:Run s o)(h':Run s o'):o=o':=by
 induction h generalizing o' with
 |on e _ q =>
  cases h' with
  |on g r=>rw[e]at g;cases g;exact q r
  |fin g=>rw[e]at g;cases g
  |bad g=>rw[e]at g;cases g
 |fin e =>
  cases h' with
  |on g r=>rw[e]at g;cases g
  |fin g=>rw[e]at g;cases g;rfl
  |bad g=>rw[e]at g;cases g
 |bad e =>
  cases h' with
  |on g r=>rw[e]at g;cases g
  |fin g=>rw[e]at g;cases g
  |bad g=>rfl
theorem oA.det{l:List Str}{o o':Option L2.T}(h:oA l o)(h':oA l o'):o=o':=by
 cases h with
 |xa e =>
  cases h' with
  |xa _=>rfl
  |xY _ _=>rfl
  |ET _ _ _=>rfl
  |ok g=>rw[e]at g;cases g
 |xY e r =>
  cases h' with
  |xa g=>rfl
  |xY g r'=>rfl
  |ET g r'=>rfl
  |ok g r'=>rw[e]at g;cases g;cases r.det r'
 |ET e r hl =>
  cases h' with
  |xa g=>rfl
  |xY g r'=>rfl
  |ET g r'=>rfl
  |ok g r'=>rw[e]at g;cases g;cases r.det r';cases hl
 |ok e r =>
  cases h' with
  |xa g=>rw[e]at g;cases g
  |xY g r'=>rw[e]at g;cases g;cases r.det r'
  |ET g r' hl=>rw[e]at g;cases g;cases r.det r';cases hl
  |ok g r'=>rw[e]at g;cases g;cases r.det r';rfl
theorem dQ.det{n:Nat}{ks:List Kd}{fs:List L2.T}{rows:List Str}{o o':L2.T ⊕ Nat}(h:dQ n ks fs rows o)(h':dQ n ks fs rows o'):o=o':=by
 induction h generalizing o' with
 |nil=>cases h';rfl
 |kind z K _ P =>
  cases h' with
  |kind _ g r=>rw[K]at g;cases g;exact P r
  |um _ g=>rw[K]at g;cases g
  |fn q _ _=>exact absurd (z,U) q
  |fnX q _=>exact absurd (z,U) q
 |um z K =>
  cases h' with
  |kind _ g r=>rw[K]at g;cases g
  |um _ g=>rfl
  |fn q _ _=>exact absurd (z,U) q
  |fnX q _=>exact absurd (z,U) q
 |fn z K _ P =>
  cases h' with
  |kind q _ _=>exact absurd (q,U) z
  |um q _=>exact absurd (q,U) z
  |fn _ g r=>cases K.det g;exact P r
  |fnX _ g=>cases K.det g
 |fnX z K =>
  cases h' with
  |kind q _ _=>exact absurd (q,U) z
  |um q _=>exact absurd (q,U) z
  |fn _ g r=>cases K.det g
  |fnX _ g=>rfl
def KW:PSp:=λts Q=>∃row,ts=[.s row]/\row.length<=900000/\∀b:Bool,Q (.b b)
theorem Qh{sep:Str}:∀{ws:List Str}{w:Str},w∈ws->w.length <=(Txt.join sep ws).length
 |[x],w,h=>by rw[aB.mp h];exact qd _
 |x::y::r,w,h=>by
  rw[jI,Str.length_append,Str.length_append];obtain z|z:=fH.mp h
  ·rw[z];lia
  ·have:=Qh (sep:=sep) z;lia
theorem sE{w:Str}(h:w∈Txt.split x y):w.length<=x.length:=by
 have:=Qh (sep:=y) h
 rw[qY,StrLaws.join_split]at this;exact this
theorem PV{bs:List Bool}{b:Bool}:∃bs':List Bool,bs.map L2.T.b ++ [L2.T.b b]=bs'.map L2.T.b:=(bs ++ [b],by rw[u9];rfl)
theorem HS(T:Txt K mg a):aS P w K mg base CX0 1 a.rg a.Ct [Ty] (spQ K KW):=by
 refine T.CZ.F.okQ Hx (λts Q h=>?_) (λ_ _ _ _ _ _ hr=>?_)
 ·let(_,U,_):=h;rfl
 ·have hu:=b9 hr;refine(_,_,((ag (bx (bQ hV eT (a8 _) (ZB (bR (qv 0) cM (cy af))) (ZB ay))
 (ar (aM iK))
 aN)
 (ar (aM (gj (yM U U) FJ (by rfl) T.QV (by kernel_rfl) (ae (ZB (lh U (Kk U T.nt (by kernel_rfl) (ae (ZB (gG (qv 0) (ZB ay))) ax)) (N':=[Tu,"_law_part"]) (.own U (.own U .nil)) (ka (g:=(Tg.tp [0,1])) (λ_ _ _ _ _=>((K5 (uO 0) (uO 1)),(cI Ga (mH λ_ _ _ _=>.b _) (a8 _) (ZB (eV T.gU (ae (ZB (gG (qv 1) (ZB ay))) ax))) (ZB (az af (ZB (Ko af (ZB (aU dI gL (by rfl) T.kM (by kernel_rfl) (ae (ZB (cI (fD hu U) cX (a8 _) (qv 0) af)) ax))))))))))))) ax)))))),λts Q h=>?_)
  let(row,U,hl,V):=h;have lr:row.length<=px:=xj (aR (by lia))
  refine(lr,U,aY (λ_=>V _) (λ_=>?_))
  have sl:=hZ row " | "
  refine(by decide,aR (by lia),?_)
  have rl:∀part∈Txt.split row " | ",part.length<=900000:=λpart hp=>u6 (sE hp) hl
  refine(by rw[kL,gV];exact aR (by lia),λi ys=>∃bs:List Bool,ys=bs.map .b,([],U),?_,?_)
  ·rintro i z ys hz ⟨bs,rfl⟩
   let(u,q,U):=rj hz;rw[ti]at q;let(part,WG,U):=kf.mp q;have pl:=rl part (yb WG);refine(_,U,by decide,aR (by lia),U,?_)
   exact(.inl (by decide,by decide),PV)
  ·rintro ys ⟨bs,rfl⟩
   exact(bs,L2.lQ _,V _)
theorem Wh{l:List J}(h:l.Nodup){x y:J}(i j:Nat)(hi:l[i]?=Z x)(g:l[j]?=Z y)(ne:i≠j):x≠y:=λz=>by
 subst z;let(h1,K):=iZ.mp hi;let(h2,q):=iZ.mp g;exact ne ((List.getElem_inj h).mp (K.trans q.symm))
theorem sC{ό C':J}(h1:C'≠C)(h2:C'≠ό):(B.ref C :: .ref ό::bmV).contains (.ref C')=false:=by
 have q:=beq_eq_false_iff_ne.mpr λz=>h1 (B.ref.inj z)
 have g:=beq_eq_false_iff_ne.mpr λz=>h2 (B.ref.inj z)
 rw[AH,AH,q,g];rfl
theorem Rz:(B.ref C::bm).contains (.ref C)=true:=by rw[AH,beq_self_eq_true,aa4]
theorem Ry{ό:J}:(B.ref C :: .ref ό::bm).contains (.ref ό)=true:=by rw[AH,AH,beq_self_eq_true,aa4,Zm]
section
variable{K:BT}{fn:List Str}{C C':J}{bm:List B}{ini:Option J}{i:Nat}{qs:QS}{qr:QH}{ns:List Str}{us:List T}{D:fi}{q:Sq}
theorem W9(c:cv K fn C bm ini)(h:(B.ref C::bm).contains (.ref C')=O)(k:qs (D.go i) (q.set i (.r (.xc C ns us)))):Vy K fn C' i qs qr C ns us D q:=(bm,ini,c,by rw[if_pos h];exact k)
end
def HI:PSp:=λts Q=>M2 λ(text:Str)(n:Nat)=>ts=[.s text]/\text.length<=800000/\dQ 0 [] [] (rowsOf text) (.inr n)/\Q (.t [.b O,.b O,.b ϊ,.i n])
theorem Eb(T:Txt K mg a):aS P w K mg base CX0 13 a.nY a.yD [Tk] (spQ K HI):=by
 refine T.yU.F.okQ ie (λts Q h=>?_) (λ_ _ _ _ _ _ hr=>?_)
 ·let(_,_,U,_):=h;rfl
 ·have z:=b9 hr;refine(_,_,((ag (aH 1 ie.nd (bt (dq (by rfl))))
 (ag (RQ (λ_ _=>(aK (Kc (XH (Gd T) hr T.AN (ae (qv 0) ax)))))
 (Vw (i:=2) U ie.nd U U U T.iw T.cW (λ_=>(ag (aH 3 ie.nd (Vz (ZB (NZ U U T.gW (kE T.AU U T.zS (kE T.Ha U T.Ef (kE T.Hb U T.Eg (kE T.Jk U T.HX (kE T.Hc U T.Eh (kE T.Ng U T.Lk OC)))))) (qv 2))) (sO (gj (yL U) FG (by rfl) T.gW (by kernel_rfl) (ae (ZB (FQ (fn:=fns) U zU EG (qv 2))) (ae (ZB (PZ (n:="bool") U T.Ut (by kernel_rfl))) ax))))))
 (ar (aH 1 ie.nd (bt (ai (RY U T.pX U T.gW U T.oG (qv 2)) (ai (RZ (fn:=fns) (n:="ValueError") U (by decide +kernel) U T.gW U T.Ap (by kernel_rfl) (qv 2)) (ai (XL (qv 3)) (ai (FQ (fn:=fns) U zU EG (qv 2)) aF)))))))))
 (RW U U T.oG T.pX (λ_=>(ar (aH 1 ie.nd (bt (dq (by rfl))))))
 Kl)))
 (ar (aM (XL (qv 1))))))),λts Q h=>?_)
  let(text,n,U,hl,hn,q):=h;refine(text,U,hl,λr hr=>?_,λm hm=>?_)
  ·cases hr.det hn
  cases hm.det hn;have ne:∀{x y:J}(i j:Nat),[a.aG,a.aV,a.bF,a.cF,a.ck,a.dJ,a.cm,a.fR][i]?=Z x->[a.aG,a.aV,a.bF,a.cF,a.ck,a.dJ,a.cm,a.fR][j]?=Z y->i≠j->x≠y:=λi j=>Wh T.nd i j
  have no:[a.bF,a.cF,a.ck,a.dJ,a.cm,a.fR].any (λx=>(B.ref a.aV :: .ref a.aG::bmV).contains (.ref x))=false:=by
   rw[List.any_eq_false];intro y g;rw[Bool.not_eq_true];simp only[fH,U3,or_false]at g;obtain rfl|rfl|rfl|rfl|rfl|rfl:=g
   ·exact sC (ne 2 1 U U (by decide)) (ne 2 0 U U (by decide))
   ·exact sC (ne 3 1 U U (by decide)) (ne 3 0 U U (by decide))
   ·exact sC (ne 4 1 U U (by decide)) (ne 4 0 U U (by decide))
   ·exact sC (ne 5 1 U U (by decide)) (ne 5 0 U U (by decide))
   ·exact sC (ne 6 1 U U (by decide)) (ne 6 0 U U (by decide))
   ·exact sC (ne 7 1 U U (by decide)) (ne 7 0 U U (by decide))
  refine W9 T.cW Rz ?_;refine(_,_,T.cW,?_);show _;rw[no];have ty:(B.ref a.aV :: .ref a.aG::bmV).contains (.type "ValueError")=true:=by
   rw[AH,AH];rfl
  refine(_,_,_,T.cW,U,by rfl,?_)
  refine(_,_,T.cW,?_);show _;rw[Ry];refine(_,_,T.cW,?_);show _;rw[ty];exact(U,_,_,_,T.cW,U,U,q)
structure EZ(text:Str):Prop where
 l:text.length<=30000
 n:(rowsOf text).length<=100
 w:∀row∈rowsOf text,(Txt.split row " ").length<=700
theorem Gr(text:Str):Txt.join "\n" (rowsOf text)=text:=by
 unfold rowsOf;by_cases h:text=""
 ·rw[h];decide +kernel
 ·rw[if_neg h,qY];exact StrLaws.join_split ..
theorem HB{row:Str}(h:row∈rowsOf text):row.length<=text.length:=by
 unfold rowsOf at h
 split at h
 ·cases h
 ·exact sE h
theorem EZ.prog(h:EZ text){r:L2.T}(hr:dQ 0 [] [] (rowsOf text) (.inl r)):∃ks fs,r=pT ks fs/\CN ks fs/\(∀z∈fs,z.2.cd<190)/\ks.map i7++fs.map ke=rowsOf text:=by
 let(ks,fs,Q,K,P,q,_):=J0 hr U h.w;have hn:=h.n
 have:=congrArg E7 K
 rw[oa,gV,gV]at this;exact(ks,fs,Q,(P,λz g=>(q z g).1,by lia,by lia),λz g=>(q z g).2,K.symm)
theorem EZ.sum(h:EZ text):((rowsOf text).map (·.length)).sum+(rowsOf text).length*(Str.ofString "\n").length<=16777216:=by
 have h1:=fk λw hw=>u6 (HB hw) h.l
 have h2:=h.n;rw[show(Str.ofString "\n").length=1 from by decide +kernel]
 lia
def Oa:PSp:=λts Q=>M2 λ(text:Str)(r:L2.T)=>ts=[.s text]/\text.length<=800000/\dQ 0 [] [] (rowsOf text) (.inl r)/\Q r
theorem BK(T:Txt K mg a):aS P w K mg base CX0 12 a.wG a.EL ["text"] (spQ K Oa):=by
 refine(Gd T).calm.imp λvs H Q E h=>?_
 let(dl,ts,Fp,Qp,D,r,h,fin):=h;refine(dl,ts,Fp,Qp,D,r,?_,fin);let(text,r,U,hl,hr,q):=h;exact(_,U,hl,λr' g _=>by cases hr.det g;exact q,λn hn=>by cases hr.det hn)
def KQ:PSp:=λts Q=>∃text,ts=[.s text]/\EZ text/\Q (.b O)
theorem Lg(T:Txt K mg a):aS P w K mg base CX0 193 a.vo a.GF [Tk] (spQ K KQ):=by
 refine T.AL.F.okQ qm (λts Q h=>?_) (λ_ _ _ _ _ _ hr=>?_)
 ·let(_,U,_):=h;rfl
 ·have hu:=b9 hr;refine(_,_,((ag (aH 1 qm.nd (aQ (vY T) hr T.oU (ae (qv 0) ax)))
 (ag (aH 2 qm.nd (bR (ZB (gG (qv 0) (ZB ay))) cM (RT (qv 1))))
 (ag (bx (bp (ZB (gj (yM U U) FJ (by rfl) T.QV (by kernel_rfl) (ae (ZB (lh U (NW (qv 2)) (N':=[Ty]) (.own U .nil) (ka (g:=(Tg.nm 0)) (λ_ _ _ _ _=>((uO 0),(aQ (HS T) hr T.CZ (ae (qv 0) ax))))))) ax))))
 (ar (aM iK))
 aN)
 (ag (bx (bQ F9 A6 (a8 _) (qv 1) (ZB vM))
 (ag (aH 3 qm.nd (aQ (Eb T) hr T.yU (ae (qv 0) ax)))
 (ar (aM (vN (ZB (cI (fD hu U) cX (a8 _) (qv 3) (ZB (bt (ai iK (ai iK (ai iK (ai (XL (qv 1)) aF)))))))) (sO (gj (yL U) FG (by rfl) T.gW (by kernel_rfl) (ae (bw (qv 3) af) (ae (ZB (PZ (n:="int") U T.kM (by kernel_rfl))) ax))))))))
 aN)
 (ar (aM (cI (fD hu U) cX (a8 _) (ZB (fN (ZB ay) (ZB (aQ (zI T) hr T.AK (ae (ZB (aQ (BK T) hr T.AN (ae (qv 0) ax))) ax))))) (qv 0))))))))),λts Q h=>?_)
  let(text,U,q,hq):=h;have hl:=q.l;have sl:=hZ text "\n";have rl:∀row∈Txt.split text "\n",row.length<=900000:=λrow hr=>u6 (sE hr) (by lia)
  have mem:∀{lo hi:Option Int}{i:Nat}{z:L2.T},(eI ((Txt.split text "\n").map L2.T.s) lo hi)[i]?=Z z->∃row:Str,z=.s row/\row.length<=900000:=λ{lo hi i z} h=>by
   rw[rK,ti]at h;let(row,z9,U):=kf.mp h;exact(row,U,rl row (GS (X6 (yb z9))))
  have len:∀{lo hi:Option Int},(eI ((Txt.split text "\n").map L2.T.s) lo hi).length<px:=λ{lo hi}=>by
   refine aR ?_;unfold eI;rw[x8,xE,gV]
   lia
  refine(text,U,by lia,λr hr=>?_,λn hn=>?_)
  all_goals
   refine(by decide,aR (by lia),a9 _,len,λi ys=>∃bs:List Bool,ys=bs.map .b,([],U),?_,?_)
   ·rintro i z ys hz ⟨bs,rfl⟩
    let(row,U,V):=mem hz;exact(_,U,row,U,V,λb=>PV)
   rintro ys ⟨bs,rfl⟩
   refine(bs,L2.lQ _,aY (λ_=>hq) (λ_=>?_))
  ·let(ks,fs,U,hp,ah,e):=q.prog hr;refine(text,_,U,by lia,hr,ks,fs,U,hp,ah,?_)
   rw[e];refine(_,fK _,q.sum,U,?_);rw[Gr,Ls];exact hq
  ·refine(text,n,U,by lia,hn,U,U,?_)
   have eq:eqF [L2.T.b O,.b O,.b ϊ,.i n] [L2.T.b O,.b O,.b ϊ,.i n]=true:=L7 λx hx=>by
    simp only[fH,U3,or_false]at hx;obtain rfl|rfl|rfl|rfl:=hx
    ·rfl
    ·rfl
    ·rfl
    ·exact beq_self_eq_true (n:Int)
   show _;rw[eq];exact(_,U,by rfl,hq)
def Ot:PSp:=λts Q=>∃text r,ts=[.s text]/\EZ text/\dQ 0 [] [] (rowsOf text) (.inl r)/\Q (.b O)
theorem xH(T:Txt K mg a):aS P w K mg base CX0 193 a.ja a.rF [Tk] (spQ K Ot):=by
 refine T.so.F.okQ xB (λts Q h=>?_) (λ_ _ _ _ _ _ hr=>?_)
 ·let(_,_,U,_):=h;rfl
 ·have z:=b9 hr;refine(_,_,((ar (aM (cI (fD z U) cX (a8 _) (ZB (fN (ZB ay) (ZB (aQ (zI T) hr T.AK (ae (ZB (aQ (BK T) hr T.AN (ae (qv 0) ax))) ax))))) (qv 0))))),λts Q h=>?_)
  let(text,r,U,g,hr,V):=h;have hl:=g.l;let(ks,fs,U,hp,q,e):=g.prog hr;refine(text,_,U,by lia,hr,ks,fs,U,hp,q,?_)
  rw[e];refine(_,fK _,g.sum,U,?_);rw[Gr,Ls];exact V
def Oi:PSp:=λts Q=>ts=[.jy]/\∀ks fs,CN ks fs->(∀z∈fs,z.2.cd<=39)->ks.length<=3->fs.length<=5->tw ks fs<=640->Q (pT ks fs)
structure Yy(wss:List (List Str)):Prop where
 n:wss.length<=10
 l:(wss.map E7).sum<=640
 ne:∀ws∈wss,ws ≠ []
 w:∀ws∈wss,∀w∈ws,Wc 8 w
def cP(wss:List (List Str)):List Str:=wss.map (Txt.join " ")
theorem OV{xs:List Nat}:∀{x:Nat},x∈xs->x<=xs.sum:=by
 induction xs with
 |nil=>intro x h;cases h
 |cons y r g =>
  intro x h;rw[Y5];obtain z|z:=fH.mp h
  ·lia
  ·have:=g z;lia
theorem yl{wss:List (List Str)}(h:∀ws∈wss,∀w∈ws,Wc 20 w)(z:wss ≠ [])(hn:wss.length<=10)(hl:∀ws∈wss,ws.length<=641)(hs:(wss.map E7).sum<=1281):EZ (Txt.join "\n" (cP wss)):=by
 have hr:∀r∈cP wss,10 ∉ r.cps.toList:=λr hr=>by
  let(ws,g,U):=Jf.mp hr;exact z5 λw hw=>(h ws g w hw).2
 have q:Txt.split (Txt.join "\n" (cP wss)) "\n"=cP wss:=by
  exact oX (by unfold cP;simpa using z) hr
 have sub:∀row∈rowsOf (Txt.join "\n" (cP wss)),row∈cP wss:=λrow hr=>by
  unfold rowsOf at hr
  split at hr
  ·cases hr
  ·rw[q]at hr;exact hr
 have len:(rowsOf (Txt.join "\n" (cP wss))).length <=(cP wss).length:=by
  unfold rowsOf
  split
  ·exact Fs _
  ·rw[q];exact qd _
 have K:(cP wss).length=wss.length:=gV ..;refine(?_,by lia,λrow hr=>?_)
 ·have h1:=lF "\n" (cP wss);have h2:((cP wss).map (·.length)).sum<=21*(wss.map E7).sum:=by
   unfold cP;clear hr q sub len K h1 z hn hl hs
   induction wss with
   |nil=>exact qd _
   |cons ws r P =>
    have i:=P λx hx=>h x (aJ _ hx)
    have h3:=lF " " ws;have h4:=fk (f:=λw=>w.length) λw hw=>(h ws di w hw).1
    rw[show(Str.ofString " ").length=1 from by decide +kernel]at h3
    simp only[E6,Y5]
    lia
  rw[show(Str.ofString "\n").length=1 from by decide +kernel]at h1
  lia
 ·let(ws,g,U):=Jf.mp (sub row hr);cases ws with
  |nil=>decide
  |cons w r =>
   rw[p9 (xR _ _) λx hx=>(h _ g x hx).2]
   have:=hl _ g
   lia
theorem Tx{k:Kd}(h:x6 k):Sh (kws k):=.cons (by decide) (.cons (bA h.n).2 (Sh.tail λx hx=>by
 let(m,hm,hx):=YY.mp hx;exact(Sh.cons (by decide) (.cons (bA (h.m m hm).1).2 (.nm (h.m m hm).2.2))) x hx))
theorem NH{ws:List Str}(h:∀w∈ws,Wc n w):(Txt.join " " ws).length <=(n+1)*ws.length:=by
 have h3:=lF " " ws;have h4:=fk (f:=λw=>w.length) λw hw=>(h w hw).1
 rw[show(Str.ofString " ").length=1 from by decide +kernel]at h3
 rw[Nat.add_mul]
 lia
theorem yk{wss:List (List Str)}(h:∀ws∈wss,∀w∈ws,Wc 20 w)(hn:wss.length<=10)(hl:∀ws∈wss,ws.length<=641):((cP wss).map (·.length)).sum+(cP wss).length*(Str.ofString "\n").length<=16777216:=by
 have h1:=fk (f:=λw=>w.length) (n:=21*641) (xs:=cP wss) λr hr=>by
  let(ws,g,U):=Jf.mp hr
  have:=NH (h ws g)
  have:=hl ws g
  lia
 have q:(cP wss).length=wss.length:=gV ..;rw[show(Str.ofString "\n").length=1 from by decide +kernel]
 lia
theorem Pw{ws:List Str}(h:ws ≠ []):∃w∈ws,atI (ws.map L2.T.s) (-1)=Z (.s w):=by
 obtain⟨xs,u,rfl⟩:∃xs u,ws=xs ++ [u]:=(ws.dropLast,ws.getLast h,(List.dropLast_concat_getLast h).symm)
 have e:=lH (xs.map L2.T.s) (.s u);refine(u,by simp,?_)
 rw[u9];unfold atI;rw[show List.map L2.T.s [u]=[.s u]from U,e.1];exact e.2
theorem IC{fs:List (Fh×Bd)}(hp:CN ks fs)(h3:ks.length<=3)(h5:fs.length<=5)(q:tw ks fs<=640):ks.map i7++fs.map ke=cP (ks.map kws++fs.map λz=>fws z.1 z.2)/\Yy (ks.map kws++fs.map λz=>fws z.1 z.2):=by
 refine(?_,?_,?_,λws hw=>?_,λws hw w hx=>?_)
 ·unfold cP;rw[u9,Y3,Y3]
  congr 1
  exact aa2 λk g=>vj (hp.k k g).ne
 ·rw[oa,gV,gV];lia
 ·rw[u9,Y4,Y3,Y3];exact q
 ·obtain z|z:=lS.mp hw
  ·let(k,g,U):=Jf.mp z;exact xR _ _
  ·let(k,g,U):=Jf.mp z;exact xR _ _
 ·obtain z|z:=lS.mp hw
  ·let(k,g,U):=Jf.mp z;exact(Tx (hp.k k g) w hx,Eu (hp.k k g) w hx)
  ·let(k,g,U):=Jf.mp z;exact(LW (hp.f k g) w hx,EF (hp.f k g) w hx)
theorem S1(T:Txt K mg a):aS P w K mg base CX0 200 a.yB a.QR [Tm] (vB K):=by
 have UQ:aS P w K mg base CX0 60 a.wH a.EM [WF] (spQ K Oi):=(ON T).calm;refine T.Xp.F.X4 (n:=6) (s1:=(cA ub).headD (.Pass (0,0,0,0))) (rest:=(cA ub).tail) kT U U (λ_ _ _ _ _ _ hr=>?_)
 have hu:=b9 hr;refine(_,_,_,(lj (i:=1) kT.nd U (Or.inl U) (zF (OO T) hr.aW U T.AQ.m T.AQ.F.kp T.AQ.b .nil ud (bh (pv 0) (bh b8 dW)))),((ag (aH 2 kT.nd (aQ UQ hr T.MY (ae (qv 1) ax)))
 (ag (aH 3 kT.nd (FP (aQ (Ge T) hr T.Fb (ae (qv 1) ax))))
 (ag (bx (QPW.pt (j8 (bQ (Lf (QD hr) U) FI (a8 _) (bw (qv 2) af) (ZB (bt aF))) (i6 (bQ (Lf (QD hr) U) FI (a8 _) (bw (qv 2) af) (ZB (bt aF))))))
 (ar (aH 2 kT.nd (bt (ai (bt (ai (bt (ai (XL (bw (qv 3) af)) (ai (bt (ai (bt (ai (XL (bw (qv 3) af)) (ai (bt aF) aF))) (ai (bt (ai (XL (bw (qv 3) (ZB (ij af)))) (ai (bt (ai (XL (bw (qv 3) af)) aF)) aF))) aF))) aF))) aF)) (ai (bt aF) aF)))))
 aN)
 (ag (aH 4 kT.nd (aQ (zI T) hr T.AK (ae (qv 2) ax)))
 (ag (j9 (g:=(Tg.nm 5)) PassesOwn.never U (jh U T.iJ (ae af ax)) (kb 5 kT.nd)
 (ag (aH 6 kT.nd (aQ (kg (iC T)) hr T.bo (ae (qv 1) (ae (ZB (eV T.gU (ae (qv 4) ax))) ax))))
 (ag (aH 7 kT.nd (fN (ZB ay) (ZB (az (ZB (az (ZB (bR (qv 4) cM (cy (qv 6)))) (ZB (aZ (ai (aQ (HR T) hr T.CY (ae (qv 1) (ae (bw (qv 4) (qv 6)) (ae (qv 3) ax)))) aF))))) (ZB (bR (qv 4) (cy (ZB (az (qv 6) af))) cM))))))
 (ar (bx (QPW.pt (kB (fw (bp (ZB (aQ (Lg T) hr T.AL (ae (qv 7) ax))))) (kB (fw (bp (ZB (aQ (xH T) hr T.so (ae (ZB (fN (ZB ay) (qv 4))) ax))))) (k9 (fw (bp (ZB (aQ (Lg T) hr T.AL (ae (qv 7) ax)))))))))
 (ar (aM iK))
 aN)))))
 (ar (aM iK)))))))),λp0 ns D hS hlen k=>?_,λns hlen=>?_)
 ·refine(_,U,p0,ns,_,U,hS,hlen,by decide,by decide,λd l H1 fd fl D1 s1=>?_)
  exact k d l H1 fd fl D1 s1
 ·refine(λ(rest:∀(pz:List Str)(ks:List Kd)(fs:List (Fh×Bd)),4<=pz.length->pz.length<=7->(∀w∈pz,ao w=O)->CN ks fs->(∀z∈fs,z.2.cd<190)->ks.length<=3->fs.length<=5->tw ks fs<=640->¬(ks=[]/\fs=[])->_)=>(U,λks fs hp ah h3 h5 ht=>(U,λpz p1 p2 V=>(vQ pz,_,U,0,by decide,(λj x y _ hy=>nomatch hy),λc hc=>aY (λh=>(_,U,0,by decide,(λj x y _ hy=>nomatch hy),λc2 a0=>aY (λh2=>?new) (λh2=>rest pz ks fs p1 p2 V hp (λz hz=>Y1 (ah z hz) (by decide)) h3 h5 ht λz=>h2 (a0.mpr (by rw[z.2];rfl))))) (λh=>rest pz ks fs p1 p2 V hp (λz hz=>Y1 (ah z hz) (by decide)) h3 h5 ht λz=>h (hc.mpr (by rw[z.1];rfl))))))) ?rest
  case new =>
   let(w0,m0,e0):=iN (ws:=pz) (r:=0) (by decide) (by lia)
   let(w1,m1,e1):=iN (ws:=pz) (r:=1) (by decide) (by lia)
   let(w2,m2,e2):=iN (ws:=pz) (r:=2) (by decide) (by lia)
   let(w3,m3,e3):=Pw (ws:=pz) (λz=>by rw[z]at p1;exact absurd p1 (by decide))
   refine(_,e0,U,_,e1,U,_,e3,U,_,e2,U,rest pz [(w0,[(w1,[]),(w3,[w2])])] [] p1 p2 V (λk hk=>?_,λ_ z=>(nomatch z),by show 1<=100000;decide,by show 0<=100000;decide) (λ_ z=>nomatch z) (by show 1<=3;decide) (by show 0<=5;decide) (by show 6+0+0<=640;decide) (λz=>nomatch z.1))
   rw[aB.mp hk];refine(V w0 m0,by show 2<=700;decide,(λz=>nomatch z),λm hm=>?_)
   have hm:m ∈ [(Prod.mk w1 ([]:List Str)),(w3,[w2])]:=hm;obtain z|z:=fH.mp hm
   ·rw[z];exact(V w1 m1,by show 0<=700;decide,λ_ y=>nomatch y)
   ·rw[aB.mp z];exact(V w3 m3,by show 1<=700;decide,λf hf=>by rw[aB.mp hf];exact V w2 m2)
  intro pz ks fs p1 p2 V hp ah h3 h5 ht aV;refine(ks,fs,U,hp,ah,?_);let(er,rs):=IC hp h3 h5 ht;have hw:=Dm hp;have WJ:ks.map kws++fs.map (λz=>fws z.1 z.2) ≠ []:=λz=>aV (by simpa using z)
  rw[er]at hw;rw[er]
  generalize ks.map kws++fs.map (λz=>fws z.1 z.2)=wss at *
  have rl:(cP wss).length=wss.length:=gV ..;have ll:((cP wss).map L2.T.s).length=wss.length:=by rw[gV,rl]
  have rn:=rs.n;have RK:∀ws∈wss,∀w∈ws,Wc 20 w:=λws h w hw=>(rs.w ws h w hw).le (by decide)
  have av:∀ws∈wss,ws.length<=640:=λws h=>u6 (OV (List.mem_map_of_mem h)) rs.l
  have RJ:∀ws∈wss,ws.length<=641:=λws h=>ZI (av ws h)
  have YD:=rs.l;have aG:=yl RK WJ rn RJ (by lia)
  have XA:=yk RK rn RJ;have pos:0<wss.length:=by cases wss;exact absurd U WJ;simp
  refine(by decide,by decide,λi q=>∃o5 o6 o7:Sl,q=[.r (.z ns),.r .jy,.o (pT ks fs),.o (.zl (pz.map .s)),.o (.l ((cP wss).map .s)),o5,o6,o7],(_,_,_,U),?_,?_)
  ·rintro i z q hz ⟨o5,o6,o7,rfl⟩
   refine(_,U,by rw[ll];lia,by rw[ll];lia,λp q0 q1=>?_)
   rw[ll]at q1;have ak:p.toNat<wss.length:=by lia
   have hm:=Zd ak;have ex:atI ((cP wss).map L2.T.s) p=Z (.s (Txt.join " " wss[p.toNat])):=by
    unfold atI;rw[Gs q0 (by rw[ll];exact q1)]
    show((cP wss).map L2.T.s)[p.toNat]?=_;unfold cP;rw[ti,ti,rZ ak];rfl
   refine(a9 _,_,ex,pz,wss[p.toNat],U,p1,p2,V,rs.ne _ hm,av _ hm,rs.w _ hm,λQ w1 w2=>?_)
   let(g1,g2,g3,g4,g5,g6):=l3 (ws:=cP wss) (y:=Txt.join " " Q) (b:=p+1) q0 (by lia) (by lia)
   have aL:(cP wss).take p.toNat ++ [Txt.join " " Q]++(cP wss).drop (p+1).toNat=cP (wss.take p.toNat ++ [Q]++wss.drop (p+1).toNat):=by
    unfold cP;rw[u9,u9,ZK,ZJ];rfl
   rw[aL]at g6;have mem:∀ws∈wss.take p.toNat ++ [Q]++wss.drop (p+1).toNat,ws∈wss\/ws=Q:=λws h=>by
    obtain z|z:=lS.mp h
    ·obtain z|z:=lS.mp z
     ·exact .inl (X6 z)
     ·exact .inr (aB.mp z)
    ·exact .inl (GS z)
   have aq:∀ws∈wss.take p.toNat ++ [Q]++wss.drop (p+1).toNat,∀w∈ws,Wc 20 w:=λws h=>(mem ws h).elim (RK ws) λz=>by rw[z];exact w2
   have tl:∀ws∈wss.take p.toNat ++ [Q]++wss.drop (p+1).toNat,ws.length<=641:=λws h=>(mem ws h).elim (RJ ws) λz=>by rw[z];exact w1
   have tn:(wss.take p.toNat ++ [Q]++wss.drop (p+1).toNat).length<=10:=by
    rw[oa,oa,x8,xE];show _+1+_<=_
    lia
   have ts:((wss.take p.toNat ++ [Q]++wss.drop (p+1).toNat).map E7).sum<=1281:=by
    have e:wss=wss.take p.toNat++wss.drop p.toNat:=(List.take_append_drop ..).symm;have e2:=congrArg (λl=>(l.map E7).sum) e
    simp only[u9,Y4]at e2;rw[UO ak,E6,Y5]at e2;rw[u9,Y4,u9,Y4,show(p+1).toNat=p.toNat+1 by lia]
    show _+(Q.length+0)+_<=_
    lia
   have aD:=yl aq (by simp) tn tl ts
   have Xz:=yk aq tn tl;refine(g1,g2,U,a9 _,g3,g4,g5,_,by rw[g6];exact fK _,Xz,?_)
   refine(_,U,aD,_,fK _,XA,_,_,U,aG,hw,_,U,aD,_,_,_,U)
  ·rintro q ⟨o5,o6,o7,rfl⟩
   rfl
end
variable{mg:Str->Option B}
theorem all_mk{l:W.OpenLaw}{w:Da}{K:BT}{h:Ev}{fa:J}(X:K.In h)(G:h.Ns mainGlobals mg)(hfa:mg "law"=Z (.ref fa))
  {aG:J} (xu:W.nsIn K mainGlobals "PurseError"=Z (Z (.ref aG))) (xt:W.keepIn K (.ref aG)=O)
  (xr:jV K fns aG (bmV) Y=O)
  {aV:J} (G9:W.nsIn K mainGlobals "NoText"=Z (Z (.ref aV))) (G5:W.keepIn K (.ref aV)=O)
  {yJ:ClassData} (US:W.clsIn K aV=Z yJ)
  (UT:W.nsIn K yJ.ns "__init__"=Z (Z (.ref gm))) (GZ:LK K gm "__init__" "NoText.__init__" sF T4 T2 T7 T8 TY Ua EC T9 TX) (G7:CI K EC "NoText.__init__") (GY:KI K gm) (G6:W.isFn K (.ref gm)=O)
  (GX:jV K fns aV (.ref aG::bmV) (Z gm)=O)
  {bF:J} (zc:W.nsIn K mainGlobals "NoProgram"=Z (Z (.ref bF))) (y8:W.keepIn K (.ref bF)=O)
  {rL:ClassData} (Nc:W.clsIn K bF=Z rL)
  (Nf:W.nsIn K rL.ns "__init__"=Z (Z (.ref c7))) (y7:LK K c7 "__init__" "NoProgram.__init__" qj M5 M4 M6 M7 M3 M9 xT M8 M1) (za:CI K xT "NoProgram.__init__") (y4:KI K c7) (y9:W.isFn K (.ref c7)=O)
  (yZ:jV K fns bF (.ref aG::bmV) (Z c7)=O)
  {cF:J} (Di:W.nsIn K mainGlobals "NoValue"=Z (Z (.ref cF))) (C9:W.keepIn K (.ref cF)=O)
  (C2:jV K fns cF (.ref aG::bmV) Y=O)
  {ck:J} (Dj:W.nsIn K mainGlobals "NoPaper"=Z (Z (.ref ck))) (Dc:W.keepIn K (.ref ck)=O)
  {wX:ClassData} (Q9:W.clsIn K ck=Z wX)
  (Rb:W.nsIn K wX.ns "__init__"=Z (Z (.ref fP))) (C7:LK K fP "__init__" "NoPaper.__init__" vE Qo Qm Qs Qu Qk Qy Ca Qw Qi) (Dg:CI K Ca "NoPaper.__init__") (C5:KI K fP) (De:W.isFn K (.ref fP)=O)
  (C3:jV K fns ck (.ref aG::bmV) (Z fP)=O)
  {dJ:J} (G8:W.nsIn K mainGlobals "NoTurn"=Z (Z (.ref dJ))) (G4:W.keepIn K (.ref dJ)=O)
  (GW:jV K fns dJ (.ref aG::bmV) Y=O)
  {cm:J} (Dk:W.nsIn K mainGlobals "NoChain"=Z (Z (.ref cm))) (Dd:W.keepIn K (.ref cm)=O)
  {wY:ClassData} (Ra:W.clsIn K cm=Z wY)
  (Rc:W.nsIn K wY.ns "__init__"=Z (Z (.ref fQ))) (C8:LK K fQ "__init__" "NoChain.__init__" vF Qq Qn Qt Qv Ql Qz Cb Qx Qj) (Dh:CI K Cb "NoChain.__init__") (C6:KI K fQ) (Df:W.isFn K (.ref fQ)=O)
  (C4:jV K fns cm (.ref aG::bmV) (Z fQ)=O)
  {fR:J} (Jj:W.nsIn K mainGlobals "NoRow"=Z (Z (.ref fR))) (Jh:W.keepIn K (.ref fR)=O)
  (Jg:jV K fns fR (.ref aG::bmV) Y=O)
  {aq:J} (Bt:W.nsIn K mainGlobals "RowWords"=Z (Z (.ref aq))) (BG:W.plainGet K aq Str.empty=O) (BE:W.hasDictIn K aq=O) (BB:W.plainOver K aq=O)
  (Bz:W.findIn K (.ref aq) "__setattr__"=Z (Z (.builtin "object.__setattr__"))) (Bx:W.makesIn K aq=O) (Bv:W.keepIn K (.ref aq)=O)
  (qN:bU K aq "words")
  (pB:bU K aq "number")
  (qO:bU K aq "place")
  (sQ:DM K aq "__init__" "RowWords.__init__" ib cU)
  (qJ:DM K aq "ahead" "RowWords.ahead" gJ dF)
  (mY:DM K aq "has_more" "RowWords.has_more" fu cu)
  (sP:DM K aq "take" "RowWords.take" ia eD)
  (mX:DM K aq "take_due" "RowWords.take_due" fq cq)
  (mn:DM K aq "take_name" "RowWords.take_name" eQ cb)
  (jx:DM K aq "take_names_to" "RowWords.take_names_to" cS bG)
  (lq:DM K aq "take_coins" "RowWords.take_coins" dR bV)
  (pA:DM K aq "finish" "RowWords.finish" gE c8)
  {aD:J} (Bu:W.nsIn K mainGlobals "OpenCase"=Z (Z (.ref aD))) (BH:W.plainGet K aD Str.empty=O) (BF:W.hasDictIn K aD=O) (BD:W.plainOver K aD=O)
  (BA:W.findIn K (.ref aD) "__setattr__"=Z (Z (.builtin "object.__setattr__"))) (By:W.makesIn K aD=O) (Bw:W.keepIn K (.ref aD)=O)
  (qP:bU K aD "heads")
  (pC:bU K aD "looked")
  (sS:bU K aD "arms")
  (mZ:bU K aD "arm_head")
  (sR:DM K aD "__init__" "OpenCase.__init__" ic cV)
  (mq:DM K aD "begin_arm" "OpenCase.begin_arm" eR cc)
  (lu:DM K aD "finish_arm" "OpenCase.finish_arm" dS bW)
  (qK:DM K aD "whole" "OpenCase.whole" gK dG)
  (xnd:decide [aG,aV,bF,cF,ck,dJ,cm,fR].Nodup=O)
  (Ik:DY K "is_name" sJ nZ)
  (Er:DY K "is_coins" pb lM)
  (O0:DY K "is_of" zo vp)
  (Ti:DY K "read" DF wG)
  (BY:DY K "read_kind" mL jL)
  (zV:DY K "read_maker" kX i8)
  (uP:DY K "read_function" iO gw)
  (B0:DY K "read_body" mO jN)
  (zY:DY K "close_arms" k6 jb)
  (xN:DY K "under_heads" jY iE)
  (BZ:DY K "read_head" mM jM)
  (Ep:DY K "read_let" oZ lL)
  (Tr:DY K "_law_deal" DL Ai)
  (Tq:DY K "_law_draw" DK Ah)
  (Tn:DY K "_law_name" DH Af)
  (Tj:DY K "_law_pool" DG Ae)
  (B3:DY K "_law_good_name" mP jO)
  (Wr:DY K "_law_one" JX Gx)
  (Te:DY K "_law_some" DD Ac)
  (To:DY K "_law_kind" DI Ag)
  (Ts:DY K "_law_body" DN Aj)
  (Tp:DY K "_law_form" DJ wH)
  (B5:DY K "_law_body_text" mR jQ)
  (Tf:DY K "_law_rows" DE Ad)
  (Td:DY K "_law_word" DC Ab)
  (wm:DY K "_law_behind_names" jo gS)
  (zW:DY K "_law_good_coins" kY i9)
  (zZ:DY K "_law_behind_arm" k7 jc)
  (xP:DY K "_law_behind_head" j4 iG)
  (xQ:DY K "_law_behind_body" j6 iH)
  (B4:DY K "_law_good_kind" mQ jP)
  (uQ:DY K "_law_good_function" iP gx)
  (xO:DY K "_law_first_wrong" jZ iF)
  (Et:DY K "_law_bad_word" pe lN)
  (Lx:DY K "_law_spoilt" vH q9)
  (Ly:DY K "_law_beyond" vI rg)
  (Ij:DY K "_law_refused" sI nY)
  (OZ:DY K "_law_right" zm vo)
  (zX:DY K "_law_good_again" kZ ja)
  (QZ:NI K "law" yB) (Ws:LK K yB "law" "law" ub XW XU TL Ul SK Uv My Um XC) (W5:CI K My "law") (Wu:KI K yB)
  (UZ:NB K "len")
  (U2:NB K "all")
  (U1:NB K "any")
  (Q7:NB K "list")
  (Na:NB K "tuple")
  (UW:NB K "str")
  (U0:NB K "int")
  (Q8:NB K "bool")
  (C1:NB K "reversed")
  (UY:NB K "max")
  (UX:NB K "min")
  (Nb:NB K "range")
  (yW:NB K "isinstance")
  (AR:NB K "enumerate")
  (yX:NB K "ValueError")
  {fU:J} {xJ:Option J} {ng:Array B} {zR:Nat} {xy:Array (Option B)}
  (zd:W.nsIn K mainGlobals "KEPT_WORDS"=Z (Z (.ref fU))) (yY:K.lookup fU=Z (.type "tuple",xJ,.seq ng zR,xy)) (pZ:Vals ((["kind","def","to","let","make","call","name","case","end","pay","get","give"]:List Str).map V.str) ng.toList)
  {Hk:Tok} (Hd:W.nsIn K mainGlobals "LETTERS"=Z (Z (.str "abcdefghijklmnopqrstuvwxyz" Hk)))
  {Hl:Tok} (He:W.nsIn K mainGlobals "FIGURES"=Z (Z (.str "0123456789" Hl)))
  {vz:Tok} (vt:W.nsIn K mainGlobals "LONGEST_NAME"=Z (Z (.int 8 vz)))
  {uN:Tok} (uK:W.nsIn K mainGlobals "LONGEST_COINS"=Z (Z (.int 7 uN)))
  : ∃fd:Ch,(∀(s:ϋ)(v:B),BindsTo s fd ([v],[]) [("_law_script",v)])/\∀base:Ev,K.In base->base.Ns mainGlobals mg->aS l.prog w K mg base CX0 200 fa fd [Tm] (vB K):=by
 have e:=hfa.symm.trans (W.mg_of X G QZ);cases e;have oh:=pN GZ G7 GY;have lT:=pN y7 za y4;have pV:=pN C7 Dg C5;have pW:=pN C8 Dh C6;let(Jc,_,yT):=Ik;let(EX,_,xl):=Er;let(PC,_,GV):=O0;let(Uz,_,MO):=Ti;let(CF,_,uD):=BY;let(As,_,sd):=zV;let(uW,_,mf):=uP;let(CH,_,uF):=B0;let(Aw,_,sg):=zY;let(xZ,_,oP):=xN;let(CG,_,uE):=BZ;let(EW,_,xk):=Ep;let(UG,_,MU):=Tr;let(UE,_,MT):=Tq;let(UB,_,MQ):=Tn;let(UA,_,MP):=Tj;let(CJ,_,uG):=B3;let(Xe,_,Q0):=Wr;let(Ux,_,MM):=Te;let(UC,_,MR):=To;let(UH,_,MV):=Ts;let(UD,_,MS):=Tp;let(CL,_,uI):=B5;let(Uy,_,MN):=Tf;let(Uw,_,ML):=Td;let(xg,_,nH):=wm;let(Au,_,se):=zW;let(Ax,_,si):=zZ;let(x4,_,oR):=xP;let(x5,_,oS):=xQ;let(CK,_,uH):=B4;let(uX,_,mh):=uQ;let(x3,_,oQ):=xO;let(EY,_,xm):=Et;let(MG,_,CU):=Lx;let(MH,_,CV):=Ly;let(Jb,_,yS):=Ij;let(PB,_,GU):=OZ;let(Av,_,sf):=zX;have Q5:=pN Ws W5 Wu;let(iU,_,gA):=sQ;let(tU,_,fV):=qJ;let(oz,_,dw):=mY;let(uZ,_,gy):=sP;let(oy,_,dv):=mX;let(nC,_,c9):=mn;let(kh,_,b6):=jx;let(mz,_,cN):=lq;let(rY,_,fh):=pA;let(iV,_,gB):=sR;let(nE,_,de):=mq;let(mB,_,cO):=lu;let(tV,_,fW):=qK;have T:Txt K mg (aG,aV,gm,_,bF,c7,_,cF,ck,fP,_,dJ,cm,fQ,_,fR,aq,cU,_,dF,_,cu,_,eD,_,cq,_,cb,_,bG,_,bV,_,c8,_,aD,cV,_,cc,_,bW,_,dG,_,nZ,_,lM,_,vp,_,wG,_,jL,_,i8,_,gw,_,jN,_,jb,_,iE,_,jM,_,lL,_,Ai,_,Ah,_,Af,_,Ae,_,jO,_,Gx,_,Ac,_,Ag,_,Aj,_,wH,_,jQ,_,Ad,_,Ab,_,gS,_,i9,_,jc,_,iG,_,iH,_,jP,_,gx,_,iF,_,lN,_,q9,_,rg,_,nY,_,vo,_,ja,_,yB,_,fU):=(jA xr,W.mg_of X G xu,xt,jA GX,W.mg_of X G G9,G5,oh,G6,oh.b2,jA yZ,W.mg_of X G zc,y8,lT,y9,lT.b3,jA C2,W.mg_of X G Di,C9,jA C3,W.mg_of X G Dj,Dc,pV,De,pV.b2,jA GW,W.mg_of X G G8,G4,jA C4,W.mg_of X G Dk,Dd,pW,Df,pW.b2,jA Jg,W.mg_of X G Jj,Jh,(BG,BE,BB,Bz),W.mg_of X G Bt,(Bx,iU.1,iU.2,Bv),qN,pB,qO,gA,iU,gA.b3,fV,tU,fV.b1,dw,oz,dw.b1,gy,uZ,gy.b1,dv,oy,dv.b2,c9,nC,c9.b1,b6,kh,b6.b2,cN,mz,cN.b1,fh,rY,fh.b1,(BH,BF,BD,BA),W.mg_of X G Bu,(By,iV.1,iV.2,Bw),qP,pC,sS,mZ,gB,iV,gB.b3,de,nE,de.b2,cO,mB,cO.b2,fW,tV,fW.b1,of_decide_eq_true xnd,(yT,W.mg_of X G Jc,yT.b1),(xl,W.mg_of X G EX,xl.b1),(GV,W.mg_of X G PC,GV.b3),(MO,W.mg_of X G Uz,MO.b1),(uD,W.mg_of X G CF,uD.b1),(sd,W.mg_of X G As,sd.b1),(mf,W.mg_of X G uW,mf.b1),(uF,W.mg_of X G CH,uF.b1),(sg,W.mg_of X G Aw,sg.b3),(oP,W.mg_of X G xZ,oP.b2),(uE,W.mg_of X G CG,uE.b2),(xk,W.mg_of X G EW,xk.b1),(MU,W.mg_of X G UG,MU.b2),(MT,W.mg_of X G UE,MT.b2),(MQ,W.mg_of X G UB,MQ.b1),(MP,W.mg_of X G UA,MP.b1),(uG,W.mg_of X G CJ,uG.b1),(Q0,W.mg_of X G Xe,Q0.b2),(MM,W.mg_of X G Ux,MM.b3),(MR,W.mg_of X G UC,MR.b2),(MV,W.mg_of X G UH,MV.b5),(MS,W.mg_of X G UD,MS.b1),(uI,W.mg_of X G CL,uI.b1),(MN,W.mg_of X G Uy,MN.b1),(ML,W.mg_of X G Uw,ML.b2),(nH,W.mg_of X G xg,nH.b2),(se,W.mg_of X G Au,se.b1),(si,W.mg_of X G Ax,si.b2),(oR,W.mg_of X G x4,oR.b2),(oS,W.mg_of X G x5,oS.b2),(uH,W.mg_of X G CK,uH.b1),(mh,W.mg_of X G uX,mh.b1),(oQ,W.mg_of X G x3,oQ.b1),(xm,W.mg_of X G EY,xm.b3),(CU,W.mg_of X G MG,CU.b3),(CV,W.mg_of X G MH,CV.b1),(yS,W.mg_of X G Jb,yS.b1),(GU,W.mg_of X G PB,GU.b1),(sf,W.mg_of X G Av,sf.b1),(Q5,W.mg_of X G QZ,Q5.b1),W.mg_none_of X G UZ,W.mg_none_of X G U2,W.mg_none_of X G U1,W.mg_none_of X G Q7,W.mg_none_of X G Na,W.mg_none_of X G UW,W.mg_none_of X G U0,W.mg_none_of X G Q8,W.mg_none_of X G C1,W.mg_none_of X G UY,W.mg_none_of X G UX,W.mg_none_of X G Nb,W.mg_none_of X G yW,W.mg_none_of X G AR,W.mg_none_of X G yX,W.mg_of X G zd,λ_=>.inr (_,_,_,yY,U,U,Hq pZ,pZ),(_,W.mg_of X G Hd),(_,W.mg_of X G He),(_,W.mg_of X G vt),(_,W.mg_of X G uK))
 exact(W.fnOf "law" "law" (iI ub) (cA ub) (au ub) .none TL Ul SK Uv My Um,λs v=>.of_eq U,λbase _ _=>S1 T)
theorem walk{l:W.OpenLaw}{q:Db}{loose:List Str}{XP:(Str->Option B)->Ev->Prop}{P:Da->Ev->Prop}{d:DefRec}{K:Params->BT}(hn:l.most=Z 63)(g:d.params.defaults=[])
  (Q:∀(w:Da)(h:Ev),P w h->(K w.params).In h)
  (F:∀(w:Da)(mg:Str->Option B)(fa:J)(h:Ev),(K w.params).In h->h.Ns mainGlobals mg->mg d.name=Z (.ref fa) ->
   ∃fd:Ch,(∀(s:ϋ)(u:B),BindsTo s fd ([u],[]) [("_law_script",u)])/\∀base:Ev,(K w.params).In base->base.Ns mainGlobals mg->aS l.prog w (K w.params) mg base CX0 200 fa fd [Tm] (vB (K w.params))):
  W.WalkO q loose XP P l.row.toRowW d [] (λf vs=>PySem.call f vs) :=
 L2.Nh (n:=63) (k:=200) (x:="_law_script") (CX:=λ_=>CX0) (sp:=λw=>vB (K w.params)) hn (by decide) g (U,by decide,by decide) Q F (λ_ _ a ns hl hO V=>(a,ns,U,WY hO V,hl,λ_=>rfl)) λ_ _ _ _ _ z=>z
end K04
namespace PySem.W.Fast
def tw10027210186068832872:=Nat
def tw1009062470099365851:=Nat
def tw10216154660348006724:=Nat
def tw10227278396592524439:=Nat
def tw10263145329435464580:=Nat
def tw10298576877584384259:=Nat
def tw10329249801617678748:=Nat
def tw10337001252968564978:=Nat
def tw10510486974106878853:=Nat
def tw10517859952361706548:=Nat
def tw10552305838045230136:=Nat
def tw10639457752837924198:=Nat
def tw10687955903582061305:=Nat
def tw10698191328656839932:=Nat
def tw10734701377016091140:=Nat
def tw10807459562027492444:=Nat
def tw10933833964167766740:=Nat
def tw10953988340127083871:=Nat
def tw11040038151903321217:=Nat
def tw1112143430151469961:=Nat
def tw11166022224494710187:=Nat
def tw11178420528913397679:=Nat
def tw11292132762250755020:=Nat
def tw11401511813939836091:=Nat
def tw11463708001434574790:=Nat
def tw11470464940324983933:=Nat
def tw11608370153537842145:=Nat
def tw11700868627141274784:=Nat
def tw11739944716397030822:=Nat
def tw11759592642268280010:=Nat
def tw11770668976950453734:=Nat
def tw11802050679098236501:=Nat
def tw1183305427786864138:=Nat
def tw11839278097575673433:=Nat
def tw11850247664386972424:=Nat
def tw1188208880776901419:=Nat
def tw11993070785888835654:=Nat
def tw11993981195087680707:=Nat
def tw12069513694629837153:=Nat
def tw12103736227835729528:=Nat
def tw1213341769664733864:=Nat
def tw12134225092571867439:=Nat
def tw12187362121339608632:=Nat
def tw12213900046846749100:=Nat
def tw12324934668353481441:=Nat
def tw12349283670582628110:=Nat
def tw12481176515220170916:=Nat
def tw12515492679485134209:=Nat
def tw12571300490006980308:=Nat
def tw12592027926656411737:=Nat
def tw12670043040369924392:=Nat
def tw12703154012499051751:=Nat
def tw12913739339451620363:=Nat
def tw12918447315106200466:=Nat
def tw12960613048881250469:=Nat
def tw13000380501002682879:=Nat
def tw1326844219609264824:=Nat
def tw13377560782832099399:=Nat
def tw13421088665822814987:=Nat
def tw13555625803725238450:=Nat
def tw13643132560666614474:=Nat
def tw13656866065155396967:=Nat
def tw13698212248252483520:=Nat
def tw13703226459710252120:=Nat
def tw13750978811592401528:=Nat
def tw13850725163645975714:=Nat
def tw13859964954044254646:=Nat
def tw13922018533380178500:=Nat
def tw13927619466440635516:=Nat
def tw13947267797758567896:=Nat
def tw1404101705564070350:=Nat
def tw14207825181582055739:=Nat
def tw14217675626679736446:=Nat
def tw14248851855148254061:=Nat
def tw1425974110651602644:=Nat
def tw14373953733180682968:=Nat
def tw14380003654648092126:=Nat
def tw1460549757065537744:=Nat
def tw14611662688639128903:=Nat
def tw14618070421493056819:=Nat
def tw14715776020228197432:=Nat
def tw14849724252957045053:=Nat
def tw14855462043502557068:=Nat
def tw14912632076812097095:=Nat
def tw1507506450062299465:=Nat
def tw15129935933612263432:=Nat
def tw15207170421609970610:=Nat
def tw15207957665981576053:=Nat
def tw15291041517514280339:=Nat
def tw15302291049155287462:=Nat
def tw15315262008614156084:=Nat
def tw1554301128678007344:=Nat
def tw15555382797082181752:=Nat
def tw1561002898721281710:=Nat
def tw15655981852438116078:=Nat
def tw15755466111134215436:=Nat
def tw15781266176404771654:=Nat
def tw15816837870408124237:=Nat
def tw15825713205363407302:=Nat
def tw15847395084508995844:=Nat
def tw15893528886373679560:=Nat
def tw15901160176654876272:=Nat
def tw15947218672728358563:=Nat
def tw16082179118793469419:=Nat
def tw1612149448213604494:=Nat
def tw16157168601965783858:=Nat
def tw16158512565987501773:=Nat
def tw16217604282369260065:=Nat
def tw16222238154004934806:=Nat
def tw16263917035409302399:=Nat
def tw16320669767317952133:=Nat
def tw16335787960583316531:=Nat
def tw16458174816232675678:=Nat
def tw16472425980870299207:=Nat
def tw16492101233681236425:=Nat
def tw16553442363008895306:=Nat
def tw16556479856528632668:=Nat
def tw16613904130343430983:=Nat
def tw16660193057762689054:=Nat
def tw16688109878507761679:=Nat
def tw16789490328493568279:=Nat
def tw16940872089400104781:=Nat
def tw16958893881444597503:=Nat
def tw16978351473105685394:=Nat
def tw17090426998372693211:=Nat
def tw17114306494375707727:=Nat
def tw17375656092252646737:=Nat
def tw17413903342628826537:=Nat
def tw17434789152224220816:=Nat
def tw1749003142947068505:=Nat
def tw17503260143443505559:=Nat
def tw1750520969960600577:=Nat
def tw1755510626651739728:=Nat
def tw17559347294785867783:=Nat
def tw17607512337959969042:=Nat
def tw17617915359145073904:=Nat
def tw17622797908392011688:=Nat
def tw17646024521592064700:=Nat
def tw1768837191446448654:=Nat
def tw17702074918225849447:=Nat
def tw17704587243840321477:=Nat
def tw17778809915884690124:=Nat
def tw17793210813586087203:=Nat
def tw17886558798442935583:=Nat
def tw17895010453539103419:=Nat
def tw18014421077856951293:=Nat
def tw18051824134856883494:=Nat
def tw18052100751895833483:=Nat
def tw1814434473882783300:=Nat
def tw18158440067745896840:=Nat
def tw18211280509176347136:=Nat
def tw18272847980042639111:=Nat
def tw18303898357487201064:=Nat
def tw18316011449692991232:=Nat
def tw183827620655968569:=Nat
def tw18397267461478457758:=Nat
def tw1864533098915135216:=Nat
def tw1898681701733986408:=Nat
def tw2035423722360101032:=Nat
def tw2065749483383896793:=Nat
def tw2105413904507099008:=Nat
def tw2249216888624854271:=Nat
def tw2305646252625650782:=Nat
def tw2316594350986524144:=Nat
def tw2345315156643648938:=Nat
def tw2362769700077872041:=Nat
def tw2453664874389205949:=Nat
def tw2528113942065602210:=Nat
def tw2560486191264368375:=Nat
def tw2577697480310191583:=Nat
def tw258847926261035081:=Nat
def tw2692804141747962036:=Nat
def tw2703113121761742352:=Nat
def tw2774963365778864293:=Nat
def tw2831157555055532057:=Nat
def tw2912577932677376671:=Nat
def tw2961538571693142355:=Nat
def tw2973446851139012399:=Nat
def tw2987641075630278752:=Nat
def tw3018140073505164498:=Nat
def tw3093933584005709065:=Nat
def tw3095042669195031211:=Nat
def tw321602191732555289:=Nat
def tw3330560084432842671:=Nat
def tw3383149997430061414:=Nat
def tw3403001671268281281:=Nat
def tw3512563923315699379:=Nat
def tw3580941775013770022:=Nat
def tw3586119830290243243:=Nat
def tw3645160189685787185:=Nat
def tw371011043731069518:=Nat
def tw3776828430401683499:=Nat
def tw3797914433030918648:=Nat
def tw3826022666475856587:=Nat
def tw3892297179153996089:=Nat
def tw3989633343931568882:=Nat
def tw399632857465625523:=Nat
def tw4016371930948152822:=Nat
def tw4034809674235761827:=Nat
def tw405873675972984252:=Nat
def tw408252531234935166:=Nat
def tw4226191513564692013:=Nat
def tw4251971802856266116:=Nat
def tw4330880059383115092:=Nat
def tw4331747632322560793:=Nat
def tw4357365358352647999:=Nat
def tw4440713467655724934:=Nat
def tw4471010334496042577:=Nat
def tw4500017189197554410:=Nat
def tw4583766149065859534:=Nat
def tw459754413499217507:=Nat
def tw4604606217690154579:=Nat
def tw462066589100601287:=Nat
def tw4636045582602423321:=Nat
def tw4644843132776448506:=Nat
def tw4667268722040464738:=Nat
def tw4812022970238076362:=Nat
def tw4926813833261138205:=Nat
def tw4963481800651907017:=Nat
def tw5005172005398372742:=Nat
def tw509106084747889024:=Nat
def tw5124554527192602334:=Nat
def tw5137481358915995035:=Nat
def tw5178080278476416274:=Nat
def tw5209355426631970342:=Nat
def tw5236141371083384114:=Nat
def tw5256879858663936226:=Nat
def tw5288774959506593984:=Nat
def tw5371920712434468748:=Nat
def tw5384780868124136958:=Nat
def tw5387290079965027208:=Nat
def tw5487358277622975863:=Nat
def tw560169978034255589:=Nat
def tw5643891923840110853:=Nat
def tw5645415907671225732:=Nat
def tw5722267883992289682:=Nat
def tw5815379117679739741:=Nat
def tw586485898931900841:=Nat
def tw5902392426219151274:=Nat
def tw5943325657693284815:=Nat
def tw597461423847942181:=Nat
def tw6022384051626935330:=Nat
def tw6152711357863204554:=Nat
def tw6168253440593005246:=Nat
def tw6253193550279501292:=Nat
def tw6301490193762650397:=Nat
def tw6317639675852582994:=Nat
def tw6409195646980967878:=Nat
def tw6416853850421270811:=Nat
def tw6420763373501191911:=Nat
def tw6454140382215292086:=Nat
def tw6464384125468976623:=Nat
def tw6465580884744852483:=Nat
def tw648515561767760205:=Nat
def tw6499024919403822108:=Nat
def tw6603951304555079607:=Nat
def tw6619097932779311287:=Nat
def tw6624205081019117879:=Nat
def tw6825585076206856643:=Nat
def tw6869808298159812861:=Nat
def tw6922207507964134735:=Nat
def tw6946213176068869444:=Nat
def tw6947059296505764373:=Nat
def tw6949344514388887275:=Nat
def tw6978280996617752542:=Nat
def tw6982242093354508199:=Nat
def tw7058615102706369894:=Nat
def tw7142871901817638017:=Nat
def tw7148503831538398469:=Nat
def tw7302222887236129543:=Nat
def tw7343490614867401886:=Nat
def tw7376516607621971838:=Nat
def tw746914414955544592:=Nat
def tw7509004941396955561:=Nat
def tw7573531767417716269:=Nat
def tw7616394040463988631:=Nat
def tw7669985280094140753:=Nat
def tw7716042759184983970:=Nat
def tw7755438885391991118:=Nat
def tw782482399941789350:=Nat
def tw7908194293884465873:=Nat
def tw7934756744137084651:=Nat
def tw7936447579967946853:=Nat
def tw7992478433331912693:=Nat
def tw7993634708047980212:=Nat
def tw8122232464780753155:=Nat
def tw8133832779004965531:=Nat
def tw8143472272340709441:=Nat
def tw8232921733246768089:=Nat
def tw8393482846230999205:=Nat
def tw8543470291772289252:=Nat
def tw8543991710101923796:=Nat
def tw8603314358703541560:=Nat
def tw8641619145606176632:=Nat
def tw865799082362917299:=Nat
def tw86800253385595274:=Nat
def tw8831734000132428469:=Nat
def tw8957762889582694295:=Nat
def tw8982348789398028464:=Nat
def tw9049906583041516631:=Nat
def tw9089897316045740278:=Nat
def tw9105956651102814971:=Nat
def tw9122882668379273020:=Nat
def tw9130424019671106726:=Nat
def tw9158905201966420293:=Nat
def tw920298033250697619:=Nat
def tw934589672909015853:=Nat
def tw9361974055935097147:=Nat
def tw9436292914572115238:=Nat
def tw94951265763273422:=Nat
def tw9520059410090328956:=Nat
def tw9527672583738130074:=Nat
def tw9537742921751254930:=Nat
def tw9569903503588158122:=Nat
def tw9637353075678114359:=Nat
def tw9681634390217801110:=Nat
def tw9751807438739142116:=Nat
def tw9794400670273869677:=Nat
def tw9794692981900683863:=Nat
def tw9852958875826987513:=Nat
def tw9863249285965302525:=Nat
def tw9878714547480255166:=Nat
def tw9957545960848494175:=Nat
def tw9968006007900595656:=Nat
end PySem.W.Fast
open PySem PySem.W PyProof.Rows
set_option maxRecDepth 100000 in
set_option maxHeartbeats 0 in
theorem PySem.Challenge.cw_pursewright_k04_words_amiss_holds : PySem.Challenge.rw_pursewright_k04_words_amiss.Holds := by
 w_on;o_law;k_head;(case hw=>w_witness2)
 k_fill
 refine K04.walk (l:=PySem.Challenge.rw_pursewright_k04_words_amiss) rfl rfl (fun w h Y=>PySem.W.kIn_of Y) ?F
 case F =>
  intro w mg fa h KX G hmg;refine' K04.all_mk KX G hmg ..
  all_goals try first|refine' L2.DY.of ?_ ?_ ?_ ?_|refine' L2.DM.of ?_ ?_ ?_ ?_ ?_
  all_goals try delta L2.NI L2.LK L2.CI L2.KI L2.NB L2.bU
  all_goals try first|k_is|kernel_rfl|repeat (first|exact .nil|refine .cons ⟨_,rfl⟩ ?_)