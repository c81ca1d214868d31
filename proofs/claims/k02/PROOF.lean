import PyProof.Rows.All
import Wide.All
import OpenK.AllK
import Wide.FinOn
import Lean
import PyProof.EqAt
import PyProof.EqKinds
import PyProof.TupleCall
import PyProof.InstStoreFacts
import PySem.Challenge.RW_pursewright_k02_whole_written_and_read
set_option Elab.async false
set_option linter.all false
set_option maxRecDepth 100000
local macro_rules|`(tactic|symm)=>`(tactic|exact ⟨rfl,rfl,rfl,by decide +kernel,rfl,by decide +kernel,by decide +kernel⟩)
open List renaming mem_singleton→bB,mem_cons_of_mem→c5,mem_cons_self→dZ,length_map→gV,mem_cons→i8,mem_append_right→j0,mem_append→j1,getElem?_eq_some_iff→j2,append_nil→ko,nodup_nil→kr,length_cons→mu,mem_append_left→oE,length_append→px,size_toArray→qi,getElem?_map→qx,getElem?_set_ne→rS,getElem?_set_self→rW,nodup_cons→rX,map_append→tx,lookup_cons→ui,replicate→uA,mem_of_getElem?→u3,length_tail→wh,nodup_append→xQ,getElem?_eq_getElem→xT,cons_ne_nil→xU,take_add_one→x2,take_length→z6,all_eq_true→z7,getElem?_append_left→z9,length_set→BH,append_assoc→BI,length_take→BJ,getElem?_append_right→BK,not_mem_nil→BL,length_eq_zero_iff→Co,map_map→EU,map_cons→OY,mem_map→O1,append_eq_nil_iff→Pg,length_reverse→QX,perm_append_comm_assoc→Q8,getElem?_eq_none→So,getElem?_zip_eq_some→Sz,lookup→Tc,range→Tp,getElem?_replicate→Tv,cons_append→Tw,dropLast_concat→TL,length_drop→TQ,mem_flatMap→TR,flatMap_append→TX,length_nil→T2,forIn_cons→T3,length_zip→T4,mem_filterMap→T6,length→Ua,reverse_cons→Ub,flatMap_cons→Ug,eq_nil_or_concat→Uk,sublist_nil→Ul,map_reverse→Uo,any_cons→Uq,mem_of_mem_tail→Us,sum_append→Uu,filterMap_cons→Uv,contains_cons→Ux,sublist_append_right→Uz,set_eq_of_length_le→UA,sum_cons→UB,any_eq_true→UD,isEmpty_iff→UG,all_map→UK,of_mem_zip→UL,length_replicate→UN,length_singleton→UO,getElem?_reverse→UP,getElem?_toArray→UQ,concat_eq_append→UR,mem_of_mem_drop→US,reverse_reverse→UT,reverse_append→UX,pairwise_cons→U2,any_map→U9,zipIdx_cons→Vd,perm_middle→Ve,mem_reverse→Vf,flatMap_nil→Vg,zip→Vj
open PySem renaming wpAny_bind→cO,starEach→iS,sizeLine→j5,wpAny_pure→ot,wpAny_call_entry→C5,wpAny_Call_Name_kw→Ob,wpAny_mono→OZ,wpAny_holding→O0,wpAny_updateSeq→SO,sizeLine_eq→Tx,wpAny_newObj_type→TH,wpAny_typeOf→TU,wpAny_attempt→TY,wpAny_specialOf→T5,wpAny_rule→T9,wpAny_setField→Ui,wpAny_isInstance→Up,PassesOwn→UH,plainId_quiet→UY
open PySem.Heap renaming get?_push_of_some→fx,lt_size→kf,get?_push_size→oF,get?_update_other→xO,get?_update_self→xR,size_push→z8,get?_none_of_le→E3,MadeExcOf→TJ,SameBut→TN,get?_update_ne→UW,get?_push_at→U8,ExtBut→Vi
open Option renaming map_eq_some_iff→j3,map_eq_none_iff→QH,getD_some→Um,bind_eq_some_iff→UE,getD_none→Vc
open Nat renaming le_refl→lx,le_of_lt→rV,le_trans→uj,ne_of_lt→u4,lt_of_lt_of_le→xP,zero_le→Fq,ne_of_gt→O2,lt_irrefl→Ti,lt_succ_self→Tt,lt_of_le_of_lt→T8,toDigits→Uh,min_le_right→UC,le_of_eq→UI,sub_le→UJ,zero_lt_one→UM,add_le_add_left→UU,lt_trans→U3,lt_succ_of_lt→U4,le_succ_of_le→Va,sub_self→Vb,le_succ→Vh
open Bool renaming false_ne_true→qd,and_eq_true→qp,eq_false_iff→Pb,true_and→TB,and_false→Uc,false_and→Ue,eq_iff_iff→Ut,false_eq_true→U0
open PySem.Obj renaming mapSeq→Fs,data_mapFields→Q9,isFreed_of_fields→TC,mapFields→Ur,cls_mapFields→U7
open Int renaming le_refl→Tf,le_trans→Tz,toNat_of_nonneg→TV,natCast_nonneg→T7,toNat_natCast→U6
open Array renaming length_toList→Ts,getElem?_eq_some_iff→TK,getElem?_eq_none→Ud,getElem?_toList→Uj,toList_append→Uw,getElem?_eq_getElem→Uy,find?_toList→UZ,forIn_toList→U1,size_append→U5
open Option renaming some→Z,none→Y
open Bool renaming true→O,false→ϊ
open PySem renaming Value→B,Addr→J,Shared→ϋ
def U{α:Sort u}{a:α}:a=a:=rfl
open Lean in
def lp:Nat->Syntax->MacroM (TSyntax `rcasesPat)
|n+1,s=>match s with
 |`(($a,$b,*))=>do let c<-(#[a]++b.getElems).mapM λx=>lp n x;`(rcasesPat|⟨$[$c:rcasesPat],*⟩)
 |`(⟨$a,*⟩)=>do let c<-a.getElems.mapM λx=>lp n x;`(rcasesPat|⟨$[$c:rcasesPat],*⟩)
 |`($x:ident)=>let y:=if x.getId==`U then mkIdent `rfl else x;`(rcasesPat|$y:ident)
 |_=>`(rcasesPat|_)
|_,_=>`(rcasesPat|_)
local macro_rules|`(tactic|let $p:term:=$e)=>do`(tactic|obtain $(<-lp 9 p):rcasesPat:=$e)
local macro_rules|`(($a,$b,*))=>`(⟨$a,$b,*⟩)
noncomputable section
set_option bootstrap.genMatcherCode false
namespace L2
open PySem PySem.Spec PyProof.Rows
inductive P3{A' B' C':Type}(P:A'->B'->C'->Prop):Prop
 |mk(a b c:_)(_:P a b c)
inductive Q4{A' B' C' D':Type}(P:A'->B'->C'->D'->Prop):Prop
 |mk(a b c d:_)(_:P a b c d)
inductive V5{A' B' C' D' E':Type}(P:A'->B'->C'->D'->E'->Prop):Prop
 |mk(a b c d e:_)(_:P a b c d e)
inductive V6{A' B' C' D' E' F':Type}(P:A'->B'->C'->D'->E'->F'->Prop):Prop
 |mk(a b c d e f:_)(_:P a b c d e f)
abbrev Key:=Sum Int Str
def vz:Key->B->Bool
 | .inl k,v=>B.isInt k v
 | .inr x,v=>B.isStrOf x v
def SA(w:World):Key->Int
 | .inl k=>hashInt k
 | .inr x=>hashStr w x
theorem cF:∀{k:Key}{v:B},vz k v=O ->(∃ i t,k=Sum.inl i/\v=B.int i t)\/(∃ x t,k=Sum.inr x/\v=B.str x t)
 | .inl i,v,h=>by
  let(t,e):=B.isInt_shape h;exact .inl (i,t,U,e)
 | .inr x,v,h=>by
  let(t,e):=B.isStrOf_shape h;exact .inr (x,t,U,e)
def Eh(i:Int)(t:Tok):vz (.inl i) (.int i t)=true:=by simp[vz,B.isInt]
def Eg(x:Str)(t:Tok):vz (.inr x) (.str x t)=true:=by simp[vz,B.isStrOf]
def N1(a b:Int):decide ((Sum.inl a:Key)=Sum.inl b) =(a==b):=by
 by_cases e:a=b
 ·subst e;simp
 ·have h:¬(Sum.inl a:Key)=Sum.inl b:=λq=>e (Sum.inl.inj q)
  rw[decide_eq_false h];exact(beq_eq_false_iff_ne.mpr e).symm
def NY(a b:Str):decide ((Sum.inr a:Key)=Sum.inr b)=decide (a=b):=by
 by_cases e:a=b
 ·simp
 ·have h:¬(Sum.inr a:Key)=Sum.inr b:=λq=>e (Sum.inr.inj q)
  rw[decide_eq_false h,decide_eq_false e]
def N0(a:Int)(b:Str):decide ((Sum.inl a:Key)=Sum.inr b)=false:=decide_eq_false (λq=>nomatch q)
def NZ(a:Str)(b:Int):decide ((Sum.inr a:Key)=Sum.inl b)=false:=decide_eq_false (λq=>nomatch q)
def dg(prog:Program)(w:World):PySem.KeyKind prog w Key where
 is:=vz
 hash:=SA w
 inj:=λv a b ha q=>by
  rcases cF ha with⟨i,t,rfl,rfl⟩ |⟨x,t,rfl,rfl⟩
  ·rcases cF q with⟨j,u,rfl,e⟩ |⟨y,u,rfl,e⟩
   ·injection e with g _;rw[g]
   ·exact nomatch e
  ·rcases cF q with⟨j,u,rfl,e⟩ |⟨y,u,rfl,e⟩
   ·exact nomatch e
   ·injection e with g _;rw[g]
 byValue:=λk v h=>by
  rcases cF h with⟨i,t,rfl,rfl⟩ |⟨x,t,rfl,rfl⟩ <;> rfl
 pyHash:=λhv h=>by
  rcases cF hv with⟨i,t,rfl,rfl⟩ |⟨x,t,rfl,rfl⟩
  ·exact wpAny_pyHash_int h
  ·exact wpAny_pyHash_str h
 eqBool:=λz hv h=>by
  rcases cF z with⟨i,t,rfl,rfl⟩ |⟨x,t,rfl,rfl⟩
  ·rcases cF hv with⟨j,u,rfl,rfl⟩ |⟨y,u,rfl,rfl⟩
   ·rw[N1]at h;exact wpAny_eqBool_int h
   ·rw[N0]at h;exact SeqAt.EqAt.int_str i t y u _ _ _ _ h
  ·rcases cF hv with⟨j,u,rfl,rfl⟩ |⟨y,u,rfl,rfl⟩
   ·rw[NZ]at h;exact SeqAt.EqAt.str_int x t j u _ _ _ _ h
   ·rw[NY]at h;exact wpAny_eqBool_str h
 «strs»:=λk x t v h=>by
  rcases cF h with⟨i,u,rfl,e⟩ |⟨y,u,rfl,e⟩
  ·exact nomatch e
  ·injection e with g _
   subst g;cases v <;> rfl
def zp(prog:Program)(w:World)(i:Int)(t:Tok):(dg prog w).is (.inl i) (.int i t)=true:=Eh i t
def zo(prog:Program)(w:World)(x:Str)(t:Tok):(dg prog w).is (.inr x) (.str x t)=true:=Eg x t
inductive V where
 | non|bl (b:Bool)|int (i:Int)|str (x:Str)|byt (b:Array UInt8)|flt (b:UInt64)|ref (a:J)|ty (n:String)
 deriving DecidableEq
def RelV:V->B->Prop
 | .non,u=>u=B.none
 | .bl b,u=>u=B.bool b
 | .int i,u=>∃ t,u=B.int i t
 | .str x,u=>∃ t,u=B.str x t
 | .byt b,u=>∃ t,u=B.bytes b t
 | .flt b,u=>∃ t,u=B.float b t
 | .ref a,u=>u=B.ref a
 | .ty n,u=>u=B.type n
abbrev Vals:List V->List B->Prop:=Paired RelV
theorem Vals.length{xs:List V}{us:List B}(r:Vals xs us):xs.length=us.length:=Paired.length r
theorem Vals.get:∀{xs:List V}{us:List B}{i:Nat}{x:V},Vals xs us->xs[i]? = Z x->∃ u,us[i]? = Z u/\RelV x u
 | _,_,_,_,.nil,e=>by simp at e
 | _,_,0,_,.cons r _,e=>by simp at e;subst e;exact(_,U,r)
 | _,_,i+1,x,.cons _ t,e=>by
  let(u,h1,h2):=Vals.get t (by simpa using e)
  exact(u,by simpa using h1,h2)
theorem Vals.set{x:V}{u:B}(r:RelV x u):∀{xs:List V}{us:List B}(i:Nat),Vals xs us->Vals (xs.set i x) (us.set i u)
 | _,_,_,.nil=>.nil
 | _,_,0,.cons _ t=>.cons r t
 | _,_,i+1,.cons q t=>.cons q (Vals.set r i t)
variable{us:List B}
def Vals.append{xs ys:List V}{ws:List B}(h:Vals xs us)(s:Vals ys ws):Vals (xs++ys) (us++ws):=by
 induction h with
 | nil=>exact s
 | cons r _ g=>exact .cons r g
theorem Vals.take:∀{xs:List V}{us:List B}(n:Nat),Vals xs us->Vals (xs.take n) (us.take n)
 | _,_,0,_=>.nil
 | _,_,_+1,.nil=>.nil
 | _,_,n+1,.cons r t=>.cons r (Vals.take n t)
theorem Vals.drop:∀{xs:List V}{us:List B}(n:Nat),Vals xs us->Vals (xs.drop n) (us.drop n)
 | _,_,0,r=>r
 | _,_,_+1,.nil=>.nil
 | _,_,n+1,.cons _ t=>Vals.drop n t
def ki:Option V->Option B->Prop
 | some v,Z u=>RelV v u
 | none,Y=>True
 | _,_=>False
def KV{κ:Type}:List (κ×V)->List (κ×B)->Prop:=Paired λ(p:κ×V)(q:κ×B)=>p.1=q.1/\RelV p.2 q.2
def kV:Key->V
 | .inl i=>.int i
 | .inr x=>.str x
inductive HO where
 | lst(xs:List V)
 | tup(xs:List V)
 | dK(kvs:List (Key×V))|dT (kvs:List (List Key×V))
 | set(S:Int->Bool)(n:Nat)
 | ins(C dx:J)(fs:List (Str×V))
 | own(x:J)
 | xd(fs:List (Str×V))
 | room(x:Int)
 | met(f x:J)
 | rng(lo hi:Int)
 | frz(o:Obj)(u:HO)
 | tbl(ps:Array B)
 | ext(φ:Heap->Prop)
abbrev Hp:=J->Option HO
def upd(H:Hp)(a:J)(o:HO):Hp:=λb=>if b=a then Z o else H b
variable{H:Hp}{a:J}
def aB{o:HO}:upd H a o a=Z o:=by unfold upd;rw[if_pos rfl]
def ao{b:J}{o:HO}(h:b≠a):upd H a o b=H b:=by unfold upd;rw[if_neg h]
def fR{b:J}{o u:HO}(h:H a=Z o)(h':H b=Z u)(d:o≠u):a≠b:=by
 intro e;subst e;rw[h]at h';exact d (Option.some.inj h')
def aQ{b:J}{o:HO}(h:H a=Z o)(h':H b=Y):a≠b:=by
 intro e;subst e;rw[h]at h';cases h'
def qf(h:Heap)(a:J)(items:Array B):Prop:=IsTup h a items/\∃ o,h.get? a=Z o/\o.dict=Y
theorem qf.new(h:Heap)(items:Array B):qf (h.push { cls:=.type "tuple",data:=.seq items }) h.objs.size items:=(IsTup.new _ _,_,oF _ U,U)
section
variable(P:Program)(w:World)
def cJ(H:Hp)(h:Heap)(a:J):HO->Prop
 | .lst xs=>xs.length<=j5/\∃(its:List B)(n:Nat),Vals xs its/\h.get? a=Z { cls:=.type "list",data:=.seq its.toArray n }
 | .tup xs=>xs.length<=j5/\∃ its:List B,Vals xs its/\qf h a its.toArray
 | .dK kvs=>kvs.length<=j5/\(a==sysModules)=ϊ/\∃ vs,KV kvs vs/\h.DictOf (dg P w) a vs
 | .dT kvs=>kvs.length<=j5/\(a==sysModules)=ϊ/\∃ xs:List (List Key×J×B),
   Paired (λ(p:List Key×V)(q:List Key×J×B)=>p.1=q.1/\H q.2.1=Z (.tup (p.1.map kV))/\RelV p.2 q.2.2) kvs xs /\
   ∃ o es g,h.get? a=Z o/\o.ExactDict/\o.data = .dict es g/\es.toList=xs.map (entryOfKey (tupleKind (dg P w)))/\(xs.map (·.1)).Nodup
 | .set S n=>h.SetOf (intKind P w) a S n
 | .ins C dx fs=>H dx=Z (.own a)/\fs.length<=1000/\dx≠a/\h.get? a=Z (W.instObj C dx) /\
   ∃ mA,h.Ns1 dx mA/\(∀ f,ki (fs.lookup f) (mA f))/\PySem.Within mA (fs.map (·.1))
 | .own _=>∃ o,h.get? a=Z o
 | .xd fs=>∃ mA,h.Ns1 a mA/\∀ f,ki (fs.lookup f) (mA f)
 | .room x=>∃(its:List B)(n:Nat),Vals [.int x] its/\h.get? a=Z { cls:=.type "list",data:=.seq its.toArray n }
 | .rng lo hi=>∃ t u v,h.get? a=Z { cls:=.type "range",data:=.fields #[.int lo t,.int hi u,.int 1 v] }
 | .frz o u=>h.get? a=Z o/\cJ H h a u
 | .tbl ps=>h.get? a=Z { cls:=.none,data:=.fields ps }
 | .met f x=>h.get? a=Z (W.methodObj (.ref f) (.ref x))
 | .ext φ=>φ h/\(∃ o,h.get? a=Z o)/\∀ h1 h2:Heap,φ h1 ->(∀ o,h1.get? a=Z o->h2.get? a=Z o)->φ h2
def HOk(H:Hp)(h:Heap):Prop:=∀ a o,H a=Z o->cJ P w H h a o
end
section
variable{P:Program}{w:World}{H':Hp}{h h':Heap}{o:HO}
theorem cJ.lt(x:cJ P w H h a o):a<h.objs.size:=by
 cases o with
 | lst xs=>let(_,_,_,_,e):=x;exact kf e
 | tup xs=>let(_,_,_,p):=x;exact p.1.lt
 | dK kvs=>let(_,_,_,_,o,_,_,e,_):=x;exact kf e
 | dT kvs=>let(_,_,_,_,o,_,_,e,_):=x;exact kf e
 | set S n=>let(o,_,_,_,e,_):=x;exact kf e
 | ins C dx fs=>let(_,_,_,e,_):=x;exact kf e
 | own y=>let(_,e):=x;exact kf e
 | xd fs=>let(_,(_,_,_,e,_),_):=x;exact kf e
 | room g=>let(_,_,_,e):=x;exact kf e
 | rng lo hi=>let(_,_,_,e):=x;exact kf e
 | frz ob u=>let(e,_):=x;exact kf e
 | tbl ps=>exact kf (x)
 | met f y=>exact kf (x)
 | ext φ=>let(_,(_,e),_):=x;exact kf e
def Paired.Qn{α β:Type}{F G:α->β->Prop}{l₁:List α}{l₂:List β}(r:Paired F l₁ l₂)(f:∀ a b,F a b->G a b):Paired G l₁ l₂:=by
 induction r with
 | nil=>exact .nil
 | cons r _ g=>exact .cons (f _ _ r) g
def cJ.c6(x:cJ P w H h a o)(k:∀ b u,(b=a\/H b=Z (.own a))->h.get? b=Z u->h'.get? b=Z u)
  (ho:∀ b,H b=Z (.own a)->H' b=Z (.own a)) (V:∀ b xs,H b=Z (.tup xs)->H' b=Z (.tup xs)):cJ P w H' h' a o:=by
 induction o with
 | lst xs=>let(z,its,n,r,e):=x;exact(z,its,n,r,k _ _ (.inl U) e)
 | tup xs=>let(z,its,r,(ob,e,c),o2,K,d2):=x;exact(z,its,r,(ob,k _ _ (.inl U) e,c),o2,k _ _ (.inl U) K,d2)
 | dK kvs=>let(z,y,vs,r,ob,es,g,e,c):=x;exact(z,y,vs,r,ob,es,g,k _ _ (.inl U) e,c)
 | dT kvs =>
  let(z,y,xs,r,ob,es,g,e,c):=x;exact(z,y,xs,Paired.Qn r λp q z=>(z.1,V _ _ z.2.1,z.2.2),ob,es,g,k _ _ (.inl U) e,c)
 | set S n=>let(ob,es,g,t,e,c):=x;exact(ob,es,g,t,k _ _ (.inl U) e,c)
 | ins C dx fs =>
  let(d,z,ne,e,mA,(od,es,g,K,c),r):=x;exact(ho _ d,z,ne,k _ _ (.inl U) e,mA,(od,es,g,k _ _ (.inr d) K,c),r)
 | own y=>let(ob,e):=x;exact(ob,k _ _ (.inl U) e)
 | xd fs=>let(mA,(od,es,g,e,c),r):=x;exact(mA,(od,es,g,k _ _ (.inl U) e,c),r)
 | room x'=>let(t,u,v,e):=x;exact(t,u,v,k _ _ (.inl U) e)
 | rng lo hi=>let(t,u,v,e):=x;exact(t,u,v,k _ _ (.inl U) e)
 | frz ob u Q=>let(e,q):=x;exact(k _ _ (.inl U) e,Q q)
 | tbl ps =>
  have e:=x;exact k a _ (.inl U) e
 | met f y =>
  have e:=x;exact k a _ (.inl U) e
 | ext φ=>let(p,(o,e),st):=x;exact(st _ _ p λo q=>k _ _ (.inl U) q,(o,k _ _ (.inl U) e),st)
theorem HOk.lt(x:HOk P w H h)(e:H a=Z o):a<h.objs.size:=(x a o e).lt
def HOk.fresh(x:HOk P w H h)(e:h.objs.size<=a):H a=none:=by
 cases q:H a with
 | none=>rfl
 | some u=>exact absurd (xP (x.lt q) e) (Ti _)
def HOk.kept(x:HOk P w H h)(k:∀ b u,h.get? b=Z u->h'.get? b=Z u):HOk P w H h':=λa o e =>
 (x a o e).c6 (λb u _ q=>k b u q) (λ_ q=>q) λ_ _ q=>q
def HOk.laid(x:HOk P w H h)(k:∀ b u,h.get? b=Z u->h'.get? b=Z u)(hp:h.objs.size<=a)(new:cJ P w (upd H a o) h' a o):HOk P w (upd H a o) h':=λb u e=>by
 have hn:=x.fresh hp;by_cases g:b=a
 ·subst g;rw[aB]at e;cases e;exact new
 ·rw[ao g]at e;exact(x b u e).c6 (λc v _ q=>k c v q) (λc q=>by rw[ao (aQ q hn)];exact q) λc xs q=>by rw[ao (aQ q hn)];exact q
end
def Rd(H:Hp)(a:J)(u:HO):Prop:=H a=Z u\/∃ o,H a=Z (.frz o u)
variable{P:Program}
def Rd.ok{w:World}{h:Heap}{u:HO}(r:Rd H a u)(x:HOk P w H h):cJ P w H h a u:=by
 rcases r with r |⟨o,r⟩
 ·exact x a u r
 ·let(_,q):=x a _ r;exact q
def Mut:Option HO->Prop
 | some (.lst _)=>True
 | some (.dK _)=>True
 | some (.dT _)=>True
 | some (.set _ _)=>True
 | some (.ins _ _ _)=>True
 | some (.ext _)=>True
 | some (.room _)=>True
 | _=>False
section
variable{w:World}{h h':Heap}{x e:J}{o':HO}
def HOk.write(ok:HOk P w H h)(K:Mut (H x))(he:e=x\/H e=Z (.own x))(k:∀ b u,b≠e->h.get? b=Z u->h'.get? b=Z u)(ah:∃ u,h'.get? e=Z u)
  (new:cJ P w (upd H x o') h' x o'):HOk P w (upd H x o') h':=λb u q=>by
 have Qf:∀ c y,H c=Z (.own y)->c≠x:=λc y r z=>by subst z;rw[r]at K;exact K
 have Sk:∀ c xs,H c=Z (.tup xs)->c≠x:=λc xs r z=>by subst z;rw[r]at K;exact K
 by_cases V:b=x
 ·subst V;rw[aB]at q;cases q;exact new
 ·rw[ao V]at q;by_cases g:b=e
  ·have q':H b=Z (.own x):=by
    rcases he with z|z
    ·exact absurd (g.trans z) V
    ·rw[g];exact z
   rw[q]at q';cases q';let(v,hv):=ah;exact(v,by rw[g];exact hv)
  ·refine(ok b u q).c6 (λc v Q r=>k c v ?_ r) (λc r=>by rw[ao (Qf c b r)];exact r) λc xs r=>by rw[ao (Sk c xs r)];exact r
   rcases Q with rfl|Q
   ·exact g
   ·rintro rfl
    rcases he with z|z
    ·exact Qf c b Q z
    ·rw[Q]at z;cases z;exact V U
end
structure Un(fs ex:List J)(H H':Hp)(h h':Heap):Prop where
 keep:∀ b o,h.get? b=Z o->H b=Y->b ∉ fs->b ∉ ex->h'.get? b=Z o
 slot:∀ b o,h.get? b=Z o->H b=Y->b∈fs->b ∉ ex->∃ sl,h'.get? b=Z { o with slots:=sl }
 free:∀ b o,h.get? b=Z o->H b=Y->b ∉ ex->H' b=Y
 there:∀ b o,h.get? b=Z o->b ∉ ex->∃ o',h'.get? b=Z o'
 rg:∀ b xs,H b=Z (.tup xs)->H' b=Z (.tup xs)
 nT:∀ b o u,H b=Z (.frz o u)->H' b=Z (.frz o u)
 rh:∀ b ps,H b=Z (.tbl ps)->∃ more,H' b=Z (.tbl (ps++more))
section
variable{fs ex:List J}{H1:Hp}{h h1 h':Heap}{x e:J}{o:HO}
def Un.any(u:Un fs ex H H1 h h1){b:J}{ob:Obj}(q:h.get? b=Z ob)(n:H b=Y)(hx:b ∉ ex):∃ sl,h1.get? b=Z { ob with slots:=sl }:=by
 by_cases g:b∈fs
 ·exact u.slot b ob q n g hx
 ·exact(ob.slots,u.keep b ob q n g hx)
def Un.kept(k:∀ b u,h.get? b=Z u->h'.get? b=Z u):Un fs ex H H h h' :=
 (λb ob q _ _ _=>k b ob q,λb ob q _ _ _=>(ob.slots,k b ob q),λ_ _ _ n _=>n,λb ob q _=>(ob,k b ob q),λ_ _ q=>q,λ_ _ _ q=>q,λ_ ps q=>(#[],by rw[q];simp))
def Un.refl:Un fs ex H H h h:=Un.kept λ_ _ q=>q
def Un.laid(k:∀ b u,h.get? b=Z u->h'.get? b=Z u)(hp:h.objs.size<=a)(hn:H a=Y):Un fs ex H (upd H a o) h h' where
 keep:=λb u q _ _ _=>k b u q
 slot:=λb u q _ _ _=>(u.slots,k b u q)
 free:=λb u q n _=>by rw[ao (u4 (xP (kf q) hp))];exact n
 there:=λb u q _=>(u,k b u q)
 rg:=λb xs q=>by rw[ao (aQ q hn)];exact q
 nT:=λb u xs q=>by rw[ao (aQ q hn)];exact q
 rh:=λb ps q=>(#[],by rw[ao (aQ q hn),q];simp)
def Un.write(K:Mut (H x))(he:e=x\/H e=Z (.own x))(k:∀ b u,b≠e->h.get? b=Z u->h'.get? b=Z u)(P:∃ u,h'.get? e=Z u):Un fs ex H (upd H x o) h h':=by
 have hx:∀ b,H b=Y->b≠x:=λb n z=>by subst z;rw[n]at K;exact K
 have Q:∀ b,H b=Y->b≠e:=λb n z=>by
  subst z;rcases he with r|r
  ·exact hx b n r
  ·rw[n]at r;cases r
 have hm:∀ b u,H b=Z u->¬ Mut (Z u)->b≠x:=λb u q nm z=>by subst z;rw[q]at K;exact nm K
 refine(λb u q n _ _=>k b u (Q b n) q,λb u q n _ _=>(u.slots,k b u (Q b n) q),λb u q n _=>by rw[ao (hx b n)];exact n,λb u q _=>?_,
  λb xs q=>by rw[ao (hm b _ q λz=>z)];exact q,λb u xs q=>by rw[ao (hm b _ q λz=>z)];exact q,λb ps q=>(#[],by rw[ao (hm b _ q λz=>z),q];simp))
 by_cases g:b=e
 ·subst g;exact P
 ·exact(u,k b u g q)
end
def trk(h:Heap)(H:Hp):List Addr:=(Tp h.objs.size).filter λa=>(H a).isSome
def zD(h:Heap)(H:Hp):Heap:=W.hideAll h (trk h H)
theorem Ep(h:Heap)(H:Hp):(zD h H).objs.size=h.objs.size:=W.hideAll_size _ _
theorem HA{h:Heap}{b:J}{o:Obj}(e:h.get? b=Z o)(n:H b=Y):(zD h H).get? b=Z o :=
 W.hideAll_get _ e λhm=>by
  have q:=(List.mem_filter.mp hm).2;rw[n]at q;simp at q
theorem Kt{h:Heap}{b:J}{o:Obj}(e:(zD h H).get? b=Z o):h.get? b=Z o/\H b=none:=by
 have g:=W.of_hideAll (trk h H) e;refine(g,?_);cases q:H b with
 | none=>rfl
 | some x =>
  have hm:b∈trk h H:=List.mem_filter.mpr (List.mem_range.mpr (kf g),by simp[q])
  have z:(zD h H).get? b=none:=W.hideAll_none (trk h H) hm;rw[z]at e;cases e
structure Mod(K:W.Frag)(mg:Str->Option B)(base:Heap):Prop where
 kin:K.In base
 glob:base.Ns mainGlobals mg
 blt:∃ mb,base.Ns builtinsNs mb/\∀ x:Str,x ≠ "__name__" -> mb x=bootBuiltins x
 nolimit:base.NoLimit
structure Cx where
 prog:Program
 w:World
 K:W.Frag
 mg:Str->Option B
 base:Heap
 A:Around
 N:List Str
 s₀:ϋ
 H₀:Hp
 env:Env
 outer:List Env
 stack:List Env
 ex:List J
 fn:Str->Bool
 calm:Bool
 pn:List (J×Obj)
 xe:B->ϋ->Prop
def frs(l:List Env):List Addr:=l.filterMap (·.frame)
abbrev Cx.fs(X:Cx):List Addr:=frs X.outer
def Vis(sc:Scope)(x:Str):Prop:=sc.names.lookup x=Z .local\/sc.names.lookup x=Z .cell\/sc.names.lookup x=Z .free
def Loc(sc:Scope)(x:Str):Prop:=sc.names.lookup x=Z .local\/sc.names.lookup x=Z .cell
def Look(env:Env)(h:Heap)(m:Str->Option B)(x:Str)(u:B):Prop :=
 (env.kindOf x=Z .local/\m x=Z u)\/((env.kindOf x=Z .cell\/env.kindOf x=Z .free)/\∃ c,env.cells.lookup x=Z c/\h.IsCell c (Z u))
structure Cx.Ok(X:Cx):Prop where
 mod:Mod X.K X.mg X.base
 kind:X.env.scope.kind = .function
 glob:X.env.globals=mainGlobals
 blt:X.env.builtins=builtinsNs
 above:X.s₀.heap.objs.size<=X.env.locals
 inj:∀ x y c,X.env.cells.lookup x=Z c->X.env.cells.lookup y=Z c->x=y
 has:∀ x,(X.env.kindOf x=Z .cell\/X.env.kindOf x=Z .free)->∃ c,X.env.cells.lookup x=Z c
 cab:∀ x c,X.fn x=O->X.env.cells.lookup x=Z c->X.s₀.heap.objs.size<=c
 hd:X.calm=O->X.A.handled=Y
 frames:X.A.frames=Z X.stack
 stk:X.stack=X.outer\/(X.stack=X.env::X.outer/\X.env.frame=Z X.env.locals)
 exf:∀ b∈X.ex,b≠X.env.locals/\∀ x c,X.env.cells.lookup x=Z c->c≠b
 bs:∀ b o,X.base.get? b=Z o->X.s₀.heap.get? b=Z o/\X.H₀ b=Y
 bsz:X.base.objs.size<=X.s₀.heap.objs.size
 Ha:∀ b o,X.base.get? b=Z o->b ∉ X.ex
 K9:∀ b∈X.ex,b ∉ X.fs
 nS:X.s₀.heap.FunFrames X.base X.outer
 frf:∀ b∈X.fs,X.H₀ b=Y
structure Inv(X:Cx)(gd:List (J×Obj))(σ:List (Option V))(H:Hp)(s:ϋ):Prop where
 ok:X.Ok
 os:s.os=X.s₀.os
 bare:AllBare s.gens
 base:Un X.fs X.ex X.H₀ H X.s₀.heap s.heap
 loc:∃ m,s.heap.Ns X.env.locals m/\∀(i:Nat)(x:Str)(v:V),X.N[i]? = Z x->σ[i]? = Z (Z v)->Vis X.env.scope x->∃ u,RelV v u/\Look X.env s.heap m x u
 cell:∀ x c,X.env.cells.lookup x=Z c->∃ v,s.heap.IsCell c v
 free:H X.env.locals=Y
 jW:∀ x c,X.env.cells.lookup x=Z c->H c=Y
 pin:∀ p∈X.pn++gd,s.heap.get? p.1=Z p.2/\H p.1=Y/\p.1≠X.env.locals/\p.1 ∉ X.fs/\∀ v,p.2.data ≠ .cell v
 hok:HOk X.prog X.w H s.heap
 len:σ.length=X.N.length
variable{ch:List J}{t':Nat}{it:J}{N:List Str}{i:Nat}{j:Nat}{x:Str}{u:B}{s':ϋ}
section
variable{X:Cx}{gd:List (J×Obj)}{σ:List (Option V)}{H':Hp}{s:ϋ}{h':Heap}
def Cx.Ok.Sn(ok:X.Ok){b:J}{o:Obj}(e:X.base.get? b=Z o):b ∉ X.fs:=λg=>by
 have:=(ok.nS.mem g).1
 rw[e]at this;cases this
theorem Inv.bs(I:Inv X gd σ H s):∀ b o,X.base.get? b=Z o->s.heap.get? b=Z o/\H b=none:=λb o e =>
 (I.base.keep b o (I.ok.bs b o e).1 (I.ok.bs b o e).2 (I.ok.Sn e) (I.ok.Ha b o e),I.base.free b o (I.ok.bs b o e).1 (I.ok.bs b o e).2 (I.ok.Ha b o e))
def Inv.bk(I:Inv X gd σ H s):∀ b o,X.base.get? b=Z o->s.heap.get? b=Z o:=λb o e=>(I.bs b o e).1
theorem Inv.mod(I:Inv X gd σ H s):Mod X.K X.mg X.base:=I.ok.mod
def Inv.kIn(I:Inv X gd σ H s):X.K.In s.heap:=I.ok.mod.kin.keeps I.bk
theorem Inv.lt(I:Inv X gd σ H s):X.env.locals<s.heap.objs.size:=let(_,hn,_):=I.loc;hn.lt
def Inv.sz(I:Inv X gd σ H s):X.s₀.heap.objs.size<=s.heap.objs.size:=uj I.ok.above (rV I.lt)
def Inv.Qk(I:Inv X gd σ H s)(h:s.heap.objs.size<=a):a ∉ X.fs:=λg=>by
 let(_,o,ho,_):=I.ok.nS.mem g;exact absurd (xP (kf ho) (uj I.sz h)) (Ti _)
def Inv.cne(I:Inv X gd σ H s):∀ x c,X.env.cells.lookup x=Z c->c≠X.env.locals:=λx c e z=>by
 let(v,o,ho,hd):=I.cell x c e;let(m,(o',es,K,g,q,_),_):=I.loc;rw[z,g]at ho;cases ho;rw[q]at hd;cases hd
theorem Inv.nS(I:Inv X gd σ H s):s.heap.FunFrames X.base X.outer:=by
 have all:∀ l,(∀ b∈frs l,b∈X.fs)->X.s₀.heap.FunFrames X.base l->s.heap.FunFrames X.base l:=by
  intro l
  induction l with
  | nil=>intro _ _;trivial
  | cons env r K =>
   intro hs hl;let(P,(L,o,hf,hn,ho,hd),hr):=hl;have q:=hs L (by unfold frs;rw[Uv,hf];exact dZ)
   let(sl,e):=I.base.slot L o ho (I.ok.frf L q) q λz=>I.ok.K9 L z q
   exact(P,(L,_,hf,hn,e,hd),K (λb g=>hs b (by unfold frs;rw[Uv,hf];exact c5 _ g)) hr)
 exact all X.outer (λ_ g=>g) I.ok.nS
theorem Inv.stack(I:Inv X gd σ H s):s.heap.FunFrames X.base X.stack:=by
 rcases I.ok.stk with e |⟨e,hf⟩
 ·rw[e];exact I.nS
 ·rw[e];let(m,hn,_):=I.loc;exact .cons (by rw[I.ok.kind];decide) hf hn (E3 (uj I.ok.bsz I.ok.above)) I.nS
def Inv.oW(I:Inv X gd σ H s):∀ b∈frs X.stack,b∈X.env.locals::X.fs:=λb g=>by
 rcases I.ok.stk with e |⟨e,hf⟩
 ·rw[e]at g;exact c5 _ g
 ·rw[e]at g;unfold frs at g;rw[Uv,hf]at g;exact g
def Inv.r8(I:Inv X gd σ H s):∀ b∈frs X.stack,H b=none:=λb g=>by
 rcases i8.mp (I.oW b g)with e|g
 ·rw[e];exact I.free
 ·let(_,o,ho,_):=I.ok.nS.mem g;exact I.base.free b o ho (I.ok.frf b g) λz=>I.ok.K9 b z g
def Inv.step{g':Array GenState}{t':Nat}{d':Drawn}(I:Inv X gd σ H s)
  (K:∀ b∈ch,(b∈X.ex\/X.s₀.heap.objs.size<=b)/\b≠X.env.locals/\(∀ x c,X.env.cells.lookup x=Z c->c≠b)/\∀ p∈X.pn++gd,p.1≠b)
  (keep:∀ b o,b≠X.env.locals->b ∉ X.fs->b ∉ ch->s.heap.get? b=Z o->H b=Y->h'.get? b=Z o)
  (slot:∀ b o,b≠X.env.locals->b∈X.fs->b ∉ ch->s.heap.get? b=Z o->H b=Y->∃ sl,h'.get? b=Z { o with slots:=sl }) (free:∀ b o,b ∉ ch->s.heap.get? b=Z o->H b=Y->H' b=Y)
  (there:∀ b o,b ∉ ch->s.heap.get? b=Z o->∃ o',h'.get? b=Z o')
  (rg:∀ b xs,H b=Z (.tup xs)->H' b=Z (.tup xs)) (nT:∀ b o u,H b=Z (.frz o u)->H' b=Z (.frz o u)) (rh:∀ b ps,H b=Z (.tbl ps)->∃ more,H' b=Z (.tbl (ps++more)))
  (ns:∀ m,s.heap.Ns X.env.locals m->h'.Ns X.env.locals m) (hok:HOk X.prog X.w H' h') (hg:AllBare g') :
  Inv X gd σ H' { s with heap:=h',gens:=g',drawn:=d',toks:=t' }:=by
 have ah:∀ b o,X.s₀.heap.get? b=Z o->b≠X.env.locals:=λb o e=>u4 (xP (kf e) I.ok.above)
 have P:∀ b o,X.s₀.heap.get? b=Z o->b ∉ X.ex->b ∉ ch:=λb o e hx V=>by
  rcases(K b V).1 with z|z
  ·exact hx z
  ·exact absurd (xP (kf e) z) (Ti _)
 have cellK:∀ x c,X.env.cells.lookup x=Z c->∀ v,s.heap.IsCell c v->h'.IsCell c v:=λx c e v (o,ho,hd)=>by
  have g:=λz=>(K c z).2.2.1 x c e U
  by_cases hc:c∈X.fs
  ·let(sl,q):=slot c o (I.cne x c e) hc g ho (I.jW x c e);exact(_,q,hd)
  ·exact(o,keep c o (I.cne x c e) hc g ho (I.jW x c e),hd)
 refine(I.ok,I.os,hg,(λb o e n V hx=>?_,λb o e n V hx=>?_,λb o e n hx=>?_,λb o e hx=>?_,λb xs e=>rg b xs (I.base.rg b xs e),λb o xs e=>nT b o xs (I.base.nT b o xs e),λb ps e=>?_),?_,λx c e=>?_,?_,λx c e=>?_,λp hp=>?_,hok,I.len)
 ·exact keep b o (ah b o e) V (P b o e hx) (I.base.keep b o e n V hx) (I.base.free b o e n hx)
 ·let(sl,Q):=I.base.slot b o e n V hx;let(ai,e2):=slot b _ (ah b o e) V (P b o e hx) Q (I.base.free b o e n hx);exact(ai,e2)
 ·let(o',Q):=I.base.there b o e hx;exact free b o' (P b o e hx) Q (I.base.free b o e n hx)
 ·let(o',Q):=I.base.there b o e hx;exact there b o' (P b o e hx) Q
 ·let(m1,Q):=I.base.rh b ps e;let(m2,e2):=rh b _ Q;exact(m1++m2,by rw[e2,Array.append_assoc])
 ·let(m,hn,hl):=I.loc;refine(m,ns m hn,λi x v Q e2 e3=>?_)
  let(u,r,l):=hl i x v Q e2 e3;refine(u,r,?_);rcases l with l |⟨k,c,e,z⟩
  ·exact .inl l
  ·exact .inr (k,c,e,cellK x c e _ z)
 ·let(v,z):=I.cell x c e;exact(v,cellK x c e v z)
 ·let(m,(o,_,_,ho,_),_):=I.loc;exact free _ o (λz=>(K _ z).2.1 U) ho I.free
 ·let(v,o,ho,hd):=I.cell x c e;exact free c o (λz=>(K c z).2.2.1 x c e U) ho (I.jW x c e)
 ·let(e,n,ne,nf,d):=I.pin p hp;have g:=λz=>(K p.1 z).2.2.2 p hp U
  exact(keep p.1 p.2 ne nf g e n,free p.1 p.2 g e n,ne,nf,d)
def Inv.un(I:Inv X gd σ H s)(u:Un X.fs [] H H' s.heap h')(hok:HOk X.prog X.w H' h'):Inv X gd σ H' { s with heap:=h',toks:=t' }:=by
 let(m,(o,es,V,ho,r),_):=id I.loc;let(sl,Q):=u.any ho I.free (by simp)
 exact I.step (ch:=[]) (λ_ z=>nomatch z) (λb o _ q _ e n=>u.keep b o e n q (by simp)) (λb o _ q _ e n=>u.slot b o e n q (by simp)) (λb o _ e n=>u.free b o e n (by simp)) (λb o _ e=>u.there b o e (by simp)) u.rg u.nT u.rh (λm' hm=>by
  let(o',K,P,g,r'):=hm;rw[ho]at g;cases g;exact(_,K,P,Q,r')) hok I.bare
def Inv.call{g':Array GenState}{d':Drawn}(I:Inv X gd σ H s)(u:Un (frs X.stack) ch H H' s.heap h')(hok:HOk X.prog X.w H' h')(hg:AllBare g')
  (K:∀ b∈ch,(b∈X.ex\/X.s₀.heap.objs.size<=b)/\b≠X.env.locals/\(∀ x c,X.env.cells.lookup x=Z c->c≠b)/\∀ p∈X.pn++gd,p.1≠b) :
  Inv X gd σ H' { s with heap:=h',gens:=g',drawn:=d',toks:=t' }:=by
 let(m,(o,es,ep,ho,r),_):=id I.loc;let(sl,P):=u.any ho I.free λz=>(K _ z).2.1 U
 exact I.step K (λb o P hb g e n=>u.keep b o e n (λz=>(i8.mp (I.oW b z)).elim P hb) g) (λb o _ _ g e n=>u.any e n g) (λb o g e n=>u.free b o e n g) (λb o g e=>u.there b o e g) u.rg u.nT u.rh (λm' hm=>by
  let(o',Q,V,q,r'):=hm;rw[ho]at q;cases q;exact(_,Q,V,P,r')) hok hg
def Inv.turned(I:Inv X gd σ H s)(k:∀ b o,b≠it->s.heap.get? b=Z o->h'.get? b=Z o)(hn:H it=Y)(P:it≠X.env.locals)
  (h1:it∈X.ex\/X.s₀.heap.objs.size<=it) (h2:∀ x c,X.env.cells.lookup x=Z c->c≠it) (h3:∀ p∈X.pn++gd,p.1≠it):Inv X gd σ H { s with heap:=h',toks:=t' }:=by
 have K:∀ b u,H b=Z u->b≠it:=λb u e z=>by rw[z,hn]at e;cases e
 refine I.step (ch:=[it]) (λb Q=>?_) (λb o _ _ g e _=>k b o (λz=>g (by simp[z])) e) (λb o _ _ g e _=>(o.slots,k b o (λz=>g (by simp[z])) e)) (λ_ _ _ _ n=>n)
  (λb o g e=>(o,k b o (λz=>g (by simp[z])) e)) (λ_ _ e=>e) (λ_ _ _ e=>e) (λb ps e=>(#[],by rw[e];simp)) (λm hm=>?_) (λb u e=>?_) I.bare
 ·have e:=by simpa using Q
  subst e;exact(h1,P,h2,h3)
 ·let(o,es,V,ho,r):=hm;exact(o,es,V,k _ o (Ne.symm P) ho,r)
 ·refine(I.hok b u e).c6 (λc v g q=>k c v ?_ q) (λ_ q=>q) λ_ _ q=>q
  rcases g with z|z
  ·rw[z];exact K b u e
  ·exact K c _ z
def Inv.tok(I:Inv X gd σ H s)(t:Nat):Inv X gd σ H { s with toks:=t }:=I.un Un.refl I.hok
theorem Inv.kept{t':Nat}(I:Inv X gd σ H s)(k:∀ b u,s.heap.get? b=Z u->h'.get? b=Z u):Inv X gd σ H { s with heap:=h',toks:=t' }:=I.un (Un.kept k) (I.hok.kept k)
theorem Inv.laid{a:J}{o:HO}{t':Nat}(I:Inv X gd σ H s)(k:∀ b u,s.heap.get? b=Z u->h'.get? b=Z u)(hp:s.heap.objs.size<=a)(new:cJ X.prog X.w (upd H a o) h' a o) :
  Inv X gd σ (upd H a o) { s with heap:=h',toks:=t' }:=I.un (Un.laid k hp (I.hok.fresh hp)) (I.hok.laid k hp new)
theorem Inv.write{x e:J}{o:HO}{t':Nat}(I:Inv X gd σ H s)(q:Mut (H x))(he:e=x\/H e=Z (.own x))(k:∀ b u,b≠e->s.heap.get? b=Z u->h'.get? b=Z u)(g:∃ u,h'.get? e=Z u)
  (new:cJ X.prog X.w (upd H x o) h' x o):Inv X gd σ (upd H x o) { s with heap:=h',toks:=t' }:=I.un (Un.write q he k g) (I.hok.write q he k g new)
def Inv.nB{pins':List (J×Obj)}(I:Inv X gd σ H s)(h:∀ p∈pins',s.heap.get? p.1=Z p.2/\H p.1=Y/\p.1≠X.env.locals/\p.1 ∉ X.fs/\∀ v,p.2.data ≠ .cell v):Inv X pins' σ H s :=
 (I.ok,I.os,I.bare,I.base,I.loc,I.cell,I.free,I.jW,λp hp=>(j1.mp hp).elim (λz=>I.pin p (oE _ z)) (h p),I.hok,I.len)
def zh(g:N.Nodup)(a:N[i]? = Z x)(b:N[j]? = Z x):i=j:=by
 let(h1,z):=j2.mp a;let(h2,q):=j2.mp b;exact(List.getElem_inj g).mp (z.trans q.symm)
def Dz{M:Model}{A:Around}{E:B->ϋ->Prop}{v:V}{Q:Unit->ϋ->Prop}(I:Inv X gd σ H s)(hN:X.N.Nodup)(hi:X.N[i]? = Z x)(hx:Loc X.env.scope x)(r:RelV v u)
  (h:∀ s',Inv X gd (σ.set i (Z v)) H s' ->(∃ a,TN a s.heap s'.heap/\(a=X.env.locals\/X.env.cells.lookup x=Z a))->Q () s') (hf:X.fn x=O\/X.env.scope.names.lookup x=Z .local:=by first|exact .inl rfl|exact .inr rfl|assumption):wpAny M A (storeName X.env x u) Q E s:=by
 let(m,hn,hl):=id I.loc;have KY:(X.env.scope.kind == .class ||(X.env.scope.kind == .module&&X.env.locals != X.env.globals))=false:=by rw[I.ok.kind];rfl
 have ah:i < σ.length:=by rw[I.len];exact(j2.mp hi).1
 have cne:=I.cne;have tracked:∀{a:J}{h':Heap},(∃ o,s.heap.get? a=Z o/\H a=Y)->TN a s.heap h'->HOk X.prog X.w H h':=λ{a h'} ha hs b ob e=>by
  let(_,_,jV):=ha;refine(I.hok b ob e).c6 (λc w' K q=>(hs.2 c ?_).trans q) (λ_ q=>q) λ_ _ q=>q
  rintro rfl
  rcases K with rfl|K
  ·rw[jV]at e;cases e
  ·rw[jV]at K;cases K
 rcases hx with hk|hk
 ·refine wpAny_storeName_local hk hn (λh' aG hs=>?_) KY
  let(oL,_,_,aA,_):=id hn;refine h _ (I.ok,I.os,I.bare,(λb o e n hb hx=>?_,λb o e n hb hx=>?_,I.base.free,λb o e hx=>?_,I.base.rg,I.base.nT,I.base.rh),(_,aG,λj y v' g P e3=>?_),λy c e=>?_,I.free,I.jW,λp hp=>?_,tracked (oL,aA,I.free) hs,by simpa using I.len) (_,hs,.inl U)
  ·exact(hs.2 b (u4 (xP (kf e) I.ok.above))).trans (I.base.keep b o e n hb hx)
  ·let(sl,g):=I.base.slot b o e n hb hx;exact(sl,(hs.2 b (u4 (xP (kf e) I.ok.above))).trans g)
  ·let(o',g):=I.base.there b o e hx;exact(o',(hs.2 b (u4 (xP (kf e) I.ok.above))).trans g)
  ·by_cases hj:j=i
   ·subst hj;rw[hi]at g;cases g;rw[rW ah]at P;cases P;exact(u,r,.inl (hk,by simp))
   ·rw[rS (Ne.symm hj)]at P;let(u',r',q):=hl j y v' g P e3;refine(u',r',?_);rcases q with⟨k,e⟩ |⟨k,c,e,z⟩
    ·refine .inl (k,?_)
     have:y≠x:=λe=>hj (zh hN g (e▸hi))
     simp[this,e]
    ·exact .inr (k,c,e,z.sameBut hs (cne y c e))
  ·let(w',z):=I.cell y c e;exact(w',z.sameBut hs (cne y c e))
  ·let(e,n,ne,nf,d):=I.pin p hp;exact((hs.2 p.1 ne).trans e,n,ne,nf,d)
 ·have ai:X.fn x=true:=by
   rcases hf with z|z
   ·exact z
   ·rw[z]at hk;cases hk
  let(c,K):=I.ok.has x (.inl hk);let(w',z):=I.cell x c K;refine wpAny_storeName_cell I.ok.kind hk K z (λh' ax hs=>?_)
  let(oc,aj,SM):=id z;refine h { s with heap:=h' } (I.ok,I.os,I.bare,(λb o e n hb hx=>?_,λb o e n hb hx=>?_,I.base.free,λb o e hx=>?_,I.base.rg,I.base.nT,I.base.rh),(m,hn.sameBut hs (Ne.symm (cne x c K)),λj y v' g P e3=>?_),λy c' e=>?_,I.free,I.jW,λp hp=>?_,tracked (oc,aj,I.jW x c K) hs,by simpa using I.len) (c,hs,.inr K)
  ·exact(hs.2 b (u4 (xP (kf e) (I.ok.cab x c ai K)))).trans (I.base.keep b o e n hb hx)
  ·let(sl,g):=I.base.slot b o e n hb hx;exact(sl,(hs.2 b (u4 (xP (kf e) (I.ok.cab x c ai K)))).trans g)
  ·let(o',g):=I.base.there b o e hx;exact(o',(hs.2 b (u4 (xP (kf e) (I.ok.cab x c ai K)))).trans g)
  ·by_cases hj:j=i
   ·subst hj;rw[hi]at g;cases g;rw[rW ah]at P;cases P;exact(u,r,.inr (.inl hk,c,K,ax))
   ·rw[rS (Ne.symm hj)]at P;let(u',r',q):=hl j y v' g P e3;refine(u',r',?_);rcases q with q |⟨k,c',e,z'⟩
    ·exact .inl q
    ·refine .inr (k,c',e,z'.sameBut hs ?_)
     rintro rfl
     exact hj (zh hN g (I.ok.inj _ _ _ e K▸hi))
  ·by_cases ak:c'=c
   ·subst ak;exact(_,ax)
   ·let(w2,z2):=I.cell y c' e;exact(w2,z2.sameBut hs ak)
  ·let(e,n,ne,nf,d):=I.pin p hp;refine((hs.2 p.1 ?_).trans e,n,ne,nf,d);intro q;rw[q,aj]at e;have q':=Option.some.inj e;exact d w' (by rw[<- q'];exact SM)
def kA{M:Model}{A:Around}{E:B->ϋ->Prop}{v:V}{Q:Unit->ϋ->Prop}(I:Inv X gd σ H s)(g:X.N.Nodup)(hi:X.N[i]? = Z x)(hx:Loc X.env.scope x)(r:RelV v u)
  (h:∀ s',Inv X gd (σ.set i (Z v)) H s'->Q () s') (hf:X.fn x=O\/X.env.scope.names.lookup x=Z .local:=by first|exact .inl rfl|exact .inr rfl|assumption):wpAny M A (storeName X.env x u) Q E s :=
 Dz I g hi hx r (λs' q _=>h s' q) hf
def Inv.LY(I:Inv X gd σ H s)(ho:s'.os=s.os)(u:Un (frs X.stack) ch H H' s.heap s'.heap)(hok:HOk X.prog X.w H' s'.heap)(hg:AllBare s'.gens)
  (g:∀ b∈ch,(b∈X.ex\/X.s₀.heap.objs.size<=b)/\b≠X.env.locals/\(∀ x c,X.env.cells.lookup x=Z c->c≠b)/\∀ p∈X.pn++gd,p.1≠b):Inv X gd σ H' s':=by
 let(h',g',q,t',o'):=s';have e:=ho;subst e;exact I.call u hok hg g
end
abbrev XK:=B->Option J->Hp->Prop
abbrev St:=List (Option V)
abbrev VK:=V->Hp->Prop
abbrev TE:=St->Hp->VK->Prop
abbrev TT:=St->Hp ->(Bool->Hp->Prop)->Prop
abbrev TA:=St->Hp ->(List V->Hp->Prop)->Prop
structure Ends where
 nx:St->Hp->Prop
 rt:VK
 bk:St->Hp->Prop:=λ_ _=>False
 ct:St->Hp->Prop:=λ_ _=>False
abbrev TS:=Ends->St->Hp->Prop
inductive EP(X:Cx)(gd:List (J×Obj))(σ:St)(Q:VK)(u:B)(s':ϋ):Prop
 | mk(v H':_)(h1:Inv X gd σ H' s')(h2:RelV v u)(h3:Q v H')
inductive TP(X:Cx)(gd:List (J×Obj))(σ:St)(Q:Bool->Hp->Prop)(b:Bool)(s':ϋ):Prop
 | mk(H':_)(h1:Inv X gd σ H' s')(h2:Q b H')
inductive AP(X:Cx)(gd:List (J×Obj))(σ:St)(Q:List V->Hp->Prop)(us:List B)(s':ϋ):Prop
 | mk(vs H':_)(h1:Inv X gd σ H' s')(h2:Vals vs us)(h3:Q vs H')
def SP(X:Cx)(gd:List (J×Obj))(D:Ends)(f:Flow)(s':ϋ):Prop :=
 match f with
 | .next=>∃ g H',Inv X gd g H' s'/\D.nx g H'
 | .brk=>∃ g H',Inv X gd g H' s'/\D.bk g H'
 | .cont=>∃ g H',Inv X gd g H' s'/\D.ct g H'
 | .ret u=>∃ v g H',Inv X gd g H' s'/\RelV v u/\D.rt v H'
def PE(X:Cx)(e:Expr)(t:TE):Prop :=
 ∀(gd:List (J×Obj))(s:ϋ)(σ:St)(H:Hp)(Q:VK),Inv X gd σ H s->t σ H Q->wpAny (model X.prog X.w) X.A (eval e X.env) (EP X gd σ Q) X.xe s
def PT(X:Cx)(e:Expr)(t:TT):Prop :=
 ∀(gd:List (J×Obj))(s:ϋ)(σ:St)(H:Hp)(Q:Bool->Hp->Prop),Inv X gd σ H s->t σ H Q->wpAny (model X.prog X.w) X.A (isTrue e X.env (eval e X.env)) (TP X gd σ Q) X.xe s
def PW(X:Cx)(e:Expr)(t:TT):Prop :=
 ∀(whole:Sem B)(gd:List (J×Obj))(s:ϋ)(σ:St)(H:Hp)(Q:Bool->Hp->Prop),Inv X gd σ H s->t σ H Q->wpAny (model X.prog X.w) X.A (isTrue e X.env whole) (TP X gd σ Q) X.xe s
variable{X:Cx}{e:Expr}
def PW.pt{t:TT}(h:PW X e t):PT X e t:=h _
def PA(X:Cx)(es:List Expr)(t:TA):Prop :=
 ∀(pos:Pos)(gd:List (J×Obj))(s:ϋ)(σ:St)(H:Hp)(Q:List V->Hp->Prop),Inv X gd σ H s->t σ H Q->wpAny (model X.prog X.w) X.A (spliced (backTo pos (iS es X.env))) (AP X gd σ Q) X.xe s
def PS(X:Cx)(st:Stmt)(t:TS):Prop :=
 ∀(gd:List (J×Obj))(s:ϋ)(σ:St)(H:Hp)(D:Ends),Inv X gd σ H s->t D σ H->wpAny (model X.prog X.w) X.A (exec st X.env) (SP X gd D) X.xe s
def PSs(X:Cx)(st:List Stmt)(t:TS):Prop :=
 ∀(gd:List (J×Obj))(s:ϋ)(σ:St)(H:Hp)(D:Ends),Inv X gd σ H s->t D σ H->wpAny (model X.prog X.w) X.A (execs st X.env) (SP X gd D) X.xe s
variable{M:Model}{A:Around}{E:B->ϋ->Prop}{s:ϋ}
def thn{α:Type}{t:Sem α}{Q g:α->ϋ->Prop}(h:wpAny M A t Q E s)(q:∀ a s,Q a s->g a s):wpAny M A t g E s:=OZ h q λ_ _ x=>x
variable{gd:List (J×Obj)}{Q:B->ϋ->Prop}{op:CmpOp}
section
inductive bP(i:Nat)(σ:St)(H:Hp)(Q:VK):Prop
 | mk(v:_)(h1:σ[i]? = Z (Z v))(h2:Q v H)
def tC(v:V):TE:=λ_ H Q=>Q v H
def wG{pos:Pos}(P:X.N[i]? = Z x)(hv:Vis X.env.scope x)(hd:(x ==("__debug__":Str))=false:=by decide)(q:(x ==("__classdict__":Str))=false:=by decide):PE X (.Name x pos) (bP i):=by
 intro gd s σ H Q I h;let(v,e,h):=h;let(m,hn,hl):=I.loc;let(u,r,l):=hl i x v P e hv;have fin:EP X gd σ Q u s:=(v,H,I,r,h);rcases l with⟨g,hm⟩ |⟨g,c,K,z⟩
 ·exact wpAny_Name (wpAny_loadName_local I.ok.kind g hn hm fin) hd
 ·rcases g with g|g
  ·exact wpAny_Name (wpAny_loadName_cell I.ok.kind g K z fin) hd
  ·exact wpAny_Name (wpAny_loadName_free I.ok.kind g K z fin q) hd
def bS{i j pos}:PE X (.Constant (.int i) j pos) (tC (.int i)):=λ_ _ _ H _ I h=>wpAny_Constant_int (.int i,H,I.tok _,(_,U),h)
def P8{b j pos}:PE X (.Constant (.bool b) j pos) (tC (.bl b)):=λ_ _ _ H _ I h=>Constant_bool (.bl b,H,I,U,h)
def Nu{j pos}:PE X (.Constant .none j pos) (tC .non):=λ_ _ _ H _ I h=>Constant_none (.non,H,I,U,h)
def fB{x j pos}:PE X (.Constant (.str x) j pos) (tC (.str x)):=λ_ _ _ H _ I h=>Calls.Constant_str (.str x,H,I.tok _,(_,U),h)
def Gl(X:Cx)(x:Str):Prop:=X.env.kindOf x=Z .globalImplicit
def nQ{E:B->ϋ->Prop}{σ:St}{pos:Pos}(I:Inv X gd σ H s)(hg:Gl X x)(hm:X.mg x=Z u)(h:Q u s)
  (hd:(x ==("__debug__":Str))=false:=by decide):wpAny (model X.prog X.w) X.A (eval (.Name x pos) X.env) Q E s :=
 Calls.Name_function_global I.ok.kind hg (Calls.loadGlobal_global (by rw[I.ok.glob];exact I.mod.glob.keeps I.bk) hm h) hd
def i6{E:B->ϋ->Prop}{σ:St}{pos:Pos}(I:Inv X gd σ H s)(hg:Gl X x)(hm:X.mg x=Y)(hv:bootBuiltins x=Z u)(h:Q u s)
  (hn:x ≠ "__name__":=by decide) (hd:(x ==("__debug__":Str))=false:=by decide):wpAny (model X.prog X.w) X.A (eval (.Name x pos) X.env) Q E s:=by
 let(mb,h1,h2):=I.mod.blt;exact Calls.Name_function_global I.ok.kind hg (Calls.loadGlobal_builtin (by rw[I.ok.glob];exact I.mod.glob.keeps I.bk) hm (by rw[I.ok.blt];exact h1.keeps I.bk) ((h2 x hn).trans hv) h) hd
def wH{v:V}{pos:Pos}(hg:Gl X x)(hm:X.mg x=Z u)(r:RelV v u)(hd:(x ==("__debug__":Str))=false:=by decide):PE X (.Name x pos) (tC v) :=
 λ_ _ _ H _ I h=>nQ I hg hm (v,H,I,r,h) hd
def Ka{v:V}{pos:Pos}(hg:Gl X x)(hm:X.mg x=Y)(hv:bootBuiltins x=Z u)(r:RelV v u)(hn:x ≠ "__name__":=by decide)(hd:(x ==("__debug__":Str))=false:=by decide):PE X (.Name x pos) (tC v) :=
 λ_ _ _ H _ I h=>i6 I hg hm hv (v,H,I,r,h) hn hd
variable{a b:Expr}{ta tb:TE}{pos:Pos}
def Hb(b:Expr)(h:op ≠ .In)(h2:op ≠ .NotIn):behindInMarks op b=false:=by
 have q:(op==CmpOp.In)=false:=by cases op <;> first|rfl|exact absurd U h
 have g:(op==CmpOp.NotIn)=false:=by cases op <;> first|rfl|exact absurd U h2
 cases b with
 | Set elts k pos =>
  show(k==0&&(op==CmpOp.In||op==CmpOp.NotIn)&&_)=ϊ
  rw[q,g]
  cases(k==0) <;> rfl
 | _=>rfl
variable{tA tB':TT}{rest:List Expr}
def Mq(t u:TT):TT:=λσ H Q=>t σ H λc H1=>if c=O then u σ H1 Q else Q ϊ H1
def tOr(t u:TT):TT:=λσ H Q=>t σ H λc H1=>if c=O then Q O H1 else u σ H1 Q
def Ml(t:TT):TT:=λσ H Q=>t σ H λc H1=>Q (!c) H1
def Ca(ha:PT X a tA):PW X (.BoolOp .And [a] pos) tA:=by
 intro g gd s σ H Q I h;refine isTrue_and (thn (ha gd s σ H Q I h) λc s1 e=>?_)
 cases c with
 | true=>exact isTrue_and_nil e
 | false=>exact e
def MX(ha:PT X a tA):PW X (.BoolOp .Or [a] pos) tA:=by
 intro g gd s σ H Q I h;refine isTrue_or (thn (ha gd s σ H Q I h) λc s1 e=>?_)
 cases c with
 | false=>exact isTrue_or_nil e
 | true=>exact e
def GB(ha:PT X a tA)(P:PW X (.BoolOp .And (b::rest) pos) tB'):PW X (.BoolOp .And (a::b::rest) pos) (Mq tA tB'):=by
 intro K gd s σ H Q I h;refine isTrue_and (thn (ha gd s σ H _ I h) λc s1 g=>?_)
 let(H1,z,q):=g;cases c with
 | true=>exact P K gd s1 σ H1 Q z q
 | false=>exact(H1,z,q)
def PZ(ha:PT X a tA)(P:PW X (.BoolOp .Or (b::rest) pos) tB'):PW X (.BoolOp .Or (a::b::rest) pos) (tOr tA tB'):=by
 intro K gd s σ H Q I h;refine isTrue_or (thn (ha gd s σ H _ I h) λc s1 g=>?_)
 let(H1,z,q):=g;cases c with
 | true=>exact(H1,z,q)
 | false=>exact P K gd s1 σ H1 Q z q
def MZ(ha:PT X a tA):PT X (.UnaryOp .Not a pos) (Ml tA):=by
 intro gd s σ H Q I h;refine isTrue_not (thn (ha gd s σ H (λc H1=>Q (!c) H1) I h) λc s' z=>?_)
 let(H',g,q):=z;exact(H',g,q)
def Fj(ta tb:TE):TE:=λσ H Q=>ta σ H λx H1=>∃ c,x = .bl c/\if c=O then tb σ H1 Q else Q (.bl ϊ) H1
def Nt{op}{t:TE}(h:PE X a t):PE X (.BoolOp op [a] pos) t:=λgd s σ H Q I hw=>BoolOp_one (h gd s σ H Q I hw)
def Nv(ha:PE X a ta)(P:PE X (.BoolOp .And (b::rest) pos) tb):PE X (.BoolOp .And (a::b::rest) pos) (Fj ta tb):=by
 intro gd s σ H Q I h;refine BoolOp_and (thn (ha gd s σ H _ I h) λv s1 q=>?_)
 let(x,H1,z,K,g):=q;let(c,U,g):=g;cases K;refine wpAny_truthy_bool ?_;cases c with
 | true=>exact P gd s1 σ H1 Q z g
 | false=>exact(.bl ϊ,H1,z,U,g)
def tIf(t:TT)(ta tb:TE):TE:=λσ H Q=>t σ H λc H1=>if c=O then ta σ H1 Q else tb σ H1 Q
def GR{c:Expr}(K:PT X c tA)(ha:PE X a ta)(P:PE X b tb):PE X (.IfExp c a b pos) (tIf tA ta tb):=by
 intro gd s σ H Q I h;refine wpAny_IfExp (thn (K gd s σ H _ I h) λd s1 g=>?_)
 let(H1,z,q):=g;cases d with
 | true=>exact ha gd s1 σ H1 Q z q
 | false=>exact P gd s1 σ H1 Q z q
end
def SqL(K:W.Frag)(H:Hp)(a:J)(xs:List V):Prop :=
 Rd H a (.lst xs) \/
  ∃(o:Obj)(its:Array B)(n:Nat),K.lookup a=Z o/\o.cls = .type "list" /\ o.dict=Y/\o.data = .seq its n/\its.size<=j5/\Vals xs its.toList
def SqT(K:W.Frag)(H:Hp)(a:J)(xs:List V):Prop :=
 Rd H a (.tup xs) \/
  ∃(o:Obj)(its:Array B)(n:Nat),K.lookup a=Z o/\o.cls = .type "tuple" /\ o.data = .seq its n/\its.size<=j5/\Vals xs its.toList
def S4:B->Option V
 | .none=>Z .non
 | .bool b=>Z (.bl b)
 | .int i _=>Z (.int i)
 | .str x _=>Z (.str x)
 | .bytes b _=>Z (.byt b)
 | .float b _=>Z (.flt b)
 | .ref a=>Z (.ref a)
 | .type n=>Z (.ty n)
 | _=>Y
def RelV.abs{x:V}(r:RelV x u):S4 u=Z x:=by
 cases x with
 | non=>cases r;rfl
 | bl _=>cases r;rfl
 | int _=>let(t,U):=r;rfl
 | str _=>let(t,U):=r;rfl
 | byt _=>let(t,U):=r;rfl
 | flt _=>let(t,U):=r;rfl
 | ref _=>cases r;rfl
 | ty _=>cases r;rfl
theorem RelV.inj{x y:V}{u:B}(r:RelV x u)(q:RelV y u):x=y:=Option.some.inj (r.abs.symm.trans q.abs)
theorem Vals.inj:∀{xs ys:List V}{us:List B},Vals xs us->Vals ys us->xs=ys:=by
 intro xs ys us h
 induction h generalizing ys with
 | nil=>intro h';cases h';rfl
 | cons r t g=>intro h';cases h' with|cons r' t'=>rw[r.inj r',g t']
section
variable{σ:St}{xs ys:List V}
theorem SqL.of{K:W.Frag}(h:H a=Z (.lst xs)):SqL K H a xs:=.inl (.inl h)
theorem SqT.of{K:W.Frag}(h:H a=Z (.tup xs)):SqT K H a xs:=.inl (.inl h)
def Inv.list(I:Inv X gd σ H s)(h:SqL X.K H a xs):∃ its:List B,Vals xs its/\PlainL s.heap a its.toArray/\xs.length<=j5:=by
 rcases h with h |⟨o,its,n,g,q,hd,hs,P,r⟩
 ·let(z,its,n,r,e):=h.ok I.hok;exact(its,r,(_,n,e,U,U,U),z)
 ·refine(its.toList,r,(o,n,I.kIn a o g,q,hd,by simpa using hs),?_)
  have e:=r.length;simp only[Ts]at e
  lia
def Inv.tuple(I:Inv X gd σ H s)(h:SqT X.K H a xs):∃ its:List B,Vals xs its/\IsTup s.heap a its.toArray/\xs.length<=j5:=by
 rcases h with h |⟨o,its,n,g,q,hs,P,r⟩
 ·let(z,its,r,p):=h.ok I.hok;exact(its,r,p.1,z)
 ·refine(its.toList,r,(o,I.kIn a o g,q,n,by simpa using hs),?_)
  have e:=r.length;simp only[Ts]at e;omega
def Inv.tP(I:Inv X gd σ H s)(h:SqL X.K H a xs)(h':SqL X.K H a ys):xs=ys:=by
 let(its,r,(o,n,e,_,_,d),_):=I.list h;let(its',r',(o',P,g,_,_,q),_):=I.list h';rw[e]at g;cases g;rw[d]at q;injection q with z _
 have:=by simpa using congrArg Array.toList z
 subst this;exact r.inj r'
def Inv.vi(I:Inv X gd σ H s)(h:SqT X.K H a xs)(h':SqT X.K H a ys):xs=ys:=by
 let(its,r,(o,e,_,n,d),_):=I.tuple h;let(its',r',(o',g,_,P,q),_):=I.tuple h';rw[e]at g;cases g;rw[d]at q;injection q with z _
 have:=by simpa using congrArg Array.toList z
 subst this;exact r.inj r'
end
abbrev Cx.uN(X:Cx)(E:B->ϋ->Prop):Cx:={ X with xe:=E }
abbrev Cx.nox(X:Cx):Cx:=X.uN λ_ _=>False
theorem Cx.Ok.uN{X:Cx}(ok:X.Ok)(E:B->ϋ->Prop):(X.uN E).Ok :=
 (ok.mod,ok.kind,ok.glob,ok.blt,ok.above,ok.inj,ok.has,ok.cab,ok.hd,ok.frames,ok.stk,ok.exf,ok.bs,ok.bsz,ok.Ha,ok.K9,ok.nS,ok.frf)
def Cx.Ok.ku(ok:(X.uN E).Ok):X.Ok :=
 (ok.mod,ok.kind,ok.glob,ok.blt,ok.above,ok.inj,ok.has,ok.cab,ok.hd,ok.frames,ok.stk,ok.exf,ok.bs,ok.bsz,ok.Ha,ok.K9,ok.nS,ok.frf)
section
variable{σ:St}
theorem Inv.uN(I:Inv X gd σ H s)(E:B->ϋ->Prop):Inv (X.uN E) gd σ H s:=(I.ok.uN E,I.os,I.bare,I.base,I.loc,I.cell,I.free,I.jW,I.pin,I.hok,I.len)
theorem Inv.ku(I:Inv (X.uN E) gd σ H s):Inv X gd σ H s:=(I.ok.ku,I.os,I.bare,I.base,I.loc,I.cell,I.free,I.jW,I.pin,I.hok,I.len)
theorem SP.ku{D:Ends}{f:Flow}{s':ϋ}(h:SP (X.uN E) gd D f s'):SP X gd D f s':=by
 cases f with
 | next=>let(g,H',I,q):=h;exact(g,H',I.ku,q)
 | brk=>let(g,H',I,q):=h;exact(g,H',I.ku,q)
 | cont=>let(g,H',I,q):=h;exact(g,H',I.ku,q)
 | ret u=>let(v,g,H',I,r,q):=h;exact(v,g,H',I.ku,r,q)
theorem PSs.nox{st:List Stmt}{t:TS}(h:PSs X.nox st t):PSs X st t:=λgd s σ H D I hw =>
 OZ (h gd s σ H D (I.uN _) hw) (λ_ _ q=>q.ku) λ_ _ z=>False.elim z
end
section
variable{st:Stmt}{rest:List Stmt}{t u:TS}{te:TE}{pos:Pos}
def Lv:TS:=λD σ H=>D.nx σ H
def Mi(t u:TS):TS:=λD σ H=>t { D with nx:=u D } σ H
def Cc:PSs X [] Lv:=λ_ _ σ H _ I h=>wpAny_execs_nil (σ,H,I,h)
def cV(h1:PS X st t)(h2:PSs X rest u):PSs X (st::rest) (Mi t u):=by
 intro gd s σ H D I h;refine wpAny_execs_cons (thn (h1 gd s σ H { D with nx:=u D } I h) λf s1 q=>?_)
 cases f with
 | next =>
  let(g,H',z,q):=q;exact h2 gd s1 g H' D z q
 | ret v=>exact q
 | brk=>exact q
 | cont=>exact q
def iI(h1:PS X st t):PSs X [st] t:=by
 intro gd s σ H D I h;refine wpAny_execs_cons (thn (h1 gd s σ H D I h) λf s1 q=>?_)
 cases f with
 | next=>exact wpAny_execs_nil q
 | ret v=>exact q
 | brk=>exact q
 | cont=>exact q
def Inv.quiet{σ:St}(I:Inv X gd σ H s):interactive X.env=false:=by simp[interactive,I.ok.kind]
def kz(te:TE):TS:=λD σ H=>te σ H λ_ H1=>D.nx σ H1
def iJ(he:PE X e te)(hs:swapsWith e Y pos.line X.env=pure false:=by rfl):PS X (.Expr e pos) (kz te):=by
 intro gd s σ H D I h;exact wpAny_Expr_any (thn (he gd s σ H _ I h) λv s1 (x,H1,q,z,g)=>(σ,H1,q,g)) I.quiet hs
def Ff(te:TE):TS:=λD σ H=>te σ H D.rt
def mq(he:PE X e te):PS X (.Return (Z e) pos) (Ff te):=by
 intro gd s σ H D I h;exact wpAny_Return_some (thn (he gd s σ H _ I h) λv s1 (x,H1,z,g,q)=>(x,σ,H1,z,g,q))
def Jg(c:TT)(t u:TS):TS:=λD σ H=>c σ H λb H1=>if b=O then t D σ H1 else u D σ H1
def Cd{c:Expr}{a b:List Stmt}{tc:TT}(K:PT X c tc)(ha:PSs X a t)(P:PSs X b u):PS X (.If c a b pos) (Jg tc t u):=by
 intro gd s σ H D I h;refine wpAny_If (thn (K gd s σ H _ I h) λd s1 g=>?_)
 let(H1,z,q):=g;cases d with
 | true=>exact ha gd s1 σ H1 D z q
 | false=>exact P gd s1 σ H1 D z q
end
abbrev TG:=V->St->Hp ->(St->Hp->Prop)->Prop
abbrev TGs:=List V->St->Hp ->(St->Hp->Prop)->Prop
def PG(X:Cx)(target:Expr)(t:TG):Prop :=
 ∀(gd:List (J×Obj))(s:ϋ)(σ:St)(H:Hp)(v:V)(u:B)(Q:St->Hp->Prop),Inv X gd σ H s->RelV v u->t v σ H Q ->
  wpAny (model X.prog X.w) X.A (assign target X.env u) (λ_ s'=>∃ g H',Inv X gd g H' s'/\Q g H') X.xe s
def PGs(X:Cx)(ts:List Expr)(t:TGs):Prop :=
 ∀(gd:List (J×Obj))(s:ϋ)(σ:St)(H:Hp)(vs:List V)(us:List B)(Q:St->Hp->Prop),Inv X gd σ H s->Vals vs us->t vs σ H Q ->
  wpAny (model X.prog X.w) X.A (assignInOrder ((assignEach ts X.env).map (·.2)) us) (λ_ s'=>∃ g H',Inv X gd g H' s'/\Q g H') X.xe s
abbrev OT:=V->V->V->Hp ->(Hp->Prop)->Prop
def RN(X:Cx)(t:OT):Prop :=
 ∀(gd:List (J×Obj))(s:ϋ)(σ:St)(H:Hp)(o i v:V)(g iv u:B)(Q:Hp->Prop),Inv X gd σ H s->RelV o g->RelV i iv->RelV v u->t o i v H Q ->
  wpAny (model X.prog X.w) X.A (setItem g iv u) (λ_ s'=>∃ H',Inv X gd σ H' s'/\Q H') X.xe s
variable{es:List Expr}{n:Nat}{o:Expr}{to:TE}{tg:Expr}{te:TE}{pos':Pos}{b:Expr}{py:Pos}
section
variable{pos:Pos}
def gP(i:Nat):TG:=λv σ H Q=>Q (σ.set i (Z v)) H
def nC(g:X.N.Nodup)(hi:X.N[i]? = Z x)(hx:Loc X.env.scope x)(hf:X.fn x=O\/X.env.scope.names.lookup x=Z .local:=by first|exact .inl rfl|exact .inr rfl|assumption):PG X (.Name x pos) (gP i):=by
 intro gd s σ H v u Q I r h;exact wpAny_assign_Name (kA I g hi hx r (λs' q=>(_,H,q,h)) hf)
def Oy:TGs:=λvs σ H Q=>vs = []/\Q σ H
def CB(t:TG)(u:TGs):TGs:=λvs σ H Q=>∃ v r,vs=v::r/\t v σ H λg H'=>u r g H' Q
def wD:PGs X [] Oy:=by
 intro gd s σ H vs us Q I r h;let(e,h):=h;subst e;exact assignInOrder_nil (σ,H,I,h)
def fQ{t:TG}{u:TGs}(h1:PG X e t)(h2:PGs X es u)
  (hs:(assignEach (e::es) X.env).map (·.2)=assign e X.env ::(assignEach es X.env).map (·.2):=by rfl):PGs X (e::es) (CB t u):=by
 intro gd s σ H vs us Q I r h;let(v,V,K,h):=h;subst K;cases r with
 | cons r q =>
  rw[hs];exact assignInOrder_cons (thn (h1 gd s σ H _ _ _ I r h) λ_ s1 (g,H1,P,z)=>(h2 gd s1 g H1 _ _ Q P q z))
inductive K4(K:W.Frag)(n:Nat)(t:TGs)(v:V)(σ:St)(H:Hp)(Q:(St->Hp->Prop)):Prop
 | mk(a xs:_)(h1:v = .ref a)(h2:SqT K H a xs)(h3:xs.length=n)(h4:t xs σ H Q)
def Nq{k:Nat}{t:TGs}(V:X.calm=O)(h:PGs X es t)
  (hn:(assignEach es X.env).length=n:=by rfl) (g:(assignEach es X.env).findIdx? (·.1)=none:=by rfl):PG X (.Tuple es k pos) (K4 X.K n t):=by
 intro gd s σ H v u Q I r hw;let(a,xs,e1,P,hl,hw):=hw;subst e1;cases r;let(its,q,z,hz):=I.tuple P;refine assign_Tuple_tuple (I.ok.hd V) z (by simp[hn,<- hl,q.length]) g λh' hx=>?_
 have I1:=I.kept (t':=s.toks) λb o e=>hx b o (u4 (kf e)) e
 exact h gd _ σ H xs _ Q I1 (by simpa using q) hw
def Ox(to ti:TE)(t:OT):TG:=λv σ H Q=>to σ H λo H1=>ti σ H1 λi H2=>t o i v H2 λg=>Q σ g
def Nr{i:Expr}{ti:TE}{t:OT}(ho:PE X o to)(hi:PE X i ti)(hs:RN X t)
  (ha:∀ v,assign (.Subscript o i pos) X.env v =(do
   let g <- holding [v] (eval o X.env)
   let iv <- holding [v,g] (eval i X.env)
   standAt pos
   holding [v,g,iv] (setItem g iv v)
   release [v,g,iv] []):=by intro _;rfl):PG X (.Subscript o i pos) (Ox to ti t):=by
 intro gd s σ H v u Q I r h;exact cO (O0 (thn (ho gd s σ H _ I h) λg s1 (x,H1,I1,z,V)=>(cO (O0 (thn (hi gd s1 σ H1 _ I1 V) λiv s2 (y,H2,I2,q,P)=>(cO (wpAny_standAt (cO (O0 (thn (hs gd s2 σ H2 x y v g iv u _ I2 z q r P) λ_ s3 (H3,I3,K)=>(wpAny_release (σ,H3,I3,K))))))))))))
def mW(te:TE)(g:TG):TS:=λD σ H=>te σ H λx H1=>g x σ H1 D.nx
def GH{g:TG}(he:PE X e te)(hg:PG X tg g)(hs:swapsWithSole [tg] e pos.line X.env=pure false:=by rfl)(hw:swappedStores [tg] e X.env=pure none:=by rfl)
  (h1:(assignEach [tg] X.env).map (·.2) = [assign tg X.env]:=by rfl):PS X (.Assign [tg] e pos) (mW te g):=by
 intro gd s σ H D I h;refine wpAny_Assign_stores (thn (he gd s σ H _ I h) λv s1 z=>?_) hs hw
 let(x,H1,Q,K,P):=z;rw[h1];exact thn (hg gd s1 σ H1 x v _ Q K P) λ_ s2 q=>q
def i5(z:X.N.Nodup)(hi:X.N[i]? = Z x)(hx:Loc X.env.scope x)(he:PE X e te)(hs:swapsWith e (Z (.Name x pos')) pos.line X.env=pure false:=by rfl)(hf:X.fn x=O\/X.env.scope.names.lookup x=Z .local:=by first|exact .inl rfl|exact .inr rfl|assumption) :
  PS X (.Assign [.Name x pos'] e pos) (mW te (gP i)):=by
 intro gd s σ H D I h;exact wpAny_Assign_Name (thn (he gd s σ H _ I h) λv s1 (y,H1,P,g,q)=>(kA P z hi hx g (λs2 K=>(_,H1,K,q)) hf)) hs
def Mj(i j:Nat)(ta:TA):TS:=λD σ H=>ta σ H λvs H1=>∃ v w,vs = [v,w]/\D.nx ((σ.set i (Z v)).set j (Z w)) H1
def M0{y:Str}{a:Expr}{ta:TA}{V pt:Pos}{kt k2 g}(hc:X.calm=O)(hN:X.N.Nodup)(hi:X.N[i]? = Z x)(hj:X.N[j]? = Z y)(ai:i≠j)
  (hx:X.env.scope.names.lookup x=Z .local) (hy:X.env.scope.names.lookup y=Z .local) (ha:PA X [a,b] ta)
  (hw:swappedStores [.Tuple [.Name x V,.Name y py] kt pt] (.Tuple [a,b] k2 g) X.env=pure (Z [x,y]))
  (hs:swapsWithSole [.Tuple [.Name x V,.Name y py] kt pt] (.Tuple [a,b] k2 g) pos.line X.env=pure false:=by rfl) :
  PS X (.Assign [.Tuple [.Name x V,.Name y py] kt pt] (.Tuple [a,b] k2 g) pos) (Mj i j ta):=by
 intro gd s σ H D I h;refine cO (wpAny_standAt ?_);refine cO (ot ?_);refine cO (Tuple_ (thn (ha _ gd s σ H _ I h) λus s1 aj=>?_))
 let(vs,H1,I1,r1,Q):=aj;let(v,w,e1,Q):=Q;subst e1;obtain⟨K,z,rfl,rv,P⟩:∃ K z,us = [K,z]/\RelV v K/\RelV w z:=by
  cases r1 with
  | cons p q =>
   cases q with
   | cons p' q' =>
    cases q';exact(_,_,U,p,p')
 refine TH ?_ (by show 2<=j5;decide)
 have I2:Inv X gd σ H1 { s1 with heap:=s1.heap.push { cls:=.type "tuple",data:=.seq [K,z].toArray } }:=I1.kept λb o e=>fx _ e
 rw[hw];refine cO (ot ?_);refine cO (T9 (cO (unpackItems_tuple (items:=#[K,z]) (I.ok.hd hc) (IsTup.new s1.heap _) λh' ah=>?_)))
 have I3:=I2.kept (t':=s1.toks) λb o e=>ah b o (u4 (kf e)) e
 refine cO (assignInOrder_cons (wpAny_bindName (kA I3 hN hj (.inl hy) P (λs2 I4=>(assignInOrder_cons (wpAny_bindName (kA I4 hN hi (.inl hx) rv (λs3 I5=>assignInOrder_nil (ot ?_)) (.inr hx))))) (.inr hy))))
 rw[List.set_comm _ _ (Ne.symm ai)]at I5;exact(_,H1,I5,Q)
end
variable{body:List Stmt}
section
variable{pos:Pos}
def vZ(c:TT)(tb:TS):TS:=λD σ H=>∃ W:Nat->St->Hp->Prop,(∃ m,W m σ H)/\∀ m σ H,W m σ H ->
 c σ H λb H1=>if b=O then ∃ N:St->Hp->Prop,(∀ g H',N g H'->∃ m',m'<m/\W m' g H')/\tb { D with nx:=N,ct:=N,bk:=D.nx } σ H1 else D.nx σ H1
def sZ{c:Expr}{tc:TT}{tb:TS}(hp:UH (model X.prog X.w) X.A X.env X.xe)(hc:PT X c tc)(hb:PSs X body tb):PS X (.While c body [] pos) (vZ tc tb):=by
 intro gd s σ H D I h;let(W,(m0,w0),turn):=h;refine wpAny_While (codeAny_whileLoop (λn s'=>∃ z H',Inv X gd z H' s'/\W n z H') ?_ m0 (σ,H,I,w0))
 rintro n s1 ⟨q,H1,I1,w1⟩
 refine wpAny_passesOwn hp (thn (hc gd s1 q H1 _ I1 (turn n q H1 w1)) λb s2 ah=>?_)
 let(H2,I2,Q):=ah;cases b with
 | true =>
  let(N,hN,Q):=Q;refine wpAny_passesOwn hp (thn (hb gd s2 q H2 _ I2 Q) λf s3 P=>?_)
  cases f with
  | next =>
   let(g,K,I3,n3):=P;let(m',hm,V):=hN g K n3;exact(m',hm,g,K,I3,V)
  | cont =>
   let(g,K,I3,n3):=P;let(m',hm,V):=hN g K n3;exact(m',hm,g,K,I3,V)
  | brk=>exact P
  | ret v=>exact P
 | false =>
  exact wpAny_execs_nil (q,H2,I2,Q)
end
structure It where
 go:Nat->Hp->Prop
 yld:Nat->Hp->V->Hp->Prop
 stop:Nat->Hp->Prop
def vf(X:Cx)(gd:List (J×Obj))(H:Hp)(b:J):Prop :=
 H b=Y/\b≠X.env.locals/\b ∉ X.fs/\(b∈X.ex\/X.s₀.heap.objs.size<=b)/\(∀ x c,X.env.cells.lookup x=Z c->c≠b)/\∀ p∈X.pn++gd,p.1≠b
variable{H':Hp}
def Inv.Eu{σ:St}{b:J}(I:Inv X gd σ H s)(g:s.heap.objs.size<=b)(hn:H' b=Y):vf X gd H' b:=by
 refine(hn,O2 (xP I.lt g),I.Qk g,.inr (uj I.sz g),λx c e z=>?_,λp hp z=>?_)
 ·let(v,q):=I.cell x c e;exact absurd (xP q.lt (by rw[z];exact g)) (Ti _)
 ·exact absurd (xP (kf (I.pin p hp).1) (by rw[z];exact g)) (Ti _)
structure Turn(P:Program)(w:World)(K:W.Frag)(tg:Expr)(Vn:It)(fp:List J)(it:J)(tn:Nat->Heap->Prop):Prop where
 mem:it∈fp
 obj:∀ i h,tn i h->∀ b∈fp,∃ o,h.get? b=Z o/\∀ v,o.data ≠ .cell v
 keep:∀ i h h',tn i h ->(∀ b∈fp,∀ o,h.get? b=Z o->h'.get? b=Z o)->tn i h'
 item:∀(X:Cx),X.prog=P->X.w=w->X.K=K->X.calm=O->∀(i:Nat)(gd:List (J×Obj))(s:ϋ)(σ:St)(H:Hp)(E:B->ϋ->Prop),Inv X gd σ H s ->(∀ b∈fp,vf X gd H b)->tn i s.heap->Vn.go i H ->
  wpAny (model P w) X.A (pyNext (.ref it)) (λr s1=>∃ u,r=Z u /\
   wpAny (model P w) X.A (letOwnedTupleGo tg (.ref it) u) (λ_ s2=>∃ x H',Inv X gd σ H' s2/\RelV x u/\Vn.yld i H x H'/\tn (i+1) s2.heap/\∀ b∈fp,H' b=Y) E s1) E s
 done:∀(X:Cx),X.prog=P->X.w=w->X.K=K->X.calm=O->∀(i:Nat)(gd:List (J×Obj))(s:ϋ)(σ:St)(H:Hp)(E:B->ϋ->Prop),Inv X gd σ H s ->(∀ b∈fp,vf X gd H b)->tn i s.heap->Vn.stop i H ->
  wpAny (model P w) X.A (pyNext (.ref it)) (λr s1=>r=Y/\Inv X gd σ H s1) E s
 self:∀(A:Around)(i:Nat)(s:ϋ)(Q:B->ϋ->Prop)(E:B->ϋ->Prop),tn i s.heap->Q (.ref it) s->wpAny (model P w) A (pyIter (.ref it)) Q E s
abbrev TI:=St->Hp ->(It->Hp->Prop)->Prop
def PIE(X:Cx)(gd:List (J×Obj))(σ:St)(tg:Expr)(R:It->Hp->Prop)(g:B)(s2:ϋ):Prop :=
 ∃(it:J)(fp:List J)(tn:Nat->Heap->Prop)(Vn:It)(H':Hp),g = .ref it/\Inv X gd σ H' s2/\Turn X.prog X.w X.K tg Vn fp it tn/\tn 0 s2.heap/\(∀ b∈fp,vf X gd H' b)/\R Vn H'
def PI(X:Cx)(tg iter:Expr)(wi:TI):Prop :=
 ∀(gd:List (J×Obj))(s:ϋ)(σ:St)(H:Hp)(R:It->Hp->Prop),Inv X gd σ H s->wi σ H R ->
  wpAny (model X.prog X.w) X.A (eval iter X.env) (λv s1=>wpAny (model X.prog X.w) X.A (pyIter v) (PIE X gd σ tg R) X.xe s1) X.xe s
def zG{o:Obj}{n:String}{vs:Array B}{Q:Unit->ϋ->Prop}(ho:s.heap.get? it=Z o)(q:o.cls = .type n)(hd:o.data = .fields vs)
  (hn:["enumerate","zip","dict_itemiterator","dict_reverseitemiterator","odict_iterator","itertools.zip_longest","itertools.pairwise"].contains n=ϊ) (g:Q () s):wpAny M A (letOwnedTupleGo tg (.ref it) u) Q E s:=by
 cases tg <;> first
  | exact ot g
  | (cases u <;> first
    | exact ot g
    | (refine cO (wpAny_load ho ?_)
       rw[q,hd];show wpAny M A (if(["enumerate","zip","dict_itemiterator","dict_reverseitemiterator","odict_iterator","itertools.zip_longest","itertools.pairwise"].contains n&&vs[0]? == Z (rawInt _))=O then _ else _) Q E s
       rw[if_neg (by intro h;rw[hn]at h;cases h)]
       exact ot g))
def Itl(K:W.Frag)(a:J):It :=
 (λi H=>∃ xs x,SqL K H a xs/\xs[i]? = Z x,λi H x H'=>H'=H/\∀ xs,SqL K H a xs->xs[i]? = Z x,λi H=>∃ xs,SqL K H a xs/\xs.length<=i)
def Itt(K:W.Frag)(a:J):It :=
 (λi H=>∃ xs x,SqT K H a xs/\xs[i]? = Z x,λi H x H'=>H'=H/\∀ xs,SqT K H a xs->xs[i]? = Z x,λi H=>∃ xs,SqT K H a xs/\xs.length<=i)
def Itr(lo:Int)(n:Nat):It:=(λi _=>i<n,λi H x H'=>H'=H/\x = .int (lo+i),λi _=>n<=i)
theorem Ds{w:World}{K:W.Frag}(a it:J):Turn P w K tg (Itl K a) [it] it (λi h=>h.IsListIter it a i) where
 mem:=by simp
 obj:=λi h st b g=>by
  have e:=by simpa using g
  subst e;let(o,e,c,d):=st;exact(o,e,λv z=>by rw[d]at z;cases z)
 keep:=λi h h' st k=>st.at λo e=>k it (by simp) o e
 item:=by
  intro X hP hw hK hc i gd s σ H E I hf st hg;subst hP hw hK;let(xs,x,Q,hx):=hg;let(its,V,p,hz):=I.list Q;let(u,hu,ru):=V.get hx;let(f0,f1,f2,f3,f4,f5):=hf it (by simp)
  refine wpAny_pyNext_list_item st p.isList (by simpa using hu) λh' q sb=>?_
  have I1:=I.turned (t':=s.toks) (λb o g e=>(sb.2 b g).trans e) f0 f1 f3 f4 f5
  let(o,e,c,d):=id q;exact(u,U,zG e c d (by decide) (x,H,I1,ru,(U,λys hy=>by rw[I.tP hy Q];exact hx),q,λb g=>(hf b g).1))
 done:=by
  intro X hP hw hK hc i gd s σ H E I hf st hg;subst hP hw hK;let(xs,Q,hx):=hg;let(its,V,p,hz):=I.list Q;let(f0,f1,f2,f3,f4,f5):=hf it (by simp)
  have hl:=V.length;exact wpAny_pyNext_list_end (I.ok.hd hc) st p.isList (by simp;lia) λh' eb=>(U,I.turned (λb o g e=>eb b o g e) f0 f1 f3 f4 f5)
 self:=λ_ _ _ _ _ st h=>wpAny_pyIter_listiter st h
theorem Af{w:World}{K:W.Frag}(a it:J):Turn P w K tg (Itt K a) [it] it (λi h=>h.IsTupleIter it a i) where
 mem:=by simp
 obj:=λi h st b g=>by
  have e:=by simpa using g
  subst e;let(o,e,c,d):=st;exact(o,e,λv z=>by rw[d]at z;cases z)
 keep:=λi h h' st k=>st.at λo e=>k it (by simp) o e
 item:=by
  intro X hP hw hK hc i gd s σ H E I hf st hg;subst hP hw hK;let(xs,x,Q,hx):=hg;let(its,V,p,hz):=I.tuple Q;let(u,hu,ru):=V.get hx;let(f0,f1,f2,f3,f4,f5):=hf it (by simp)
  refine wpAny_pyNext_tuple_item st (p) (by simpa using hu) λh' q sb=>?_
  have I1:=I.turned (t':=s.toks) (λb o g e=>(sb.2 b g).trans e) f0 f1 f3 f4 f5
  let(o,e,c,d):=id q;exact(u,U,zG e c d (by decide) (x,H,I1,ru,(U,λys hy=>by rw[I.vi hy Q];exact hx),q,λb g=>(hf b g).1))
 done:=by
  intro X hP hw hK hc i gd s σ H E I hf st hg;subst hP hw hK;let(xs,Q,hx):=hg;let(its,V,p,hz):=I.tuple Q;let(f0,f1,f2,f3,f4,f5):=hf it (by simp)
  have hl:=V.length;exact wpAny_pyNext_tuple_end (I.ok.hd hc) st (p) (by simp;omega) λh' eb=>(U,I.turned (λb o g e=>eb b o g e) f0 f1 f3 f4 f5)
 self:=λ_ _ _ _ _ st h=>wpAny_pyIter_tupleiter st h
theorem Ag{w:World}{K:W.Frag}(it:J)(lo:Int)(n:Nat):Turn P w K tg (Itr lo n) [it] it (λi h=>IsRangeIter h it (lo+(i:Nat)*1) ((n:Int) - (i:Nat)) 1) where
 mem:=by simp
 obj:=λi h st b g=>by
  have e:=by simpa using g
  subst e;exact(_,st,λv z=>by
   have z':=z;cases z')
 keep:=λi h h' st k=>k it (by simp) _ st
 item:=by
  intro X hP hw hK Q i gd s σ H E I hf st hg;subst hP hw hK;let(f0,f1,f2,f3,f4,V):=hf it (by simp)
  have W:=Walks.range (prog:=X.prog) (w:=X.w) (I.ok.hd Q) it lo 1 n;refine W.item i s _ _ hg st λv h' tk hv q kk=>?_
  let(t,U):=hv;have I1:Inv X gd σ H { s with heap:=h',toks:=tk }:=I.turned (λb o g e=>kk b o (by simpa using g) e) f0 f1 f3 f4 V
  refine(_,U,zG q U U (by decide) (.int (lo+i),H,I1,(t,?_),(U,U),q,λb g=>(hf b g).1))
  rw[Int.mul_one]
 done:=by
  intro X hP hw hK Q i gd s σ H E I hf st hg;let(f0,f1,f2,f3,f4,V):=hf it (by simp)
  exact wpAny_pyNext_range_end (I.ok.hd Q) st (by have:n<=i:=hg;lia) λh' eb=>(U,I.turned (λb o g e=>eb b o g e) f0 f1 f3 f4 V)
 self:=λ_ _ _ _ _ st h=>wpAny_pyIter_rangeiter st h
variable{lo:Int}{p:Pos}{fp:List J}{iter:Expr}
section
def Hu(K:W.Frag)(tl:TE):TI:=λσ H R=>tl σ H λx H1=>∃ a,x = .ref a/\(∃ xs,SqL K H1 a xs)/\R (Itl K a) H1
def KR(K:W.Frag)(tl:TE):TI:=λσ H R=>tl σ H λx H1=>∃ a,x = .ref a/\(∃ xs,SqT K H1 a xs)/\R (Itt K a) H1
def sg{l:Expr}{tl:TE}(hl:PE X l tl):PI X tg l (Hu X.K tl):=by
 intro gd s σ H R I h;refine thn (hl gd s σ H _ I h) λv s1 z=>?_
 let(x,H1,g,P,Q):=z;let(a,e,(xs,V),q):=Q;subst e;cases P;let(its,rv,p,hz):=g.list V;refine wpAny_pyIter_list p.isList ?_;refine(s1.heap.objs.size,[s1.heap.objs.size],_,_,H1,U,g.kept λb o e=>fx _ e,Ds a _,(_,oF _ U,U,U),λb hb=>?_,q)
 have e:=by simpa using hb
 subst e;exact g.Eu (lx _) (g.hok.fresh (lx _))
def Nm{l:Expr}{tl:TE}(hl:PE X l tl):PI X tg l (KR X.K tl):=by
 intro gd s σ H R I h;refine thn (hl gd s σ H _ I h) λv s1 z=>?_
 let(x,H1,g,P,Q):=z;let(a,e,(xs,V),q):=Q;subst e;cases P;let(its,rv,p,hz):=g.tuple V;refine wpAny_pyIter_tuple (p) ?_;refine(s1.heap.objs.size,[s1.heap.objs.size],_,_,H1,U,g.kept λb o e=>fx _ e,Af a _,(_,oF _ U,U,U),λb hb=>?_,q)
 have e:=by simpa using hb
 subst e;exact g.Eu (lx _) (g.hok.fresh (lx _))
def FX{σ:St}{R:It->Hp->Prop}{hi:Int}{t u v:Tok}{tk:Nat}(I:Inv X gd σ H s)(h1:-(2 ^ 62)<=lo)(h2:lo<2 ^ 62)(h3:-(2 ^ 62)<=hi)(h4:hi<2 ^ 62)
  (q:R (Itr lo (hi - lo).toNat) H):wpAny (model X.prog X.w) X.A (pyIter (.ref s.heap.objs.size)) (PIE X gd σ tg R) E { s with heap:=s.heap.push { cls:=.type "range",data:=.fields #[.int lo t,.int hi u,.int 1 v] },toks:=tk }:=by
 refine wpAny_pyIter_range (IsRange.new ..) (small_one h1 h2 h3 h4) ?_;have g:Inv X gd σ H { s with heap:=s.heap.push { cls:=.type "range",data:=.fields #[.int lo t,.int hi u,.int 1 v] },toks:=tk }:=I.kept λb o e=>fx _ e
 refine((s.heap.push { cls:=.type "range",data:=.fields #[.int lo t,.int hi u,.int 1 v] }).objs.size,[(s.heap.push { cls:=.type "range",data:=.fields #[.int lo t,.int hi u,.int 1 v] }).objs.size],_,_,H,U,
  g.kept λb o e=>fx _ e,Ag _ lo (hi - lo).toNat,?_,λb z=>?_,q)
 ·have P:lo+((0:Nat))*1=lo:=by simp
  have K:(((hi - lo).toNat)) - ((0:Nat))=Builtin.Range.rangeSize lo hi 1:=by rw[rangeSize_one];split <;> lia
  rw[P,K];exact oF _ U
 ·have e:b =(s.heap.push { cls:=.type "range",data:=.fields #[.int lo t,.int hi u,.int 1 v] }).objs.size:=by simpa using z
  subst e;exact g.Eu (lx _) (g.hok.fresh (lx _))
def Ht(ta:TA):TI:=λσ H R=>ta σ H λvs H1=>∃ j:Int,vs = [.int j] /\ -(2 ^ 62)<=j/\j<2 ^ 62/\R (Itr 0 j.toNat) H1
def vq{a:Expr}{ta:TA}{pos:Pos}(hg:Gl X "range")(hm:X.mg "range" = Y)(ha:PA X [a] ta)(hs:iS [a] X.env = [(ϊ,eval a X.env)]:=by rfl):PI X tg (.Call (.Name "range" p) [a] [] pos) (Ht ta):=by
 intro gd s σ H R I h;refine Call_ (i6 I hg hm boot_range (PyProof.Rows.callWith_type1 (thn (ha pos gd s σ H _ I h) λus s1 (vs,H1,Q,K,g)=>?_) hs U))
 let(j,e,g,P,q):=g;subst e;cases K with
 | cons r z =>
  cases z;let(t,U):=r;exact call_range_1 (FX Q (by lia) (by lia) g P (by simpa using q))
def Mn(wi:TI)(g:TG)(tb:TS):TS:=λD σ H=>wi σ H λVn H1=>∃ W:Nat->Nat->St->Hp->Prop,(∃ m,W 0 m σ H1)/\∀ i m σ H,W i m σ H ->
 (Vn.stop i H/\D.nx σ H)\/(Vn.go i H/\∃ N:St->Hp->Prop,(∀ q H',N q H'->∃ m',m'<m/\W (i+1) m' q H')/\∀ x H',Vn.yld i H x H'->g x σ H' λz H2=>tb { D with nx:=N,ct:=N,bk:=D.nx } z H2)
def tm(fp:List J)(h:Heap):List (J×Obj):=fp.filterMap λb=>(h.get? b).map λo=>(b,o)
def ip{h:Heap}{b:J}{o:Obj}(g:b∈fp)(e:h.get? b=Z o):(b,o)∈tm fp h:=T6.mpr (b,g,by rw[e];rfl)
def D6{h:Heap}{p:J×Obj}(hp:p∈tm fp h):p.1∈fp/\h.get? p.1=Z p.2:=by
 let(b,g,e):=T6.mp hp;cases q:h.get? b with
 | none=>rw[q]at e;cases e
 | some o =>
  rw[q]at e;have z:=Option.some.inj e;subst z;exact(g,q)
def Inv.pinned{σ:St}(I:Inv X gd σ H s)(hf:∀ b∈fp,vf X gd H b)(ho:∀ b∈fp,∃ o,s.heap.get? b=Z o/\∀ v,o.data ≠ .cell v):Inv X (gd++tm fp s.heap) σ H s :=
 I.nB λp hp=>(j1.mp hp).elim (λz=>I.pin p (j0 _ z)) λz=>by
  let(g,e):=D6 z;let(f0,f1,f2,_):=hf p.1 g;let(o,q,d):=ho p.1 g;rw[e]at q;cases q;exact(e,f0,f1,f2,d)
def Inv.mV{pl:List (J×Obj)}{σ:St}(I:Inv X (gd++pl) σ H s):Inv X gd σ H s:=I.nB λp hp=>I.pin p (j0 _ (oE _ hp))
def AU{wi:TI}{g:TG}{tb:TS}{pos:Pos}(hp:UH (model X.prog X.w) X.A X.env X.xe)(hc:X.calm=O)(hi:PI X tg iter wi)(hg:PG X tg g)(P:PSs X body tb)
  (hs:∀ x,foldedSetIterable iter X.env x=pure x:=by intro _;rfl):PS X (.For tg iter body [] pos) (Mn wi g tb):=by
 intro gd s σ H D I h;refine wpAny_For (thn (hi gd s σ H _ I h) λv s1 h1=>thn h1 λaH s2 h2=>?_) hs
 let(it,fp,tn,Vn,H2,e,I2,T,ax,f2,W,(m0,w0),turn):=h2;subst e;have Mr:∀{H':Hp},(∀ b∈fp,H' b=Y)->∀ b∈fp,vf X gd H' b:=λhn b P=>(hn b P,(f2 b P).2)
 refine codeAny_forLoop_any (λn s'=>∃ i K H',Inv X gd K H' s'/\tn i s'.heap/\(∀ b∈fp,H' b=Y)/\W i n K H') ?_ m0 (0,σ,H2,I2,ax,λb P=>(f2 b P).1,w0)
 rintro n s3 ⟨i,z,H3,I3,ai,aj,w3⟩
 rcases turn i n z H3 w3 with⟨stop,qn⟩ |⟨go,N,hN,step⟩
 ·refine wpAny_passesOwn hp (thn (T.done X U U U hc i gd s3 z H3 X.xe I3 (Mr aj) ai stop) λr s4 Q=>?_)
  let(hr,I4):=Q;subst hr;exact wpAny_execs_nil (z,H3,I4,qn)
 ·refine wpAny_passesOwn hp (thn (T.item X U U U hc i gd s3 z H3 X.xe I3 (Mr aj) ai go) λr s4 Q=>?_)
  let(u,hr,h4):=Q;subst hr;refine wpAny_passesOwn hp (thn h4 λ_ s5 Q=>?_)
  let(x,H5,I5,r5,y5,ah,aA):=Q;have aG:=I5.pinned (Mr aA) (T.obj _ _ ah);refine wpAny_passesOwn hp (thn (hg _ s5 z H5 x u _ aG r5 (step x H5 y5)) λ_ s6 (ak,H6,I6,q6)=>(wpAny_passesOwn hp (thn (P _ s6 ak H6 _ I6 q6) λf s7 q7=>?_)))
  have again:∀{q:St}{H7:Hp},Inv X (gd++tm fp s5.heap) q H7 s7->N q H7->∃ m,m<n/\∃ i K H',Inv X gd K H' s7/\tn i s7.heap/\(∀ b∈fp,H' b=Y)/\W i m K H':=λ{q H7} V n7=>by
   let(m',hm,w7):=hN q H7 n7;refine(m',hm,i+1,q,H7,V.mV,T.keep _ _ _ ah λb P o e=>(V.pin (b,o) (j0 _ (j0 _ (ip P e)))).1,λb P=>?_,w7)
   let(o,e,d):=T.obj _ _ ah b P;exact(V.pin (b,o) (j0 _ (j0 _ (ip P e)))).2.1
  cases f with
  | next=>let(q,H7,V,n7):=q7;exact again V n7
  | cont=>let(q,H7,V,n7):=q7;exact again V n7
  | brk=>let(q,H7,V,q7):=q7;exact(q,H7,V.mV,q7)
  | ret v=>let(x7,q,H7,V,r7,q7):=q7;exact(x7,q,H7,V.mV,r7,q7)
end
variable{D:Ends}
theorem HH{K:W.Frag}{xs:List V}{g:TG}{tb:TS}{σ:St}(Pv:Nat->St->Hp->Prop)(h0:Pv 0 σ H)(hl:∀ i σ H,i<=xs.length->Pv i σ H->SqL K H a xs)
  (hs:∀ i x σ H,xs[i]? = Z x->Pv i σ H->g x σ H λz H2=>tb { D with nx:=Pv (i+1),ct:=Pv (i+1),bk:=D.nx } z H2) (hd:∀ σ H,Pv xs.length σ H->D.nx σ H) :
  ∃ W:Nat->Nat->St->Hp->Prop,(∃ m,W 0 m σ H)/\∀ i m σ H,W i m σ H ->
   ((Itl K a).stop i H/\D.nx σ H)\/((Itl K a).go i H/\∃ N:St->Hp->Prop,(∀ P H',N P H'->∃ m',m'<m/\W (i+1) m' P H')/\∀ x H',(Itl K a).yld i H x H'->g x σ H' λz H2=>tb { D with nx:=N,ct:=N,bk:=D.nx } z H2):=by
 refine(λi m σ H=>m=xs.length - i/\i<=xs.length/\Pv i σ H,(xs.length,by simp,Fq _,h0),?_)
 rintro i m σ H ⟨rfl,hi,p⟩
 have q:=hl i σ H hi p;by_cases Q:i<xs.length
 ·refine .inr ((xs,xs[i],q,by simp[Q]),Pv (i+1),λP H' p'=>(xs.length - (i+1),by omega,U,Q,p'),λx H' y=>?_)
  let(e,y):=y;subst e;exact hs i x σ _ (y xs q) p
 ·have e:i=xs.length:=by lia
  subst e;exact .inl ((xs,q,lx _),hd σ H p)
abbrev R2:=V->V->Hp->VK->Prop
def OpR(X:Cx)(f:B->B->Sem B)(r:R2):Prop :=
 ∀(gd:List (J×Obj))(s:ϋ)(σ:St)(H:Hp)(x y:V)(v u:B)(Q:VK),Inv X gd σ H s->RelV x v->RelV y u->r x y H Q ->
  wpAny (model X.prog X.w) X.A (f v u) (EP X gd σ Q) X.xe s
def UnR(X:Cx)(f:B->Sem B)(r:V->Hp->VK->Prop):Prop :=
 ∀(gd:List (J×Obj))(s:ϋ)(σ:St)(H:Hp)(x:V)(v:B)(Q:VK),Inv X gd σ H s->RelV x v->r x H Q ->
  wpAny (model X.prog X.w) X.A (f v) (EP X gd σ Q) X.xe s
def dN(X:Cx)(f:B)(r:List V->Hp->VK->Prop):Prop :=
 ∀(gd:List (J×Obj))(s:ϋ)(σ:St)(H:Hp)(xs:List V)(us:List B)(Q:VK),Inv X gd σ H s->Vals xs us->r xs H Q ->
  wpAny (model X.prog X.w) X.A (call f us) (EP X gd σ Q) X.xe s
def S5(X:Cx)(r:V->Hp ->(Bool->Hp->Prop)->Prop):Prop :=
 ∀(gd:List (J×Obj))(s:ϋ)(σ:St)(H:Hp)(x:V)(v:B)(Q:Bool->Hp->Prop),Inv X gd σ H s->RelV x v->r x H Q ->
  wpAny (model X.prog X.w) X.A (truthy v) (TP X gd σ Q) X.xe s
def tOp(r:R2)(ta tb:TE):TE:=λσ H Q=>ta σ H λx H1=>tb σ H1 λy H2=>r x y H2 Q
def tUn(r:V->Hp->VK->Prop)(ta:TE):TE:=λσ H Q=>ta σ H λx H1=>r x H1 Q
inductive rI(C:Int->Int->Prop)(g:Int->Int->V)(x:V)(y:V)(H:Hp)(Q:VK):Prop
 | mk(i j:_)(h1:x = .int i)(h2:y = .int j)(h3:C i j)(h4:Q (g i j) H)
inductive rI0(g:Int->Int->V)(x:V)(y:V)(H:Hp)(Q:VK):Prop
 | mk(i j:_)(h1:x = .int i)(h2:y = .int j)(h3:Q (g i j) H)
inductive rU(g:Int->V)(x:V)(H:Hp)(Q:VK):Prop
 | mk(i:_)(h1:x = .int i)(h2:Q (g i) H)
section
variable{a:Expr}{ta tb:TE}{pos:Pos}
def OD(ha:PE X a ta)(hb:PE X b tb){σ:St}{R:V->V->Hp->Prop}(I:Inv X gd σ H s)
  (h:ta σ H λx H1=>tb σ H1 λy H2=>R x y H2) {Q:B->ϋ->Prop} {f:B->B->Sem B}
  (hf:∀ v u s2 x y H2,Inv X gd σ H2 s2->RelV x v->RelV y u->R x y H2->wpAny (model X.prog X.w) X.A (f v u) Q X.xe s2) :
  wpAny (model X.prog X.w) X.A (eval a X.env) (λv g=>wpAny (model X.prog X.w) X.A (eval b X.env) (λu s₂=>wpAny (model X.prog X.w) X.A (f v u) Q X.xe s₂) X.xe g) X.xe s:=by
 exact thn (ha gd s σ H _ I h) λv s1 (x,H1,I1,z,P)=>(thn (hb gd s1 σ H1 _ I1 P) λu s2 (y,H2,I2,q,K)=>(hf v u s2 x y H2 I2 z q K))
def dS{op:Operator}{r:R2}(ho:OpR X (binaryOp op) r)(ha:PE X a ta)(K:PE X b tb):PE X (.BinOp a op b pos) (tOp r ta tb):=by
 intro gd s σ H Q I h;exact wpAny_BinOp (OD ha K I h λv u s2 x y H2 P z g q=>ho gd s2 σ H2 x y v u Q P z g q)
def Cg{op:UnaryOp}{r:V->Hp->VK->Prop}(ho:UnR X (unaryOp op) r)(ha:PE X a ta):PE X (.UnaryOp op a pos) (tUn r ta):=by
 intro gd s σ H Q I h;exact UnaryOp_ (thn (ha gd s σ H _ I h) λv s1 (x,H1,z,g,q)=>ho gd s1 σ H1 x v Q z g q)
def opI{f:B->B->Sem B}{C:Int->Int->Prop}{g:Int->Int->Int}
  (rule:∀(i j:Int)(t u:Tok)(s:ϋ)(Q:B->ϋ->Prop)(E:B->ϋ->Prop),C i j->Q (.int (g i j) s.toks) { s with toks:=s.toks+1 }->wpAny (model X.prog X.w) X.A (f (.int i t) (.int j u)) Q E s) :
  OpR X f (rI C λi j=>.int (g i j)):=by
 intro gd s σ H x y v u Q I K z h;let(i,j,U,U,P,q):=h;let(t,U):=K;let(t',U):=z;exact rule i j t t' s _ _ P (.int (g i j),H,I.tok _,(_,U),q)
def Qd{f:B->B->Sem B}{g:Int->Int->Int}
  (rule:∀(i j:Int)(t u:Tok)(s:ϋ)(Q:B->ϋ->Prop)(E:B->ϋ->Prop),Q (.int (g i j) s.toks) { s with toks:=s.toks+1 }->wpAny (model X.prog X.w) X.A (f (.int i t) (.int j u)) Q E s) :
  OpR X f (rI0 λi j=>.int (g i j)):=by
 intro gd s σ H x y v u Q I K z h;let(i,j,U,U,q):=h;let(t,U):=K;let(t',U):=z;exact rule i j t t' s _ _ (.int (g i j),H,I.tok _,(_,U),q)
def Kj{f:B->B->Sem B}{g:Int->Int->Bool}
  (rule:∀(i j:Int)(t u:Tok)(s:ϋ)(Q:B->ϋ->Prop)(E:B->ϋ->Prop),Q (.bool (g i j)) s->wpAny (model X.prog X.w) X.A (f (.int i t) (.int j u)) Q E s) :
  OpR X f (rI0 λi j=>.bl (g i j)):=by
 intro gd s σ H x y v u Q I K z h;let(i,j,U,U,q):=h;let(t,U):=K;let(t',U):=z;exact rule i j t t' s _ _ (.bl (g i j),H,I,U,q)
def Tb(i j:Int):Prop:=0<=j/\j<=1000000/\i.natAbs<2 ^ 64
def IL(i j:Int):Prop:=(-(2 ^ 64)<i/\i<2 ^ 64)\/(-(2 ^ 64)<j/\j<2 ^ 64)
def IL.ok{i j:Int}(h:IL i j):IntMulOk i j:=by
 rcases h with⟨h1,h2⟩ |⟨h1,h2⟩
 ·exact .of_left (intBits_le_64 h1 h2)
 ·exact .of_right (intBits_le_64 h1 h2)
def pI:OpR X (binaryOp .Add) (rI0 λi j=>.int (i+j)):=Qd λ_ _ _ _ _ _ _ q=>add_int q
def GZ:OpR X (binaryOp .Sub) (rI0 λi j=>.int (i - j)):=Qd λ_ _ _ _ _ _ _ q=>sub_int q
def my:OpR X (binaryOp .Mult) (rI IL λi j=>.int (i*j)):=opI λ_ _ _ _ _ _ _ g q=>mul_int q g.ok
def kT:OpR X (binaryOp .Mod) (rI (λ_ j=>0<j) λi j=>.int (i % j)):=opI λi j _ _ _ _ _ g q=>by
 exact mod_int' (by lia) (by rw[Int.fmod_eq_emod_of_nonneg i (by lia)];exact q)
def Nw:OpR X (binaryOp .Pow) (rI Tb λi j=>.int (i ^ j.toNat)):=opI λ_ _ _ _ _ _ _ g q=>pow_int_small g.1 g.2.1 g.2.2 q
def unI{f:B->Sem B}{g:Int->Int}
  (rule:∀(i:Int)(t:Tok)(s:ϋ)(Q:B->ϋ->Prop)(E:B->ϋ->Prop),Q (.int (g i) s.toks) { s with toks:=s.toks+1 }->wpAny (model X.prog X.w) X.A (f (.int i t)) Q E s) :
  UnR X f (rU λi=>.int (g i)):=by
 intro gd s σ H x v Q I z h;let(i,U,q):=h;let(t,U):=z;exact rule i t s _ _ (.int (g i),H,I.tok _,(_,U),q)
def vY:UnR X (unaryOp .USub) (rU λi=>.int (-i)):=unI λ_ _ _ _ _ q=>neg_int q
end
def Ju:V->V->Bool
 | .non,.non=>O | .non,.int _=>O | .int _,.non=>O | .non,.bl _=>O | .bl _,.non=>O | .non,.str _=>O | .str _,.non=>O
 | .int _,.int _=>O | .bl _,.bl _=>O | .str _,.str _=>O | .byt _,.byt _=>O
 | .int _,.str _=>O | .str _,.int _=>O | .bl _,.str _=>O | .str _,.bl _=>O
 | _,_=>ϊ
def rEq:R2:=λx y H Q=>Ju x y=O/\Q (.bl (decide (x=y))) H
def rNe:R2:=λx y H Q=>Ju x y=O/\Q (.bl (!decide (x=y))) H
def CM{i j:Int}:decide (V.int i=V.int j) =(i==j):=by
 rw[Ut];simp
def HX{i j:Bool}:decide (V.bl i=V.bl j) =(i==j):=by
 rw[Ut];simp
def CL{i j:Str}:decide (V.str i=V.str j) =(i==j):=by
 rw[Ut];simp
def CN{i j:Array UInt8}:decide (V.byt i=V.byt j) =(i.toList==j.toList):=by
 rw[Ut];cases i;cases j;simp
variable{r':R2}{its:List B}{y:V}
section
variable{a c:Expr}{ta tb tc:TE}{pos:Pos}
def br{σ:St}{Q:VK}{k k':Bool}(I:Inv X gd σ H s)(q:Q (.bl k) H)(e:k=k'):EP X gd σ Q (.bool k') s:=by
 subst e;exact(.bl k,H,I,U,q)
theorem LM:OpR X (compareOp .Eq) rEq:=by
 intro gd s σ H x y v u Q I z g h;let(hs,q):=h;cases x with
 | non =>
  cases z;cases y with
  | non=>cases g;exact PySem.EqNone.eq_none_none (br I q (by simp))
  | bl j=>cases g;exact PySem.EqNone.eq_none_bool (br I q (by simp))
  | int j=>let(t',U):=g;exact PySem.EqNone.eq_none_int (br I q (by simp))
  | str j=>let(t',U):=g;exact PySem.EqNone.eq_none_str (br I q (by simp))
  | _=>exact absurd (show ϊ=O from hs) qd
 | bl i =>
  cases z;cases y with
  | non=>cases g;exact PySem.EqNone.eq_bool_none (br I q (by simp))
  | bl j=>cases g;exact eq_bool (br I q HX)
  | str j=>let(t',U):=g;exact PySem.EqMixed.eq_bool_str (br I q (by simp))
  | _=>exact absurd (show ϊ=O from hs) qd
 | int i =>
  let(t,U):=z;cases y with
  | non=>cases g;exact PySem.EqNone.eq_int_none (br I q (by simp))
  | int j=>let(t',U):=g;exact eq_int (br I q CM)
  | str j=>let(t',U):=g;exact PySem.EqMixed.eq_int_str (br I q (by simp))
  | _=>exact absurd (show ϊ=O from hs) qd
 | str i =>
  let(t,U):=z;cases y with
  | non=>cases g;exact PySem.EqNone.eq_str_none (br I q (by simp))
  | bl j=>cases g;exact PySem.EqMixed.eq_str_bool (br I q (by simp))
  | int j=>let(t',U):=g;exact PySem.EqMixed.eq_str_int (br I q (by simp))
  | str j=>let(t',U):=g;exact eq_str (br I q CL)
  | _=>exact absurd (show ϊ=O from hs) qd
 | byt i =>
  let(t,U):=z;cases y with
  | byt j=>let(t',U):=g;exact W.eq_bytes (br I q CN)
  | _=>exact absurd (show ϊ=O from hs) qd
 | _=>cases y <;> exact absurd (show ϊ=O from hs) qd
theorem iK:OpR X (compareOp .NotEq) rNe:=by
 intro gd s σ H x y v u Q I z g h;let(hs,q):=h;cases x with
 | non =>
  cases z;cases y with
  | non=>cases g;exact PySem.EqNone.ne_none_none (br I q (by simp))
  | bl j=>cases g;exact PySem.EqNone.ne_none_bool (br I q (by simp))
  | int j=>let(t',U):=g;exact PySem.EqNone.ne_none_int (br I q (by simp))
  | str j=>let(t',U):=g;exact PySem.EqNone.ne_none_str (br I q (by simp))
  | _=>exact absurd (show ϊ=O from hs) qd
 | bl i =>
  cases z;cases y with
  | non=>cases g;exact PySem.EqNone.ne_bool_none (br I q (by simp))
  | bl j=>cases g;exact ne_bool (br I q (congrArg not HX))
  | str j=>let(t',U):=g;exact PySem.EqMixed.ne_bool_str (br I q (by simp))
  | _=>exact absurd (show ϊ=O from hs) qd
 | int i =>
  let(t,U):=z;cases y with
  | non=>cases g;exact PySem.EqNone.ne_int_none (br I q (by simp))
  | int j=>let(t',U):=g;exact ne_int (br I q (congrArg not CM))
  | str j=>let(t',U):=g;exact PySem.EqMixed.ne_int_str (br I q (by simp))
  | _=>exact absurd (show ϊ=O from hs) qd
 | str i =>
  let(t,U):=z;cases y with
  | non=>cases g;exact PySem.EqNone.ne_str_none (br I q (by simp))
  | bl j=>cases g;exact PySem.EqMixed.ne_str_bool (br I q (by simp))
  | int j=>let(t',U):=g;exact PySem.EqMixed.ne_str_int (br I q (by simp))
  | str j=>let(t',U):=g;exact ne_str (br I q (congrArg not CL))
  | _=>exact absurd (show ϊ=O from hs) qd
 | byt i =>
  let(t,U):=z;cases y with
  | byt j=>let(t',U):=g;exact W.ne_bytes (br I q (congrArg not CN))
  | _=>exact absurd (show ϊ=O from hs) qd
 | _=>cases y <;> exact absurd (show ϊ=O from hs) qd
def LI:OpR X (compareOp .Lt) (rI0 λi j=>.bl (decide (i<j))):=Kj λ_ _ _ _ _ _ _ q=>lt_int q
def LJ:OpR X (compareOp .LtE) (rI0 λi j=>.bl (decide (i<=j))):=Kj λ_ _ _ _ _ _ _ q=>le_int q
def G5:OpR X (compareOp .Gt) (rI0 λi j=>.bl (decide (j<i))):=Kj λ_ _ _ _ _ _ _ q=>gt_int q
def Qc:OpR X (compareOp .GtE) (rI0 λi j=>.bl (decide (j<=i))):=Kj λ_ _ _ _ _ _ _ q=>ge_int q
def D4:OpR X (compareOp .In) (λx y H Q=>∃ i j,x = .str i/\y = .str j/\Q (.bl (!(Builtin.Str.occurrences j i 0 j.length 1).isEmpty)) H):=by
 intro gd s σ H x y v u Q I z g h;let(i,j,U,U,q):=h;let(t,U):=z;let(t',U):=g;exact in_str (br I q U)
def Ke:OpR X (compareOp .IsNot) (λx y H Q=>y = .non/\Q (.bl (!decide (x = .non))) H):=by
 intro gd s σ H x y v u Q I z g h;let(U,q):=h;cases g;refine isnot_none_gen (br I q ?_);cases x <;>(let(t,U):=z;rfl)
def wK:OpR X (compareOp .NotIn) (λx y H Q=>∃ i j,x = .str i/\y = .str j/\Q (.bl (!(!(Builtin.Str.occurrences j i 0 j.length 1).isEmpty))) H):=by
 intro gd s σ H x y v u Q I z g h;let(i,j,U,U,q):=h;let(t,U):=z;let(t',U):=g;exact notIn_str (br I q U)
def OpR.or{f:B->B->Sem B}{r:R2}(h:OpR X f r)(h':OpR X f r'):OpR X f (λx y H Q=>r x y H Q\/r' x y H Q):=by
 intro gd s σ H x y v u Q I z g q;rcases q with q|q
 ·exact h gd s σ H x y v u Q I z g q
 ·exact h' gd s σ H x y v u Q I z g q
def bH(b:Expr)(h:op ≠ .In:=by decide)(h2:op ≠ .NotIn:=by decide):behindInMarks op b=false:=Hb b h h2
def J9{r:R2}(ho:OpR X (compareOp op) r)(ha:PE X a ta)(K:PE X b tb)(hm:behindInMarks op b=ϊ):PE X (.Compare a [op] [b] pos) (tOp r ta tb):=by
 intro gd s σ H Q I h;exact wpAny_Compare1 (OD ha K I h λv u s2 x y H2 P z g q=>ho gd s2 σ H2 x y v u Q P z g q) hm
def yf(t:TE):TT:=λσ H Q=>t σ H λx H'=>∃ k,x = .bl k/\Q k H'
def lI{r:R2}(ho:OpR X (compareOp op) r)(ha:PE X a ta)(hb:PE X b tb)(hm:behindInMarks op b=ϊ):PT X (.Compare a [op] [b] pos) (yf (tOp r ta tb)):=by
 intro gd s σ H Q I h;refine wpAny_isTrue_Compare1 (thn (ha gd s σ H _ I h) λv s1 (x,H1,I1,K,q1)=>thn (hb gd s1 σ H1 _ I1 q1) λu s2 (y,H2,I2,q,V) =>
  thn (ho gd s2 σ H2 x y v u _ I2 K q V) λc s3 (z,H3,I3,g,k,e,P)=>?_) hm
 subst e;cases g;exact wpAny_truthy_bool (H3,I3,P)
def Fg(r r':R2)(ta tb tc:TE):TE:=λσ H Q=>ta σ H λx H1=>tb σ H1 λy H2=>r x y H2 λz g=>∃ k,z = .bl k /\
 (if k=O then tc σ g λq K=>r' y q K Q else Q (.bl ϊ) g)
def GX{g:CmpOp}{r:R2}(ho:OpR X (compareOp op) r)(q:OpR X (compareOp g) r')(ha:PE X a ta)(hb:PE X b tb)(hc:PE X c tc)
  (hm:lastMarks [op,g] [b,c]=false:=by with_unfolding_all rfl):PE X (.Compare a [op,g] [b,c] pos) (Fg r r' ta tb tc):=by
 intro gd s σ H Q I h;refine Compare_chain (thn (ha gd s σ H _ I h) λv s1 (x,H1,I1,r1,q1)=>chain_link (thn (hb gd s1 σ H1 _ I1 q1) λu s2 (y,H2,I2,K,q2) =>
  thn (ho gd s2 σ H2 x y v u _ I2 r1 K q2) λd s3 (z,H3,V,r3,k,e,P)=>?_)) hm
 subst e;cases r3;refine wpAny_truthy_bool ?_;cases k with
 | false=>exact ite_ff (.bl ϊ,H3,V,U,P)
 | true=>exact ite_tt (chain_last (thn (hc gd s3 σ H3 _ V P) λw' s4 (z',H4,I4,r4,q4)=>q gd s4 σ H4 y z' u w' Q I4 K r4 q4))
def Lm(K:W.Frag)(x:V)(H:Hp)(k:Bool):Prop :=
 match x with
 | .non=>k=ϊ
 | .bl b=>k=b
 | .int i=>k =(i != 0)
 | .str y=>y.length<=j5/\k =((y.length:Int) != 0)
 | .byt y=>y.size<=j5/\k =((y.size:Int) != 0)
 | .ref p=>(∃ xs,SqL K H p xs/\k = !xs.isEmpty)\/(∃ xs,SqT K H p xs/\k = !xs.isEmpty)\/∃ kvs,H p=Z (.dK kvs)/\k = !kvs.isEmpty
 | _=>False
def Bl{κ:Type}{kvs:List (κ×V)}{vs:List (κ×B)}(r:KV kvs vs):(!vs.isEmpty) = !kvs.isEmpty:=by
 cases r <;> rfl
def tW{xs:List V}(r:Vals xs its):(!its.toArray.isEmpty) = !xs.isEmpty:=by
 cases r <;> simp
def mG:(j5:Nat)<2 ^ 63:=by decide
theorem Mf:S5 X (λx H Q=>∃ k,Lm X.K x H k/\Q k H):=by
 intro gd s σ H x v Q I z h;let(k,e,q):=h;have hl:=mG;have hs:j5=16777216:=Tx;cases x with
 | non =>
  cases z;have g:k=false:=e;subst g;exact truthy_none (H,I,q)
 | bl b =>
  cases z;have g:k=b:=e;subst g;exact wpAny_truthy_bool (H,I,q)
 | int i =>
  let(t,U):=z;have g:k =(i != 0):=e;subst g;exact PySem.P.truthy_int (H,I,q)
 | str y =>
  let(t,U):=z;let(hy,g):=e;subst g;exact PySem.P.truthy_str (by omega) (H,I.tok _,q)
 | byt y =>
  let(t,U):=z;let(hy,g):=e;subst g;exact W.truthy_bytes (by omega) (H,I.tok _,q)
 | ref p =>
  cases z;have g:=e;rcases g with⟨xs,hx,g⟩ |⟨xs,hx,g⟩ |⟨kvs,hx,g⟩
  ·subst g;let(its,r,pl,V):=I.list hx;have hlen:=r.length;exact wpAny_truthy_list pl.isList (by simp only[qi];omega) (H,I.tok _,by rw[tW r];exact q)
  ·subst g;let(its,r,pl,V):=I.tuple hx;have hlen:=r.length;exact truthy_tuple pl (by simp only[qi];omega) (H,I.tok _,by rw[tW r];exact q)
  ·subst g;let(V,hS,vs,r,m):=I.hok p _ hx;have hlen:kvs.length=vs.length:=Paired.length r;exact wpAny_truthy_dict hS m (by omega) (H,I.tok _,by rw[Bl r];exact q)
 | _=>exact(show False from e).elim
def GF(ha:PE X a ta)(he:∀ whole,isTrue a X.env whole =(do let v <- whole;standAt a.pos;holding [v] (truthy v))) :
  PT X a (λσ H Q=>ta σ H λx H'=>∃ k,Lm X.K x H' k/\Q k H'):=by
 intro gd s σ H Q I h;exact isTrue_plain (thn (ha gd s σ H _ I h) λv s1 (x,H1,z,g,q)=>Mf gd s1 σ H1 x v Q z g q) (he _)
def A1:OpR X (binaryOp .Add) (λx y H Q=>∃ i j,x = .str i/\y = .str j/\i.length+j.length<=j5/\Q (.str (i++j)) H):=by
 intro gd s σ H x y v u Q I z g h;let(i,j,U,U,K,q):=h;let(t,U):=z;let(t',U):=g;exact add_str (λt' tk=>(.str (i++j),H,I.tok _,(_,U),q)) K
def vals1{x:V}(r:Vals [x] us):∃ u,us = [u]/\RelV x u:=by
 cases r with
 | cons q g=>cases g;exact(_,U,q)
def vals2{x:V}(r:Vals [x,y] us):∃ u g,us = [u,g]/\RelV x u/\RelV y g:=by
 cases r with
 | cons P K =>
  cases K with
  | cons z q=>cases q;exact(_,_,U,P,z)
def EI(z:X.calm=O):dN X (.builtin "max") (λxs H Q=>∃ i j,xs = [.int i,.int j]/\Q (.int (if j > i then j else i)) H):=by
 intro gd s σ H xs us Q I r h;let(i,j,U,q):=h;let(u,K,U,(t,U),(t',U)):=vals2 r;refine max_two_ints (I.ok.hd z) λh' tk k=>(_,H,I.kept k,?_,q)
 by_cases g:j > i
 ·rw[if_pos g,if_pos g];exact(_,U)
 ·rw[if_neg g,if_neg g];exact(_,U)
def jm:dN X (.type "int") (λxs H Q=>(∃ i,xs = [.int i]/\Q (.int i) H)\/∃ k,xs = [.bl k]/\Q (.int (if k then 1 else 0)) H):=by
 intro gd s σ H xs us Q I r h;rcases h with⟨i,rfl,q⟩ |⟨k,rfl,q⟩
 ·let(u,U,t,U):=vals1 r;exact call_int_int (.int i,H,I,(_,U),q)
 ·let(u,U,g):=vals1 r;cases g;exact call_int_bool (.int (if k then 1 else 0),H,I.tok _,(_,U),q)
end
structure BG(h:Heap)(x dx C:J)(mA:Str->Option B):Prop where
 obj:h.get? x=Z (W.instObj C dx)
 ns:h.Ns1 dx mA
 ne:dx≠x
variable{mA:Str->Option B}
theorem Eb{h:Heap}{dx:J}(n:h.Ns1 dx mA):∃ od,h.get? dx=Z od/\∀ name,W.lookIn name od=Z (mA name):=by
 let(o,es,V,ho,hd,K,_,hm):=n;refine(o,ho,λname=>?_)
 have e:=hm name;unfold nsFind findBy at e;rw[<- UZ]at e;unfold W.lookIn;rw[hd];dsimp only
 split
 ·rename_i y q;rw[q]at e;exact congrArg Z e
 ·rename_i q;rw[q]at e;have a:es.toList.any (·.refKey)=false:=by
   rw[List.any_eq_false];intro y g;let(z,t,Q):=K y (Array.mem_toList_iff.mp g);simp[DictEntry.refKey,Q]
  have P:¬ es.toList.any (·.refKey)=true:=by rw[a];exact qd
  rw[if_neg P];exact congrArg Z e
variable{C:J}
theorem BG.look{h:Heap}{x dx:J}(I:BG h x dx C mA):∃ od,W.InstAt h x (W.instObj C dx) C (Z od)/\∀ name,W.lookIn name od=Z (mA name) :=
 let(od,ho,hl):=Eb I.ns
 (od,(I.obj,U,U,ho),hl)
variable{pl:Sem Bool}{R:Result->ϋ->Prop}{kw:List (Str×B)}
section
variable{prog:Program}{w:World}{K:W.Frag}{x dx f:J}{name:Str}{v:B}
theorem get_map{expr:Bool}(X:K.In s.heap)(I:BG s.heap x dx C mA)(hg:W.plainGet K C name=O)(q:W.hasDictIn K C=O)
  (ha:W.findIn K (.ref C) name=Z Y) (hv:mA name=Z v) (g:W.handedIn v=O) (h:Q v { s with toks:=s.toks+1 }) :
  wpAny (model prog w) A (getAttr (.ref x) name expr) Q E s:=by
 let(od,Vn,hl):=I.look;exact W.get_value X Vn (W.plainGet_of hg).1 (W.findObj_own q ha U (by rw[hl,hv])) g h
theorem HE{Q:B×List B->ϋ->Prop}(X:K.In s.heap)(I:BG s.heap x dx C mA)(hg:W.plainGet K C name=O)
  (hf:W.findIn K (.ref C) name=Z (Z (.ref f))) (g:W.isFn K (.ref f)=O) (hv:mA name=Y) (h:Q (.ref f,[.ref x]) s) :
  wpAny (model prog w) A (getMethod (.ref x) name pl) Q E s:=by
 let(od,Vn,hl):=I.look;exact W.method_fn X Vn (W.plainGet_of hg).1 (W.plainGet_of hg).2 hf (beq_iff_eq.mp g) (by show(W.lookIn name od).map (·.isSome)=Z ϊ;rw[hl,hv];rfl) h
theorem Jt{ns:List Str}{Q:Unit->ϋ->Prop}(X:K.In s.heap)(I:BG s.heap x dx C mA)
  (hs:W.findIn K (.ref C) "__setattr__" = Z (Z (.builtin "object.__setattr__"))) (hp:W.plainOver K C=O) (ht:W.takerIn K C name=Z Y) (hh:W.hasDictIn K C=O)
  (hw:PySem.Within mA ns) (hsz:ns.length<=j5)
  (h:∀ h',BG h' x dx C (λy=>if y=name then Z v else mA y)->TN dx s.heap h'->Q () { s with heap:=h',toks:=s.toks+2 }) :
  wpAny (model prog w) A (setAttr (.ref x) name v) Q E s:=by
 let(od,Vn,hl):=I.look;refine W.set_plain X Vn hs (W.osa_open X Vn hp ht λb=>?_)
 let(cd,hc,V):=W.any_some hh;have hx:=I.obj;refine cO (ot (cO (cO (wpAny_loadPart hx (cO (W.Looks.here (W.looks_clsIn X hc) ?_))))));rw[V];refine ot (cO (ot (cO ?_)));refine wpAny_nsSet1 I.ns λh' q g=>?_
 let(oD,ai,aj,z,P,ah):=q.count (PySem.Within.cons name v hw);exact cO (wpAny_lookBehind z (by rw[P];exact pastItsLine_dict (uj ah (by rw[mu];omega))) (ot (h _ ((g.2 _ (Ne.symm I.ne)).trans I.obj,q,I.ne) g)))
theorem He{vs:List B}(X:K.In s.heap)(hm:W.makesIn K C=O)
  (hi:W.findIn K (.ref C) "__init__" = Z (Z (.ref f))) (hf:W.typeIn K (.ref f)=Z (.type "function"))
  (h:codeAny (model prog w) (A.under (.builtin "type.__call__" (.ref C::vs,kw))) (.call (.ref f) (.ref (s.heap.objs.size+1)::vs,kw)) (W.InitBack (s.heap.objs.size+1) R)
   { s with heap:=(s.heap.push W.emptyDict).push (W.instObj C s.heap.objs.size) }) :
  codeAny (model prog w) A (.call (.ref C) (vs,kw)) R s:=by
 exact W.make_core (W.makes_of X hm) (W.looks_findIn X hi) (λself=>W.bind_fn X self hf) (.inl U) h
end
def dR(f:Str)(v:V):List (Str×V)->List (Str×V)
 | []=>[(f,v)]
 | (g,x)::r=>if g=f then(g,v)::r else(g,x)::dR f v r
theorem kX(f g:Str)(v:V):∀ fs:List (Str×V),(dR f v fs).lookup g=if g=f then Z v else fs.lookup g
 | []=>by
  show Tc g [(f,v)]=_;by_cases h:g=f
  ·have q:=beq_iff_eq.mpr h;simp only[Tc,q,if_pos h]
  ·have q:=beq_eq_false_iff_ne.mpr h;simp only[Tc,q,if_neg h]
 | (k,x)::r=>by
  have K:=kX f g v r;rw[show dR f v ((k,x)::r) =(if k=f then(k,v)::r else(k,x)::dR f v r)from rfl]
  by_cases z:k=f
  ·rw[if_pos z];by_cases h:g=k
   ·have q:=beq_iff_eq.mpr h;simp only[Tc,q,if_pos (h.trans z)]
   ·have q:=beq_eq_false_iff_ne.mpr h;simp only[Tc,q,if_neg (λe:g=f=>h (e.trans z.symm))]
  ·rw[if_neg z];by_cases h:g=k
   ·have q:=beq_iff_eq.mpr h;simp only[Tc,q,if_neg (λe=>z (h.symm.trans e))]
   ·have q:=beq_eq_false_iff_ne.mpr h;simp only[Tc,q];exact K
theorem jh(f:Str)(v:V):∀ fs:List (Str×V),f∈(dR f v fs).map (·.1)/\∀ g,g∈fs.map (·.1)->g∈(dR f v fs).map (·.1)
 | []=>(by simp[dR],λg h=>by simp at h)
 | (k,x)::r=>by
  let(i1,i2):=jh f v r;rw[show dR f v ((k,x)::r) =(if k=f then(k,v)::r else(k,x)::dR f v r)from rfl]
  by_cases q:k=f
  ·rw[if_pos q];subst q;exact(by simp,λg h=>by simpa using h)
  ·rw[if_neg q];refine(?_,λg h=>?_)
   ·exact c5 _ i1
   ·rcases i8.mp h with e|e
    ·exact i8.mpr (.inl e)
    ·exact c5 _ (i2 g e)
theorem qH(f:Str)(v:V):∀ fs:List (Str×V),(dR f v fs).length<=fs.length+1
 | []=>by simp[dR]
 | (k,x)::r=>by
  have q:=qH f v r;rw[show dR f v ((k,x)::r) =(if k=f then(k,v)::r else(k,x)::dR f v r)from rfl]
  by_cases g:k=f
  ·rw[if_pos g,mu,mu];lia
  ·rw[if_neg g,mu,mu];lia
def ki.some_of{v:V}{o:Option B}(r:ki (Z v) o):∃ u,o=Z u/\RelV v u:=by
 cases o with
 | none=>exact(r).elim
 | some u=>exact(u,U,r)
def ki.none_of{o:Option B}(r:ki Y o):o=none:=by
 cases o with
 | none=>rfl
 | some u=>exact(r).elim
theorem Et{v:V}(r:RelV v u):W.handedIn u=true:=by
 cases v with
 | non=>cases(r);rfl
 | bl b=>cases(r);rfl
 | int i=>let(t,e):=(r);cases e;rfl
 | str x=>let(t,e):=(r);cases e;rfl
 | byt b=>let(t,e):=(r);cases e;rfl
 | flt b=>let(t,e):=(r);cases e;rfl
 | ref a=>cases(r);rfl
 | ty n=>cases(r);rfl
section
variable{w:World}{h:Heap}{dx:J}{fs:List (Str×V)}
def sj(hok:HOk P w H h)(e:H a=Z (.ins C dx fs)):∃ mA,BG h a dx C mA/\(∀ f,ki (fs.lookup f) (mA f))/\PySem.Within mA (fs.map (·.1))/\fs.length<=1000/\H dx=Z (.own a):=by
 let(d,z,ne,ob,mA,n,r,q):=(hok a _ e);exact(mA,(ob,n,ne),r,q,z,d)
end
structure Cls(K:W.Frag)(C:J):Prop where
 pg:W.plainGet K C Str.empty=O
 hd:W.hasDictIn K C=O
 po:W.plainOver K C=O
 sa:W.findIn K (.ref C) "__setattr__" = Z (Z (.builtin "object.__setattr__"))
theorem Cls.get{K:W.Frag}(c:Cls K C)(f:Str):W.plainGet K C f=true:=c.pg
def bJ(K:W.Frag)(C:J)(f:Str):Prop:=W.findIn K (.ref C) f=Z Y
theorem bJ.Pc{K:W.Frag}{f:Str}(n:bJ K C f):W.takerIn K C f=Z none:=by
 unfold W.takerIn;rw[n];rfl
structure Meth(K:W.Frag)(C:J)(m:Str)(f:J):Prop where
 at_:W.findIn K (.ref C) m=Z (Z (.ref f))
 fn:W.isFn K (.ref f)=O
 kp:W.keepIn K (.ref f)=O
variable{m:Str}{prog:Program}{env:Env}
section
variable{σ:St}{dx:J}{fs:List (Str×V)}{f:Str}{v:V}
def t8{b:Bool}(I:Inv X gd σ H s)(e:H a=Z (.ins C dx fs))(c:Cls X.K C)(n:bJ X.K C f)(l:fs.lookup f=Z v)
  (h:∀ u s',Inv X gd σ H s'->RelV v u->Q u s'):wpAny (model X.prog X.w) A (getAttr (.ref a) f b) Q E s:=by
 let(mA,Vk,r,_,_,_):=sj I.hok e;let(u,g,ru):=ki.some_of (by rw[<- l];exact r f)
 exact get_map I.kIn Vk (c.get f) c.hd n g (Et ru) (h u _ (I.tok _) ru)
def jN{g:J}{Q:B×List B->ϋ->Prop}(I:Inv X gd σ H s)(e:H a=Z (.ins C dx fs))(c:Cls X.K C)(k:Meth X.K C m g)(l:fs.lookup m=Y)
  (h:Q (.ref g,[.ref a]) s):wpAny (model X.prog X.w) A (getMethod (.ref a) m pl) Q E s:=by
 let(mA,Vk,r,_,_,_):=sj I.hok e;have hn:=ki.none_of (by rw[<- l];exact r m)
 exact HE I.kIn Vk (c.get m) k.at_ k.fn hn h
def sO{Q:Unit->ϋ->Prop}(I:Inv X gd σ H s)(e:H a=Z (.ins C dx fs))(c:Cls X.K C)(n:bJ X.K C f)(hl:fs.length<1000)(V:RelV y u)
  (h:∀ s',Inv X gd σ (upd H a (.ins C dx (dR f y fs))) s'->Q () s'):wpAny (model X.prog X.w) A (setAttr (.ref a) f u) Q E s:=by
 let(mA,Vk,r,wi,_,ho):=sj I.hok e;have hz:(fs.map (·.1)).length<=j5:=by rw[gV,Tx];lia
 refine Jt I.kIn Vk c.sa c.po n.Pc c.hd wi hz λh' P sb=>h _ ?_
 have hd:∃ o,h'.get? dx=Z o:=let(o,_,_,e',_):=P.ns;(o,e')
 refine I.write (x:=a) (e:=dx) (by rw[e];exact True.intro) (.inr ho) (λb q hb z=>(sb.2 b hb).trans z) hd (by rw[ao Vk.ne];exact ho,?_,Vk.ne,P.obj,_,P.ns,λg=>?_,λg hg=>?_)
 ·have:=qH f y fs;lia
 ·rw[kX];by_cases q:g=f
  ·rw[if_pos q,if_pos q];exact V
  ·rw[if_neg q,if_neg q];exact r g
 ·by_cases q:g=f
  ·rw[q];exact(jh f y fs).1
  ·refine(jh f y fs).2 g (wi g λz=>hg ?_)
   show(if g=f then Z u else mA g)=Y
   rw[if_neg q];exact z
theorem Inv.made(I:Inv X gd σ H s):Inv X gd σ (upd (upd H s.heap.objs.size (.own (s.heap.objs.size+1))) (s.heap.objs.size+1) (.ins C s.heap.objs.size []))
  { s with heap:=(s.heap.push W.emptyDict).push (W.instObj C s.heap.objs.size) }:=by
 have g:(s.heap.push W.emptyDict).get? s.heap.objs.size=Z W.emptyDict:=oF s.heap U;have P:=by
  have:=oF (s.heap.push W.emptyDict) (o:=W.instObj C s.heap.objs.size) U
  rwa [z8]at this
 have K:(s.heap.push W.emptyDict).Ns s.heap.objs.size (λ_=>Y):=(W.emptyDict,#[],_,g,U,(λe he=>absurd he (by simp)),λ_=>rfl)
 have Q:=I.laid (o:=.own (s.heap.objs.size+1)) (t':=s.toks) (λb u q=>fx _ q) (lx _) (_,g)
 refine Q.laid (λb u q=>fx _ q) (UI (z8 _ _)) ?_
 have ne:s.heap.objs.size≠s.heap.objs.size+1:=u4 (Tt _);refine(by rw[ao ne,aB],Fq _,ne,P,λ_=>Y,(Heap.Ns1.of_empty K).at λo q=>fx _ q,λ_=>True.intro,λy z=>absurd U z)
def Lg{w:World}{f:Str}{pos:Pos}(q:attributeBase e f env (eval e env)=eval e env)
  (h:wpAny (model prog w) A (eval e env) (λo g=>wpAny (model prog w) A (getAttr o f O) Q E g) E s):wpAny (model prog w) A (eval (.Attribute e f pos) env) Q E s :=
 Attribute_any_ h (by rw[arm_eval_Attribute,q])
end
def Mp(K:W.Frag)(ta:TE)(f:Str):TE:=λσ H Q=>ta σ H λx H1=>∃ a C dx fs v,x = .ref a/\H1 a=Z (.ins C dx fs)/\Cls K C/\bJ K C f/\fs.lookup f=Z v/\Q v H1
def Jw(K:W.Frag)(ta tv:TE)(f:Str):TS:=λD σ H=>tv σ H λy H1=>ta σ H1 λx H2=>∃ a C dx fs,x = .ref a/\H2 a=Z (.ins C dx fs)/\Cls K C/\bJ K C f/\fs.length<1000 /\
 D.nx σ (upd H2 a (.ins C dx (dR f y fs)))
def OX(X:Cx)(op:Operator)(rd:V->V->Hp->VK->Prop):Prop :=
 ∀(gd:List (J×Obj))(s:ϋ)(σ:St)(H:Hp)(x y:V)(u v:B)(Q:VK),Inv X gd σ H s->RelV x u->RelV y v->rd x y H Q->wpAny (model X.prog X.w) X.A (inplaceOp op u v) (EP X gd σ Q) X.xe s
def B4(K:W.Frag)(ta tv:TE)(rd:V->V->Hp->VK->Prop)(f:Str):TS:=λD σ H=>ta σ H λx H1=>∃ a C dx fs v,x = .ref a/\H1 a=Z (.ins C dx fs)/\Cls K C/\bJ K C f/\fs.lookup f=Z v /\
 tv σ H1 λy H2=>rd v y H2 λz P=>∃ q g,P a=Z (.ins C q g)/\g.length<1000/\D.nx σ (upd P a (.ins C q (dR f z g)))
section
variable{value:Expr}{f:Str}{pos Fd:Pos}{ta tv:TE}
def GW(he:PE X e ta)(P:attributeBase e f X.env (eval e X.env)=eval e X.env):PE X (.Attribute e f pos) (Mp X.K ta f):=by
 intro gd s σ H Q I h;refine Lg P (thn (he gd s σ H _ I h) λu s1 g=>?_)
 let(x,H1,I1,z,a,C,dx,fs,v,ex,V,c,n,l,q):=g;subst ex;obtain rfl:=z;exact t8 I1 V c n l λu' s2 I2 ru=>(v,H1,I2,ru,q)
def AV(ha:PE X o ta)(hv:PE X value tv)(hs:swapsWith value (Z (.Attribute o f pos')) pos.line X.env=pure ϊ):PS X (.Assign [.Attribute o f pos'] value pos) (Jw X.K ta tv f):=by
 intro gd s σ H D I h;refine plainObj_wpAny_Assign_Attribute (thn (hv gd s σ H _ I h) λu s1 (y,H1,I1,z,q)=>thn (ha gd s1 σ H1 _ I1 q) λov s2 g=>?_) hs
 let(x,H2,I2,P,a,C,dx,fs,ex,V,c,n,l,Q):=g;subst ex;obtain rfl:=P;exact sO I2 V c n l z λs3 I3=>(σ,_,I3,Q)
def DS{op:Operator}{rd:V->V->Hp->VK->Prop}(ha:PE X o ta)(hv:PE X value tv)(g:OX X op rd):PS X (.AugAssign (.Attribute o f Fd) op value pos) (B4 X.K ta tv rd f):=by
 intro gd s σ H D I h;refine wpAny_AugAssign_AttributeAny (thn (ha gd s σ H _ I h) λov s1 P=>?_)
 let(x,H1,I1,rx,a,C,dx,fs,v,ex,ea,c,n,l,q):=P;subst ex;obtain rfl:=rx;exact t8 I1 ea c n l λu s2 I2 ru=>thn (hv gd s2 σ H1 _ I2 q) λw3 s3 (y,H2,I3,ry,q3)=>thn (g gd s3 σ H2 v y u w3 _ I3 ru ry q3) λw4 s4 (z,H3,I4,rz,ai,ah,Q,l',q4)=>(sO I4 Q c n l' rz λs5 I5=>(σ,_,I5,q4))
inductive MC(x:V)(y:V)(H:Hp)(Q:VK):Prop
 | mk(i j:_)(h1:x = .int i)(h2:y = .int j)(h3:Q (.int (i+j)) H)
def Od:OX X .Add MC:=by
 rintro gd s σ H x y u v Q I z g ⟨i,j,rfl,rfl,q⟩
 let(t,U):=(z);let(t',U):=(g);exact PyProof.Rows.iadd_int (.int (i+j),H,I.tok _,(_,U),q)
end
section
variable{σ:St}{c:B}{b:Bool}
inductive lP(K:W.Frag)(H:Hp):V->B->Prop where
 | non:lP K H .non (.type "NoneType")
 | bl(x:Bool):lP K H (.bl x) (.type "bool")
 | int(i:Int):lP K H (.int i) (.type "int")
 | str(x:Str):lP K H (.str x) (.type "str")
 | flt(x:UInt64):lP K H (.flt x) (.type "float")
 | lst{a:J}{xs:List V}(e:H a=Z (.lst xs)):lP K H (.ref a) (.type "list")
 | frz{a:J}{o:Obj}{xs:List V}(e:H a=Z (.frz o (.lst xs))):lP K H (.ref a) (.type "list")
 | tup{a:J}{xs:List V}(e:H a=Z (.tup xs)):lP K H (.ref a) (.type "tuple")
 | dK{a:J}{kvs:List (Key×V)}(e:H a=Z (.dK kvs)):lP K H (.ref a) (.type "dict")
 | dT{a:J}{kvs:List (List Key×V)}(e:H a=Z (.dT kvs)):lP K H (.ref a) (.type "dict")
 | ins{a C dx:J}{fs:List (Str×V)}(e:H a=Z (.ins C dx fs))(cl:Cls K C)(ha:W.findIn K (.ref C) "__class__" = Z (Z (.builtin "object.__class__")))
   (hn:W.specialIn K (.builtin "object.__class__") "__get__" = Z (Z (.builtin "getset_descriptor.__get__"))) (htk:W.takesIn K (.builtin "object.__class__")=Z O)
   (hm:W.mroIn K C (.type "object")=Z O):lP K H (.ref a) (.ref C)
theorem Ei{x:V}{t:B}(I:Inv X gd σ H s)(g:RelV x u)(ty:lP X.K H x t)(e:W.kitOne X.K t c=Z b)(h:∀ tk,Q (.bool b) { s with toks:=tk }) :
  wpAny (model X.prog X.w) A (call (.builtin "isinstance") [u,c]) Q E s:=by
 cases ty with
 | non=>cases(g);exact W.kia_one W.kitx_none I.kIn True.intro e (λz=>nomatch z) h
 | bl y=>cases(g);exact W.kia_one W.kitx_bool I.kIn True.intro e (λz=>nomatch z) h
 | int i=>let(t,q):=(g);cases q;exact W.kia_one W.kitx_int I.kIn True.intro e (λz=>nomatch z) h
 | str y=>let(t,q):=(g);cases q;exact W.kia_one W.kitx_str I.kIn True.intro e (λz=>nomatch z) h
 | flt y=>let(t,q):=(g);cases q;exact W.kia_one W.kitx_float I.kIn True.intro e (λz=>nomatch z) h
 | @lst a xs P =>
  cases(g)
  let(_,_,n,_,h1):=(I.hok a _ P);exact W.kia_one W.kitx_list I.kIn (_,h1,U) e (λz=>nomatch z) h
 | @frz a ob xs P =>
  cases(g)
  let(_,_,_,n,_,h1):=(I.hok a _ P);exact W.kia_one W.kitx_list I.kIn (_,h1,U) e (λz=>nomatch z) h
 | @tup a xs P =>
  cases(g)
  let(_,_,_,p):=(I.hok a _ P);let(o,h1,h2,_):=p.1;exact W.kia_one W.kitx_tuple I.kIn (o,h1,h2) e (λz=>nomatch z) h
 | @dK a kvs P =>
  cases(g)
  let(_,_,vs,_,p):=(I.hok a _ P);let(o,es,ep,h1,h2,_):=p;exact W.kia_one W.kitx_dict I.kIn (o,h1,h2.1) e (λz=>nomatch z) h
 | @dT a kvs P =>
  cases(g)
  let(_,_,xs,_,o,es,ep,h1,h2,_):=(I.hok a _ P);exact W.kia_one W.kitx_dict I.kIn (o,h1,h2.1) e (λz=>nomatch z) h
 | @ins a C dx fs P cl ha hn htk hm =>
  cases(g)
  let(mA,Vk,_):=sj I.hok P;let(od,Vn,_):=Vk.look;exact W.kia_one (W.kitx_own (cl.get _) cl.hd ha hn htk hm) I.kIn Vn e (λz=>nomatch z) h
end
structure bM(k:Nat)(A:Around):Prop where
 hd:A.handled=Y
 dp:A.depth+3*k+5<recursionLimit
 un:A.units+16*k+200<cLine
def bM.mono{k:Nat}(r:bM k A)(h:j<=k):bM j A:=(r.hd,by have:=r.dp;lia,by have:=r.un;lia)
def bM.aP{k:Nat}(r:bM k A)(h:j<=k:=by first|decide|lia):bM j A:=r.mono h
theorem bM.deeper{k:Nat}{A:Around}(r:bM (k+1) A)(env:Env):bM k (A.deeper env) :=
 (r.hd,by have:=r.dp;show A.depth+1+3*k+5<_;lia,by have:=r.un;show A.units+3+16*k+200<_;lia)
def Bb:(A.under (.builtin "type.__call__" (.ref C::us,kw))).depth=A.depth+1:=by
 rfl
def Ba:(A.under (.builtin "type.__call__" (.ref C::us,kw))).units=A.units+1:=by
 rfl
def bM.make{k:Nat}(r:bM (k+1) A)(C:J)(us:List B)(kw:List (Str×B)):bM k (A.under (.builtin "type.__call__" (.ref C::us,kw))) :=
 (r.hd,by have:=r.dp;rw[Bb];lia,by have:=r.un;rw[Ba];lia)
theorem bM.depth{k:Nat}{A:Around}(r:bM k A):A.depth<recursionLimit:=by have:=r.dp;lia
theorem bM.units{k:Nat}{A:Around}(r:bM k A):A.units+64<cLine:=by have:=r.un;lia
def fY:TA:=λ_ H Q=>Q [] H
def cw(ta:TE)(tr:TA):TA:=λσ H Q=>ta σ H λx H1=>tr σ H1 λxs H2=>Q (x::xs) H2
section
variable{t:TA}{pos:Pos}
def eT:PA X [] fY:=λ_ _ _ _ H Q I h=>Calls.spliced_nil ([],H,I,.nil,h)
def bj(ha:PE X e te)(hr:PA X es t)(hs:iS (e::es) X.env =(ϊ,eval e X.env)::iS es X.env:=by rfl):PA X (e::es) (cw te t):=by
 intro pos gd s σ H Q I h;rw[hs];show wpAny _ _ (spliced ((ϊ,eval e X.env)::backTo pos (iS es X.env))) _ _ s;exact Calls.spliced_cons (thn (ha gd s σ H _ I h) λu s1 (x,H1,V,q,K)=>(thn (hr pos gd s1 σ H1 _ V K) λus s2 (xs,H2,P,g,z)=>(x::xs,H2,P,.cons q g,z)))
def Mh(t:TA):TE:=λσ H Q=>t σ H λxs H1=>xs.length<=j5/\∀ p,H1 p=Y->Q (.ref p) (upd H1 p (.tup xs))
def Mm(t:TA):TE:=λσ H Q=>t σ H λxs H1=>xs.length<=j5/\∀ p,H1 p=Y->Q (.ref p) (upd H1 p (.lst xs))
def GO{K}(h:PA X es t):PE X (.Tuple es K pos) (Mh t):=by
 intro gd s σ H Q I P;refine wpAny_Tuple_spliced (thn (h pos gd s σ H _ I P) λus s1 (xs,H1,g,r,z,q)=>(by rw[<- r.length];exact z,?_))
 have hf:=g.hok.fresh (lx _);refine(.ref s1.heap.objs.size,upd H1 s1.heap.objs.size (.tup xs),g.laid (λb u e=>fx _ e) (lx _) ?_,U,q _ hf)
 exact(z,us,r,((_,oF _ U,U,_,U),_,oF _ U,U))
def GQ(h:PA X es t):PE X (.List es pos) (Mm t):=by
 intro gd s σ H Q I K;refine wpAny_List_spliced (thn (h pos gd s σ H _ I K) λus s1 (xs,H1,g,r,z,q)=>(by rw[<- r.length];exact z,?_))
 have hf:=g.hok.fresh (lx _);refine(.ref s1.heap.objs.size,upd H1 s1.heap.objs.size (.lst xs),g.laid (λb u e=>fx _ e) (lx _) ?_,U,q _ hf)
 exact(z,us,0,r,oF _ U)
end
abbrev Sp:=List V->Hp->VK->XK->Prop
abbrev CXT:=List Env->Hp->ϋ->XK->B->ϋ->Prop
structure Aa(P:Program)(w:World)(K:W.Frag)(mg:Str->Option B)(base:Heap)(A:Around)(outer:List Env)(s:ϋ)(H:Hp):Prop where
 frames:A.frames=Z outer
 mod:Mod K mg base
 bs:∀ b o,base.get? b=Z o->s.heap.get? b=Z o/\H b=Y
 bsz:base.objs.size<=s.heap.objs.size
 nS:s.heap.FunFrames base outer
 frf:∀ b∈frs outer,H b=Y
 hok:HOk P w H s.heap
 bare:AllBare s.gens
def CE(outer:List Env)(P:Program)(w:World)(H:Hp)(s:ϋ)(Q:VK)(u:B)(s':ϋ):Prop :=
 ∃ v H',s'.os=s.os/\AllBare s'.gens/\Un (frs outer) [] H H' s.heap s'.heap/\HOk P w H' s'.heap/\RelV v u/\Q v H'
def CR(CX:CXT)(outer:List Env)(P:Program)(w:World)(H:Hp)(s:ϋ)(Q:VK)(E:XK)(r:Result)(s':ϋ):Prop :=
 match r with
 | .ok (.ret u)=>CE outer P w H s Q u s'
 | .ok _=>False
 | .error e=>CX outer H s E e s'
structure aR(P:Program)(w:World)(K:W.Frag)(mg:Str->Option B)(base:Heap)(CX:CXT)(k:Nat)(f:J)(fd:FuncData)(ps:List Str)(sp:Sp):Prop where
 len:∀ vs H Q E,sp vs H Q E->vs.length=ps.length
 run:∀(A:Around)(outer:List Env)(s:ϋ)(H:Hp)(args:Args)(us:List B)(vs:List V)(Q:VK)(E:XK),bM k A->Aa P w K mg base A outer s H->BindsTo s fd args (ps.zip us)->Vals vs us->sp vs H Q E ->
  codeAny (model P w) A (.call (.ref f) args) (CR CX outer P w H s Q E) s
variable{mg:Str->Option B}{base:Heap}{CX:CXT}{fd:FuncData}{ps:List Str}{sp:Sp}
theorem aR.imp{w:World}{K:W.Frag}{k:Nat}{f:J}{g:Sp}(F:aR P w K mg base CX k f fd ps sp)
  (h:∀ vs H Q E,g vs H Q E->sp vs H Q E):aR P w K mg base CX k f fd ps g :=
 (λvs H Q E q=>F.len vs H Q E (h _ _ _ _ q),λA outer s H args us vs Q E hr he z hv hs=>F.run A outer s H args us vs Q E hr he z hv (h _ _ _ _ hs))
variable{outer:List Env}
theorem Aa.make{w:World}{K:W.Frag}(e:Aa P w K mg base A outer s H)(C:J)(us:List B)(kw:List (Str×B)) :
  Aa P w K mg base (A.under (.builtin "type.__call__" (.ref C::us,kw))) outer s H:=(by exact e.frames,e.mod,e.bs,e.bsz,e.nS,e.frf,e.hok,e.bare)
section
variable{σ:St}
def Inv.HM(I:Inv X gd σ H s):Aa X.prog X.w X.K X.mg X.base X.A X.stack s H :=
 (I.ok.frames,I.ok.mod,I.bs,uj I.ok.bsz I.sz,I.stack,I.r8,I.hok,I.bare)
def Inv.after{Q:VK}(I:Inv X gd σ H s)(h:CE X.stack X.prog X.w H s Q u s'):EP X gd σ Q u s':=by
 let(v,H',os,bare,un,hok,r,q):=h;let(P,g,d,t,K):=s';obtain rfl:=os;exact(v,H',I.call un hok bare (λb z=>absurd z (by simp)),r,q)
end
def yg(sp:Sp)(dvs:List V)(E:XK)(t:TA):TE:=λσ H Q=>t σ H λvs H1=>sp (vs++dvs) H1 Q E
def qj(C:J)(m:Str)(sp:Sp)(dvs:List V)(E:XK)(ta:TE)(t:TA):TE:=λσ H Q=>ta σ H λx H1=>∃ a dx fs,x = .ref a/\H1 a=Z (.ins C dx fs)/\fs.lookup m=Y /\
 t σ H1 λvs H2=>sp (x ::(vs++dvs)) H2 Q E
def BW(C:J)(sp:Sp)(dvs:List V)(E:XK)(t:TA):TE:=λσ H Q=>t σ H λvs H1=>∀ x dx,H1 x=Y->H1 dx=Y->dx≠x ->
 sp (.ref x ::(vs++dvs)) (upd (upd H1 dx (.own x)) x (.ins C dx [])) (λv H2=>v = .non/\Q (.ref x) H2) E
def Binds(K:W.Frag)(fd:FuncData)(ps:List Str)(ds:List B):Prop :=
 ∀(s:ϋ)(us:List B),K.In s.heap ->(us++ds).length=ps.length->BindsTo s fd (us,[]) (ps.zip (us++ds))
theorem Binds.all{K:W.Frag}(h:∀ us:List B,us.length=ps.length->bindArgs fd (us,[])=pure (ps.zip us)):Binds K fd ps []:=λs us _ hl=>by
 rw[ko]at hl ⊢;exact .of_eq (h us hl)
def Passes(CX:CXT)(X:Cx)(E:XK):Prop:=∀(gd:List (J×Obj))(σ:St)(H:Hp)(s:ϋ)(e:B)(s':ϋ),Inv X gd σ H s->CX X.stack H s E e s'->X.xe e s'
section
variable{k:Nat}{f:J}{dvs:List V}{ds:List B}{E:XK}{pos apos:Pos}{ta:TE}{t:TA}
theorem AF{σ:St}{Q:VK}{vs:List V}(F:aR X.prog X.w X.K X.mg X.base CX k f fd ps sp)(hr:bM k X.A)(z:Binds X.K fd ps ds)(hd:Vals dvs ds)(hx:Passes CX X E)
  (I:Inv X gd σ H s) (r:Vals vs us) (h:sp (vs++dvs) H Q E):wpAny (model X.prog X.w) X.A (call (.ref f) us) (EP X gd σ Q) X.xe s:=by
 have q:=r.append hd;have hl:(us++ds).length=ps.length:=by rw[<- q.length];exact F.len _ _ _ _ h
 refine wpAny_call (codeAny_mono (F.run X.A X.stack s H (us,[]) (us++ds) (vs++dvs) Q E hr I.HM (z s us I.kIn hl) q h) λr s' g=>?_)
 cases r with
 | error e=>exact hx gd σ H s e s' I g
 | ok fl =>
  cases fl with
  | ret u=>exact I.after g
  | next=>exact False.elim g
  | brk=>exact False.elim g
  | cont=>exact False.elim g
theorem wI(F:aR X.prog X.w X.K X.mg X.base CX k f fd ps sp)(hr:bM k X.A)(hg:Gl X x)(hm:X.mg x=Z (.ref f))(V:W.keepIn X.K (.ref f)=O)(hb:Binds X.K fd ps ds)(hd:Vals dvs ds)(hx:Passes CX X E)
  (ha:PA X (e::es) t) (z:(x ==("__debug__":Str))=false:=by decide) (he:iS (e::es) X.env =(ϊ,eval e X.env)::iS es X.env:=by rfl) (g:(backTo pos (iS es X.env)).any (·.1)=false:=by rfl) :
  PE X (.Call (.Name x p) (e::es) [] pos) (yg sp dvs E t):=by
 intro gd s σ H Q I h;exact Ob (nQ I hg hm (W.callWith_K (h₀:=X.base) I.ok.mod.kin V (thn (ha pos gd s σ H _ I h) λus s1 (vs,H1,P,r,q)=>(P.kIn,(AF F hr hb hd hx P r q))) he g) z)
theorem J6{pl:Sem Bool}(he:PE X o ta)(c:Cls X.K C)(hm:Meth X.K C m f)(F:aR X.prog X.w X.K X.mg X.base CX k f fd ps sp)(hr:bM k X.A)(hb:Binds X.K fd ps ds)(hd:Vals dvs ds)(hx:Passes CX X E)(ha:PA X (e::es) t)
  (g:iS (e::es) X.env =(ϊ,eval e X.env)::iS es X.env:=by rfl) (z:(backTo pos (iS es X.env)).any (·.1)=false:=by rfl)
  (ht:eval (.Call (.Attribute o m apos) (e::es) [] pos) X.env =(do
   let V <- eval o X.env
   standAt apos.atName
   let(f,first) <- holding [V] (getMethod V m pl)
   callWith pos f first (backTo pos (iS (e::es) X.env)) (backToKw pos (keywordEach [] X.env))):=by rfl) :
  PE X (.Call (.Attribute o m apos) (e::es) [] pos) (qj C m sp dvs E ta t):=by
 intro gd s σ H Q I h;refine W.methodCall_KW (thn (he gd s σ H _ I h) λu s1 P=>?_) ht
 let(x,H1,I1,rx,a,dx,fs,ex,ea,l,q):=P;subst ex;obtain rfl:=rx;refine jN I1 ea c hm l ?_;refine W.callWith_K I.ok.mod.kin hm.kp (thn (ha pos gd s1 σ H1 _ I1 q) λus s2 (vs,H2,I2,r,q2)=>(I2.kIn,?_)) g z
 exact AF (vs:=.ref a::vs) F hr hb hd hx I2 (.cons U r) q2
theorem tu(he:PE X o ta)(c:Cls X.K C)(hm:Meth X.K C m f)(F:aR X.prog X.w X.K X.mg X.base CX k f fd ps sp)(hr:bM k X.A)(hb:Binds X.K fd ps ds)(hd:Vals dvs ds)(hx:Passes CX X E)
  (ht:eval (.Call (.Attribute o m apos) [] [] pos) X.env =(do
   let P <- eval o X.env
   standAt apos.atName
   let(f,first) <- holding [P] (getMethod P m pl)
   callWith pos f first (backTo pos (iS [] X.env)) (backToKw pos (keywordEach [] X.env))):=by rfl) :
  PE X (.Call (.Attribute o m apos) [] [] pos) (qj C m sp dvs E ta fY):=by
 intro gd s σ H Q I h;refine W.methodCall_KW (thn (he gd s σ H _ I h) λu s1 g=>?_) ht
 let(x,H1,z,V,a,dx,fs,ex,ea,l,q):=g;subst ex;obtain rfl:=V;refine jN z ea c hm l ?_;exact W.callWith_K0 z.kIn hm.kp (AF (vs:=[.ref a]) F hr hb hd hx z (.cons U .nil) q)
structure Mk(K:W.Frag)(C f:J):Prop where
 makes:W.makesIn K C=O
 init:W.findIn K (.ref C) "__init__" = Z (Z (.ref f))
 fn:W.isFn K (.ref f)=O
 kp:W.keepIn K (.ref C)=O
theorem FT{σ:St}{Q:VK}{vs:List V}(M:Mk X.K C f)(F:aR X.prog X.w X.K X.mg X.base CX k f fd ps sp)(hr:bM (k+1) X.A)(hb:Binds X.K fd ps ds)(hd:Vals dvs ds)
  (hx:Passes CX X E) (I:Inv X gd σ H s) (r:Vals vs us)
  (h:∀ x dx,H x=Y->H dx=Y->dx≠x->sp (.ref x ::(vs++dvs)) (upd (upd H dx (.own x)) x (.ins C dx [])) (λv H2=>v = .non/\Q (.ref x) H2) E) :
  wpAny (model X.prog X.w) X.A (call (.ref C) us) (EP X gd σ Q) X.xe s:=by
 have P:=h (s.heap.objs.size+1) s.heap.objs.size (I.hok.fresh (Vh _)) (I.hok.fresh (lx _)) (u4 (Tt _));have q:=Inv.made (C:=C) I;have z:Vals (V.ref (s.heap.objs.size+1) ::(vs++dvs)) (B.ref (s.heap.objs.size+1) ::(us++ds)):=.cons U (r.append hd);have hl:=by
  have e:=z.length;rw[F.len _ _ _ _ P]at e;exact e.symm
 refine wpAny_call (He I.kIn M.makes M.init (beq_iff_eq.mp M.fn) (codeAny_mono (F.run _ X.stack _ _ (B.ref (s.heap.objs.size+1)::us,[]) (B.ref (s.heap.objs.size+1) ::(us++ds)) _ _ E (hr.make C us [])
  (q.HM.make C us []) (hb _ (B.ref (s.heap.objs.size+1)::us) q.kIn hl) z P) λr s' g=>?_))
 cases r with
 | error e=>exact hx gd σ _ _ e s' q g
 | ok fl =>
  cases fl with
  | ret u =>
   let(v,H',I3,rv,ev,q3):=q.after g;subst ev;exact(rv,(V.ref (s.heap.objs.size+1),H',I3,U,q3))
  | next=>exact False.elim g
  | brk=>exact False.elim g
  | cont=>exact False.elim g
theorem Ci(M:Mk X.K C f)(F:aR X.prog X.w X.K X.mg X.base CX k f fd ps sp)(hr:bM (k+1) X.A)(hg:Gl X x)(hm:X.mg x=Z (.ref C))(V:Binds X.K fd ps ds)(hd:Vals dvs ds)(hx:Passes CX X E)
  (ha:PA X (e::es) t) (z:(x ==("__debug__":Str))=false:=by decide) (he:iS (e::es) X.env =(ϊ,eval e X.env)::iS es X.env:=by rfl) (g:(backTo pos (iS es X.env)).any (·.1)=false:=by rfl) :
  PE X (.Call (.Name x p) (e::es) [] pos) (BW C sp dvs E t):=by
 intro gd s σ H Q I h;exact Ob (nQ I hg hm (W.callWith_K (h₀:=X.base) I.ok.mod.kin M.kp (thn (ha pos gd s σ H _ I h) λus s1 (vs,H1,P,r,q)=>(P.kIn,(FT M F hr V hd hx P r q))) he g) z)
end
structure aE(N P:List Str)(sc:Scope):Prop where
 kind:sc.kind = .function
 co:sc.isCoroutine=ϊ
 gen:sc.isGenerator=ϊ
 nd:N.Nodup
 pre:N.take P.length=P
 par:∀ x∈P,sc.names.lookup x=Z .local\/sc.names.lookup x=Z .cell
 NC:∀ y∈sc.names,y.2 ≠ .free
theorem vK{kindOf:Str->Option NameKind}{x:Str}:∀{binds:List (Str×B)}{m:Str->Option B},(∀ v,(x,v) ∉ binds)->bindL kindOf binds m x=m x
 | [],_,_=>rfl
 | (n,v)::r,m,h=>by
  unfold bindL;rw[vK λw hw=>h w (c5 _ hw)]
  split
  ·have:x≠n:=by rintro rfl;exact h v dZ
   simp[this]
  ·rfl
theorem vM{kindOf:Str->Option NameKind}{x:Str}:∀{binds:List (Str×B)}{m:Str->Option B},(∀ v,(x,v) ∉ binds)->bindC kindOf binds m x=m x
 | [],_,_=>rfl
 | (n,v)::r,m,h=>by
  unfold bindC;rw[vM λw hw=>h w (c5 _ hw)]
  split
  ·rfl
  ·have:x≠n:=by rintro rfl;exact h v dZ
   simp[this]
theorem vL{kindOf:Str->Option NameKind}{x:Str}{v:B}:∀{P:List Str}{vs:List B}{i:Nat}{m:Str->Option B},P.Nodup->P[i]? = Z x->vs[i]? = Z v->kindOf x=Z .local ->
  bindL kindOf (P.zip vs) m x=Z v
 | [],_,_,_,_,h,_,_=>by simp at h
 | _::_,[],_,_,_,_,h,_=>by simp at h
 | p::P,w::vs,0,m,nd,h1,h2,g=>by
  simp at h1 h2;subst h1;subst h2;show bindL kindOf ((p,w)::P.zip vs) m p=_;unfold bindL;rw[vK λv hv=>(rX.mp nd).1 (UL hv).1,if_pos g]
  simp
 | p::P,w::vs,i+1,m,nd,h1,h2,g=>by
  unfold bindL;exact vL (rX.mp nd).2 (by simpa using h1) (by simpa using h2) g
theorem vN{kindOf:Str->Option NameKind}{x:Str}{v:B}:∀{P:List Str}{vs:List B}{i:Nat}{m:Str->Option B},P.Nodup->P[i]? = Z x->vs[i]? = Z v->kindOf x≠Z .local ->
  bindC kindOf (P.zip vs) m x=Z v
 | [],_,_,_,_,h,_,_=>by simp at h
 | _::_,[],_,_,_,_,h,_=>by simp at h
 | p::P,w::vs,0,m,nd,h1,h2,g=>by
  simp at h1 h2;subst h1;subst h2;show bindC kindOf ((p,w)::P.zip vs) m p=_;unfold bindC;rw[vM λv hv=>(rX.mp nd).1 (UL hv).1,if_neg g]
  simp
 | p::P,w::vs,i+1,m,nd,h1,h2,g=>by
  unfold bindC;exact vN (rX.mp nd).2 (by simpa using h1) (by simpa using h2) g
def start(N:List Str)(vs:List V):St:=vs.map Z++uA (N.length - vs.length) Y
def mK(CX:CXT)(P:Program)(w:World)(K:W.Frag)(mg:Str->Option B)(base:Heap)(N:List Str)(qual:Str)(scope:Scope)(f:J)(cd:B)(A:Around)(outer:List Env)(s:ϋ)(H:Hp)(E:XK):Cx where
 prog:=P
 w:=w
 K:=K
 mg:=mg
 base:=base
 A:=A.deeper (envOfC qual scope s.heap.objs.size f cd)
 N:=N
 s₀:=s
 H₀:=H
 env:=envOfC qual scope s.heap.objs.size f cd
 outer:=outer
 stack:=envOfC qual scope s.heap.objs.size f cd::outer
 ex:=[]
 calm:=O
 fn:=λ_=>O
 pn:=[]
 xe:=λe s'=>wpAny (model P w) (A.deeper (envOfC qual scope s.heap.objs.size f cd)) (leaving (envOfC qual scope s.heap.objs.size f cd) e) (λ_ g=>CX outer H s E e g) (λq g=>CX outer H s E q g) s'
variable{sc:Scope}
theorem zQ(h:sc.names.lookup x=Z .cell):∃ c,(cellsFrom n sc.names []).lookup x=Z c:=by
 have q:=W.cellsFrom_some sc.names n [] (.inl h);exact Option.isSome_iff_exists.mp q
variable{qual:Str}{scope:Scope}
theorem Ek{w:World}{K:W.Frag}{f:J}{cd:B}{s1:ϋ}{E:XK}{vs:List V}
  (S:aE N ps scope) (hd:A.handled=Y) (g:Aa P w K mg base A outer s H) (hl:vs.length=ps.length) (r:Vals vs us)
  (x:InCallC s s.heap.objs.size (bindL (envOfC qual scope s.heap.objs.size f cd).kindOf (ps.zip us) λ_=>Y) (cellsFrom (s.heap.objs.size+1) scope.names []) (bindC (envOfC qual scope s.heap.objs.size f cd).kindOf (ps.zip us) λ_=>Y) s1) :
  Inv (mK CX P w K mg base N qual scope f cd A outer s H E) [] (start N vs) H s1:=by
 have ai:ps.length<=N.length:=by have:=congrArg Ua S.pre;rw[BJ]at this;lia
 let(h1,tk,U,hk):=x.done;have Q:∀ b,b ∉ (mK CX P w K mg base N qual scope f cd A outer s H E).ex:=λb z=>absurd (show b∈([])from z) (by simp)
 refine((g.mod,S.kind,U,U,lx _,λy z c h1 h2=>?_,λy hy=>?_,λy c _ h=>?_,λ_=>hd,Around.frames_deeper g.frames,.inr (U,U),λb z=>absurd z (Q b),g.bs,g.bsz,λb _ _=>Q b,λb z=>absurd z (Q b),g.nS,g.frf),
  rfl,g.bare,Un.kept hk,(_,x.toInCall.ns,λi y v h1 h2 h3=>?_),λy c h=>(_,x.cell y c h),g.hok.fresh (lx _),λy c h=>?_,λp hp=>absurd (show p∈([])from hp) (by simp),g.hok.kept hk,?_)
 ·exact name_of_addr x.apart (PySem.mem_of_lookup h1) (PySem.mem_of_lookup h2)
 ·rcases hy with hy|hy
  ·exact zQ hy
  ·exact absurd U (S.NC _ (PySem.mem_of_lookup hy))
 ·exact rV (x.above y c (PySem.mem_of_lookup h))
 ·have hi:i<vs.length:=by
   unfold start at h2;by_cases hi:i<vs.length
   ·exact hi
   ·rw[BK (by simpa using hi)]at h2
    rw[Tv]at h2
    split at h2 <;> cases h2
  have ha:vs[i]? = Z v:=by
   unfold start at h2;rw[z9 (by simpa using hi),qx]at h2
   cases e:vs[i]? with
   | none=>rw[e]at h2;cases h2
   | some a=>rw[e]at h2;cases h2;rfl
  let(u,hu,rv):=r.get ha;have hp:ps[i]? = Z y:=by
   rw[<- S.pre,List.getElem?_take_of_lt (by lia)];exact h1
  have ah:ps.Nodup:=by rw[<- S.pre];exact S.nd.sublist (List.take_sublist _ _)
  refine(u,rv,?_);rcases S.par y (u3 hp)with k|k
  ·exact .inl (k,vL ah hp hu k)
  ·let(c,e):=zQ k;refine .inr (.inl k,c,e,?_);have q:=x.cell y c e;rw[vN ah hp hu (by show scope.names.lookup y≠_;rw[k];decide)]at q
   exact q
 ·exact g.hok.fresh (rV (x.above y c (PySem.mem_of_lookup h)))
 ·unfold start;show _=N.length;rw[px,gV,UN]
  lia
variable{name:Str}{pm:B}{ct:B}{oc:B}{an:Option J}{od:Option J}
theorem LS{w:World}{K:W.Frag}{k:Nat}{f:J}{params:Arguments}{dV kV doc cdv:B}
  {osl:Array (Option B)} {N ps:List Str} {sp:Sp} (lk:K.lookup f=Z (oc,od,.func (W.fnOf name qual params body scope dV kV doc pm an cdv ct),osl)) (ah:W.codeIn K cdv qual=O) (S:aE N ps scope)
  (len:∀ vs H Q E,sp vs H Q E->vs.length=ps.length)
  (iz:∀(A:Around)(outer:List Env)(s:ϋ)(H:Hp)(vs:List V)(Q:VK)(E:XK),bM k (A.deeper (envOfC qual scope s.heap.objs.size f cdv))->sp vs H Q E ->
   ∃ t,PSs (mK CX P w K mg base N qual scope f cdv A outer s H E) body t/\t { nx:=λ_ H'=>Q .non H',rt:=Q } (start N vs) H) :
  aR P w K mg base CX (k+1) f (W.fnOf name qual params body scope dV kV doc pm an cdv ct) ps sp:=by
 refine(len,λA outer s H args us vs Q E hr e0 hb r z=>?_)
 have hl:=len _ _ _ _ z;have KX:=e0.mod.kin.keeps λb o e=>(e0.bs b o e).1
 have lim:=e0.mod.nolimit.keeps λb o e=>(e0.bs b o e).1
 have jj:∀ y∈ps.zip us,scope.names.lookup y.1=Z .local\/(scope.names.lookup y.1=Z .cell/\((cellsFrom (s.heap.objs.size+1) scope.names []).lookup y.1).isSome=O):=λ(n,v) hy=>by
  rcases S.par n (UL hy).1 with q|q
  ·exact .inl q
  ·exact .inr (q,W.cellsFrom_some _ _ _ (.inl q))
 refine codeAny_call_function hr.depth (KX _ _ lk) U S.co S.gen U (W.codeRec_of KX ah) (hb _ _ _ _ (wpAny_newFunctionEnv_cells S.kind jj λenv he s1 x=>?_))
 subst he;refine(lim.keeps x.toInCall.keep,codeAny_func ?_);let(t,ht,hq):=iz A outer s H vs Q E (hr.deeper _) z;have I:Inv (mK CX P w K mg base N qual scope f cdv A outer s H E) [] (start N vs) H s1:=Ek S hr.hd e0 hl r x;refine OZ (ht [] s1 (start N vs) H _ I hq) (λfl s' hs=>?_) λe s' hs=>hs
 have fin:∀{g:St}{H':Hp}{v:V}{u:B},Inv (mK CX P w K mg base N qual scope f cdv A outer s H E) [] g H' s'->RelV v u->Q v H'->CE outer P w H s Q u s' :=
  λ{g H' v u} Vn rv q=>(v,H',Vn.os,Vn.bare,Vn.base,Vn.hok,rv,q)
 cases fl with
 | ret u =>
  let(v,g,H',Vn,rv,q):=hs;exact fin Vn rv q
 | next =>
  let(g,H',Vn,q):=hs;exact fin (v:=V.non) Vn U q
 | brk =>
  let(_,_,_,q):=hs;exact False.elim q
 | cont =>
  let(_,_,_,q):=hs;exact False.elim q
section
variable{pos:Pos}{t:TA}{id T:String}{r:List V->Hp->VK->Prop}
def tCB(r:List V->Hp->VK->Prop)(t:TA):TE:=λσ H Q=>t σ H λvs H1=>r vs H1 Q
theorem tE(P:dN X (.builtin id) r)(hg:Gl X x)(hm:X.mg x=Y)(hv:bootBuiltins x=Z (.builtin id))(ha:PA X (e::es) t)(hn:x ≠ "__name__":=by decide)(q:(x ==("__debug__":Str))=false:=by decide)
  (he:iS (e::es) X.env =(ϊ,eval e X.env)::iS es X.env:=by rfl) (g:(backTo pos (iS es X.env)).any (·.1)=false:=by rfl):PE X (.Call (.Name x p) (e::es) [] pos) (tCB r t):=by
 intro gd s σ H Q I h;exact Ob (i6 I hg hm hv (PyProof.Rows.callWith_builtin1 (thn (ha pos gd s σ H _ I h) λus s1 (vs,H1,V,z,K)=>P gd s1 σ H1 vs us Q V z K) he g) hn q)
def D3(P:dN X (.type T) r)(hg:Gl X x)(hm:X.mg x=Y)(hv:bootBuiltins x=Z (.type T))(ha:PA X (e::es) t)(hn:x ≠ "__name__":=by decide)(q:(x ==("__debug__":Str))=false:=by decide)
  (he:iS (e::es) X.env =(ϊ,eval e X.env)::iS es X.env:=by rfl) (g:(backTo pos (iS es X.env)).any (·.1)=false:=by rfl):PE X (.Call (.Name x p) (e::es) [] pos) (tCB r t):=by
 intro gd s σ H Q I h;exact Ob (i6 I hg hm hv (PyProof.Rows.callWith_type1 (thn (ha pos gd s σ H _ I h) λus s1 (vs,H1,V,z,K)=>P gd s1 σ H1 vs us Q V z K) he g) hn q)
end
end L2
namespace HT
open PySem PyProof.Rows
section
variable{prog:Program}{w:World}{A:Around}{E:B->ϋ->Prop}{s:ϋ}
def Le{t b:J}{vs ws:List B}{Q:B->ϋ->Prop}(ht:IsTup s.heap t vs.toArray)(hb:IsTup s.heap b ws.toArray)(hv:vs ≠ [])
  (h1:ws = []->Q (.ref t) s) (h2:ws ≠ []->Q (.ref s.heap.objs.size) { s with heap:=s.heap.push { cls:=.type "tuple",data:=.seq (vs++ws).toArray } })
  (hsz:vs.length+ws.length<=j5):wpAny (model prog w) A (binaryOp .Add (.ref t) (.ref b)) Q E s:=by
 let((cls,dd,data,sl),ho,V,n,hd):=id ht;let((S1,K,data2,q),g,z,P,hd2):=id hb;simp only at V hd z hd2;subst V hd z hd2;have e:vs.toArray++ws.toArray =(vs++ws).toArray:=by simp
 by_cases hw:ws = []
 ·exact concat_meets (_,ho,U) (_,g,U) noFill_tuple_add seq_tuple_add PySem.F.slot_tuple_add PySem.F.entry_tuple_add (PySem.F.args_tuple_add_2 _ _)
   (tuple_addW1 t b vs.toArray ws.toArray n P dd K sl q (by simpa using hv) (by simp[hw])) (ho,g,h1 hw)
 ·refine concat_meets (_,ho,U) (_,g,U) noFill_tuple_add seq_tuple_add PySem.F.slot_tuple_add PySem.F.entry_tuple_add (PySem.F.args_tuple_add_2 _ _)
   (tuple_addW2 t b vs.toArray ws.toArray n P dd K sl q (by simpa using hv) (by simpa using hw) (by exact hsz)) (ho,g,?_)
  rw[e];exact h2 hw
def sIx(n d:Nat):Option Int->Nat
 | none=>d
 | some v=>if v<0 then(v+(n:Int)).toNat else min v.toNat n
def Rq(a:Int)(n:Nat)(h0:0<=a):min a (n:Int) =((min a.toNat n:Nat):Int):=by
 by_cases h:a<=n
 ·rw[Int.min_eq_left h,Nat.min_eq_left (Int.toNat_le.mpr h),TV h0]
 ·have h':=Int.le_of_lt (Int.not_le.mp h);rw[Int.min_eq_right h',Nat.min_eq_right ((Int.le_toNat h0).mpr h')]
def FA(n:Nat)(i:Int)(h:i<0):max 0 (min (i+(n:Int)) n) =((i+n).toNat:Int):=by
 rw[Int.min_eq_left (Int.add_le_of_le_sub_right (by rw[Int.sub_self];exact Int.le_of_lt h)),Int.max_comm,Int.ofNat_toNat]
def Fz(n:Nat)(i:Int)(h:¬ i<0):max 0 (min i (n:Int)) =((min i.toNat n:Nat):Int):=by
 rw[Rq i n (Int.not_lt.mp h),Int.max_eq_right (T7 _)]
def CU(v:Int)(n d:Nat):(if v<0 then max (v+(n:Int)) 0 else min v (n:Int)) =((sIx n d (Z v):Nat):Int):=by
 show(if v<0 then max (v+(n)) 0 else min v (n)) =(((if v<0 then(v+(n)).toNat else min v.toNat n)))
 by_cases hv:v<0
 ·rw[if_pos hv,if_pos hv];exact(Int.ofNat_toNat _).symm
 ·rw[if_neg hv,if_neg hv];exact Rq v n (Int.not_lt.mp hv)
def Bz(lo hi:Option Int)(n:Nat):Builtin.Slice.sliceAdjust lo hi 1 (n:Int) =(((sIx n 0 lo:Nat):Int),((sIx n n hi:Nat):Int)):=by
 have h1:=by omega
 unfold Builtin.Slice.sliceAdjust;refine Prod.ext ?_ ?_
 ·cases lo with
  | none=>rfl
  | some v=>exact CU v n 0
 ·cases hi with
  | none=>rfl
  | some v=>exact CU v n n
def AW(i j:Nat):Builtin.Slice.slicePlaces (i:Int) (j:Int) 1=j - i:=by
 unfold Builtin.Slice.slicePlaces;have h1:(1:Int) > 0:=by lia
 simp only[h1,if_true,Int.ediv_one]
 split <;> lia
def sM{v:B}{o:Option Int}{Q:Option Int->ϋ->Prop}(p:IsPart v o)(h:Q o s):wpAny (model prog w) A (Builtin.Slice.slicePartIndex v) Q E s:=by
 cases p with
 | none=>exact slicePart_none h
 | int i t=>exact slicePart_int h
def jb{sl:J}{K z:B}{lo hi:Option Int}{n:Nat}{Q:Int×Int×Nat->ϋ->Prop}(hs:s.heap.IsSliceOf sl K z .none)(pl:IsPart K lo)(pu:IsPart z hi)
  (h:Q (((sIx n 0 lo:Nat):Int),1,sIx n n hi - sIx n 0 lo) s):wpAny (model prog w) A (Builtin.Slice.sliceApplied (.ref sl) (pure (n:Int))) Q E s:=by
 let(os,g,P,q):=id hs;refine cO (cO (wpAny_field g q (x:=K) U (cO (wpAny_field g q (x:=z) U (cO (wpAny_field g q U (ot ?_)))))));refine cO (slicePart_none ?_);refine cO (sM pl (cO (sM pu (cO (ot ?_)))));show wpAny _ _ (match Builtin.Slice.sliceAdjust lo hi 1 (n)with |(lo,hi)=>pure (Prod.mk lo (Prod.mk (1:Int) (Builtin.Slice.slicePlaces lo hi 1)))) _ _ s
 rw[Bz lo hi n];show wpAny _ _ (pure (Prod.mk ((sIx n 0 lo):Int) (Prod.mk (1) (Builtin.Slice.slicePlaces ((sIx n 0 lo)) ((sIx n n hi)) 1)))) _ _ s;rw[AW];exact ot h
def GL(xs:Array B)(i k:Nat):((Tp k).filterMap λ(m:Nat)=>xs[((i:Int)+(m:Int)*1).toNat]?).toArray =((xs.toList.drop i).take k).toArray:=by
 have e:(λ(m:Nat)=>xs[((i)+(m:Int)*1).toNat]?)=λm=>xs[i+m]?:=by
  funext m
  have:((i)+(m:Int)*1).toNat=i+m:=by lia
  rw[this]
 rw[e]
 have:=pick_run xs i k
 rw[List.filterMap_map]at this;have g:((λx=>xs[x]?) ∘ λx=>i+x)=λm=>xs[i+m]?:=rfl
 rw[g]at this;rw[this]
def nR{t sl:J}{items:Array B}{vl vu:B}{lo hi:Option Int}{Q:B->ϋ->Prop}(g:IsTup s.heap t items)(hs:s.heap.IsSliceOf sl vl vu .none)(pl:IsPart vl lo)(pu:IsPart vu hi)
  (hw:¬(sIx items.size 0 lo=0/\sIx items.size items.size hi=items.size))
  (h:Q (.ref s.heap.objs.size) { s with heap:=s.heap.push { cls:=.type "tuple",data:=.seq ((items.toList.drop (sIx items.size 0 lo)).take (sIx items.size items.size hi - sIx items.size 0 lo)).toArray } })
  (hsz:items.size<=j5):wpAny (model prog w) A (getItem (.ref t) (.ref sl)) Q E s:=by
 have QU:sizeOk (.seq ((items.toList.drop (sIx items.size 0 lo)).take (sIx items.size items.size hi - sIx items.size 0 lo)).toArray):=by
  show((items.toList.drop (sIx items.size 0 lo)).take (sIx items.size items.size hi - sIx items.size 0 lo)).toArray.size<=j5;rw[qi,BJ,TQ,Ts];exact uj (uj (UC _ _) (UJ _ _)) hsz
 let(os,z,P,ah):=id hs;have V:s.TypeIs (.ref sl) "slice":=(os,z,P);unfold getItem
 try with_reducible refine O0 ?_
 refine cO (wpAny_sequenceKey g.typeIs (by decide) ?_)
 refine cO (wpAny_callSpecial?_slot g.typeIs PyProof.Rows.slot_tuple_getitem
  (C5 PyProof.Rows.slot_tuple_getitem g.typeIs entry_tuple_getitem ?_ (args_tuple_getitem _ _)))
 show wpAny _ _ (Builtin.Tuple.tupleItemsOf (.ref t) >>= _) _ _ s;refine cO (tupleItemsOf_ g (cO (TU V ?_)));refine cO (jb hs pl pu ?_);have K:¬((((sIx items.size 0 lo):Int)==0&&(1:Int)==1&&(sIx items.size items.size hi - sIx items.size 0 lo)==items.size)=O):=by
  intro q;rw[qp,qp]at q;have q1:=eq_of_beq q.1.1;have q2:=eq_of_beq q.2;exact hw (by lia,by lia)
 show wpAny _ _ (if(((sIx items.size 0 lo):Int)==0&&(1)==1&&(sIx items.size items.size hi - sIx items.size 0 lo)==items.size)=O then _ else _) _ _ s
 rw[if_neg K,GL];exact cO (m:=Builtin.Tuple.tupleExact _) (TH (ot (_,U,ot h)) QU)
end
end HT
namespace L2
open PySem PySem.Spec PyProof.Rows
abbrev TO:=St->Hp ->(Option Int->Hp->Prop)->Prop
def PO(X:Cx)(e:Option Expr)(t:TO):Prop :=
 ∀(gd:List (J×Obj))(s:ϋ)(σ:St)(H:Hp)(Q:Option Int->Hp->Prop),Inv X gd σ H s->t σ H Q ->
  wpAny (model X.prog X.w) X.A (evalPart e X.env) (λu s'=>∃ o H',Inv X gd σ H' s'/\IsPart u o/\Q o H') X.xe s
def BV:TO:=λ_ H Q=>Q Y H
def Lu(t:TE):TO:=λσ H Q=>t σ H λx H1=>∃ i,x = .int i/\Q (Z i) H1
variable{us:List B}
section
variable{X:Cx}{e:Expr}{te:TE}{lo hi:Option Expr}{tl th:TO}{pos p2:Pos}
def J4:PO X Y BV:=by
 intro gd s σ H Q I h;exact ot (Y,H,I,.none,h)
def wB(h:PE X e te):PO X (Z e) (Lu te):=by
 intro gd s σ H Q I hw;refine thn (h gd s σ H _ I hw) λu s1 g=>?_
 let(x,H1,P,z,K):=g;let(i,U,q):=K;let(t,U):=z;exact(Z i,H1,P,.int i t,q)
def SlR(X:Cx)(r:V->Option Int->Option Int->Hp->VK->Prop):Prop :=
 ∀(gd:List (J×Obj))(s:ϋ)(σ:St)(H:Hp)(x:V)(v q g:B)(lo hi:Option Int)(sl:J)(Q:VK),Inv X gd σ H s->RelV x v->s.heap.IsSliceOf sl q g .none->IsPart q lo->IsPart g hi->r x lo hi H Q ->
  ∃ T id,typeLookup (.type T) "__getitem__" = pure (Z (.builtin id))/\s.TypeIs v T/\wpAny (model X.prog X.w) X.A (getItem v (.ref sl)) (EP X gd σ Q) X.xe s
def SlR.or{r r':V->Option Int->Option Int->Hp->VK->Prop}(h:SlR X r)(h':SlR X r'):SlR X (λx lo hi H Q=>r x lo hi H Q\/r' x lo hi H Q):=by
 intro gd s σ H x v z g lo hi sl Q I K hs pl pu q;rcases q with q|q
 ·exact h gd s σ H x v z g lo hi sl Q I K hs pl pu q
 ·exact h' gd s σ H x v z g lo hi sl Q I K hs pl pu q
def tSl(r:V->Option Int->Option Int->Hp->VK->Prop)(te:TE)(tl th:TO):TE:=λσ H Q=>te σ H λx H1=>tl σ H1 λl H2=>th σ H2 λu g=>r x l u g Q
def yI{r:V->Option Int->Option Int->Hp->VK->Prop}(hr:SlR X r)(he:PE X e te)(hl:PO X lo tl)(hu:PO X hi th):PE X (.Subscript e (.Slice lo hi Y p2) pos) (tSl r te tl th):=by
 intro gd s σ H Q I h;refine Subscript_ (thn (he gd s σ H _ I h) λv s1 (x,H1,I1,r1,q1)=>(wpAny_Slice (thn (hl gd s1 σ H1 _ I1 q1) λz s2 (l,H2,I2,pl,q2)=>thn (hu gd s2 σ H2 _ I2 q2) λg s3 K=>?_)))
 let(u,P,I3,pu,q3):=K;refine ot ?_;have I4:Inv X gd σ P { s3 with heap:=s3.heap.push { cls:=.type "slice",data:=.fields #[z,g,.none] } }:=I3.kept λb ob q=>fx _ q
 let(T,id,hT,ht,hg):=hr gd { s3 with heap:=s3.heap.push { cls:=.type "slice",data:=.fields #[z,g,.none] } } σ P x v z g l u s3.heap.objs.size Q I4 r1 (Heap.IsSliceOf.new ..) pl pu q3
 exact tail_any ht hT hg (by with_unfolding_all rfl)
def oh(xs:List V)(lo hi:Option Int):List V:=(xs.drop (HT.sIx xs.length 0 lo)).take (HT.sIx xs.length xs.length hi - HT.sIx xs.length 0 lo)
def qS(xs:List V)(lo hi:Option Int):(oh xs lo hi).length<=xs.length:=by
 unfold oh;rw[BJ,TQ];exact uj (UC _ _) (UJ _ _)
inductive R4(K:W.Frag)(x:V)(lo:Option Int)(hi:Option Int)(H:Hp)(Q:VK):Prop
 | mk(a xs:_)(h1:x = .ref a)(h2:SqT K H a xs)(h3:¬(HT.sIx xs.length 0 lo=0/\HT.sIx xs.length xs.length hi=xs.length))(h4:∀ p,H p=Y->Q (.ref p) (upd H p (.tup (oh xs lo hi))))
def Mt:SlR X (R4 X.K):=by
 intro gd s σ H x v vl V lo hi sl Q I P hs pl pu h;let(a,xs,U,hx,hw,q):=h;cases P;let(its,r,z,g):=I.tuple hx;have hlen:its.toArray.size=xs.length:=by exact r.length.symm
 refine("tuple",_,PyProof.Rows.slot_tuple_getitem.lookup,z.typeIs,(HT.nR z hs pl pu (by rw[hlen];exact hw) ?_ (by rw[hlen];exact g)))
 rw[hlen];refine(.ref s.heap.objs.size,_,I.laid (λb ob q=>fx _ q) (lx _) ?_,U,q _ (I.hok.fresh (lx _)))
 exact(uj (qS xs lo hi) g,_,(r.drop (HT.sIx xs.length 0 lo)).take (HT.sIx xs.length xs.length hi - HT.sIx xs.length 0 lo),qf.new _ _)
inductive Pw(K:W.Frag)(x:V)(y:V)(H:Hp)(Q:VK):Prop
 | mk(a b xs ys:_)(h1:x = .ref a)(h2:y = .ref b)(h3:SqT K H a xs)(h4:SqT K H b ys)(h5:xs ≠ [])(h6:xs.length+ys.length<=j5)(h7:(ys = []->Q (.ref a) H))(h8:(ys ≠ []->∀ p,H p=Y->Q (.ref p) (upd H p (.tup (xs++ys)))))
def Vals.jI{xs:List V}(r:Vals xs us):us = [] ↔ xs = []:=by
 cases r with
 | nil=>simp
 | cons _ _=>simp
def Kh:OpR X (binaryOp .Add) (Pw X.K):=by
 intro gd s σ H x y v u Q I rx ry h;let(a,b,xs,ys,U,U,ha,hb,hx,V,q1,q2):=h;cases rx;cases ry;let(its,P,p1,_):=I.tuple ha;let(iw,g,p2,_):=I.tuple hb;exact HT.Le p1 p2 (λz=>hx (P.jI.mp z)) (λz=>(.ref a,H,I,U,q1 (g.jI.mp z))) (λz=>(.ref s.heap.objs.size,_,I.laid (t':=s.toks) (o:=.tup (xs++ys)) (λb ob q=>fx _ q) (lx _) (by rw[px];exact V,_,P.append g,qf.new _ _),U,q2 (λw=>z (g.jI.mpr w)) _ (I.hok.fresh (lx _)))) (by rw[<- P.length,<- g.length];exact V)
end
def ixN(n:Nat)(i:Int):Option Nat:=if 0<=i then(if i<n then Z i.toNat else Y)else if -(n:Int)<=i then Z (i+n).toNat else Y
def atI{α:Type}(xs:List α)(i:Int):Option α:=(ixN xs.length i).bind λj=>xs[j]?
variable{n:Nat}{j:Nat}
def Cy{i:Int}(h:ixN n i=Z j):seqIndex? i n=Z j/\j<n /\ -(n:Int)<=i/\i<n:=by
 unfold ixN at h;by_cases h0:0<=i
 ·rw[if_pos h0]at h;by_cases h1:i<n
  ·rw[if_pos h1]at h;have e:=Option.some.inj h;exact(by rw[seqIndex_of h0 h1,e],by lia,by lia,h1)
  ·rw[if_neg h1]at h;cases h
 ·rw[if_neg h0]at h;by_cases h1:-(n)<=i
  ·rw[if_pos h1]at h;have e:=Option.some.inj h;exact(by rw[seqIndex_neg (by lia) h1,e],by lia,h1,by lia)
  ·rw[if_neg h1]at h;cases h
def xH{α:Type}{xs:List α}{i:Int}{v:α}(h:atI xs i=Z v):∃ j,seqIndex? i xs.length=Z j/\xs[j]? = Z v/\j<xs.length /\ -(xs.length:Int)<=i/\i<xs.length:=by
 unfold atI at h;cases e:ixN xs.length i with
 | none=>rw[e]at h;cases h
 | some j =>
  rw[e]at h;let(h1,h2,h3,h4):=Cy e;exact(j,h1,h,h2,h3,h4)
def CY{α:Type}{xs:List α}{v:α}(h:xs[j]? = Z v):atI xs (j:Int)=Z v:=by
 have g:=(j2.mp h).1;have e:ixN xs.length (j)=Z j:=by
  unfold ixN;rw[if_pos (by lia),if_pos (by lia)];simp
 unfold atI;rw[e];exact h
def oB(b:Expr):Prop:=∀ o i,subscripted b ϊ o i=operate [o,i] (getItem o i)
def IxR(X:Cx)(r:R2):Prop :=
 ∀(value slice:Expr)(gd:List (J×Obj))(s:ϋ)(σ:St)(H:Hp)(x y:V)(v u:B)(Q:VK),Inv X gd σ H s->RelV x v->RelV y u->r x y H Q ->
  subscripted slice ϊ v u=operate [v,u] (getItem v u)->wpAny (model X.prog X.w) X.A (subscriptTail value slice v u) (EP X gd σ Q) X.xe s
def MtR(X:Cx)(id:String)(r:V->List V->Hp->VK->Prop):Prop :=
 ∀(gd:List (J×Obj))(s:ϋ)(σ:St)(H:Hp)(x:V)(xs:List V)(v:B)(us:List B)(Q:VK),Inv X gd σ H s->RelV x v->Vals xs us->r x xs H Q ->
  wpAny (model X.prog X.w) X.A (call (.builtin id) (v::us)) (EP X gd σ Q) X.xe s
variable{r':R2}{gd:List (J×Obj)}{H:Hp}{s:ϋ}{its:List B}{A:Around}{y:V}{u:B}{r:List V->Hp->VK->Prop}
section
variable{X:Cx}{a b:Expr}{ta tb:TE}{pos:Pos}
def IxR.or{r:R2}(h:IxR X r)(h':IxR X r'):IxR X (λx y H Q=>r x y H Q\/r' x y H Q):=by
 intro value slice gd s σ H x y v u Q I z g q hs;rcases q with q|q
 ·exact h value slice gd s σ H x y v u Q I z g q hs
 ·exact h' value slice gd s σ H x y v u Q I z g q hs
def Cj{r:R2}(hr:IxR X r)(ha:PE X a ta)(K:PE X b tb)(hs:oB b):PE X (.Subscript a b pos) (tOp r ta tb):=by
 intro gd s σ H Q I h;exact Subscript_ (OD ha K I h λv u s2 x y H2 P z g q=>hr a b gd s2 σ H2 x y v u Q P z g q (hs _ _))
inductive Pt(K:W.Frag)(x:V)(y:V)(H:Hp)(Q:VK):Prop
 | mk(p xs i v:_)(h1:x = .ref p)(h2:y = .int i)(h3:SqL K H p xs)(h4:atI xs i=Z v)(h5:Q v H)
inductive Pq(K:W.Frag)(x:V)(y:V)(H:Hp)(Q:VK):Prop
 | mk(p xs i v:_)(h1:x = .ref p)(h2:y = .int i)(h3:SqT K H p xs)(h4:atI xs i=Z v)(h5:Q v H)
inductive Pr(x:V)(y:V)(H:Hp)(Q:VK):Prop
 | mk(z i c:_)(h1:x = .str z)(h2:y = .int i)(h3:z.length<=j5)(h4:atI z.cps.toList i=Z c)(h5:Q (.str ⟨#[c]⟩) H)
def KN:IxR X (Pt X.K):=by
 intro value slice gd s σ H x y v u Q I rx ry h hs;let(p,xs,i,z,U,U,hq,he,q):=h;cases rx;let(t,U):=ry;let(its,r,pl,hz):=I.list hq;let(j,h1,h2,h3,h4,h5):=xH he;let(w,V,g):=r.get h2;have hl:=r.length;have hn:=mG;have fin:EP X gd σ Q w s:=(z,H,I,g,q);by_cases h0:0<=i
 ·have P:=by
   rw[seqIndex_of h0 h5]at h1;exact Option.some.inj h1
  exact item_listR pl.isList h0 (by lia) (by rw[P];simpa using V) fin hs
 ·have P:(i+(its.toArray.size)).toNat=j:=by
   rw[seqIndex_neg (by omega) h4]at h1
   rw[qi,<- hl];exact Option.some.inj h1
  exact subscriptTail_builtinR pl.isList.typeIs slot_list_getitem.lookup
   (wpAny_getItem_list_neg pl.isList (by omega) (by rw[qi] <;> lia) (by lia) (by rw[P];simpa using V) (U,fin)) hs
def N3:IxR X (Pq X.K):=by
 intro value slice gd s σ H x y v u Q I V P h hs;let(p,xs,i,z,U,U,hq,he,q):=h;cases V;let(t,U):=P;let(its,r,pl,hz):=I.tuple hq;let(j,h1,h2,h3,h4,h5):=xH he;let(w,ew,g):=r.get h2;have hl:=r.length;have hn:=mG;have fin:EP X gd σ Q w s:=(z,H,I,g,q);exact subscriptTail_builtinR pl.typeIs slot_tuple_getitem.lookup
  (getItem_tuple pl (by lia) (by lia) (by rw[qi,<- hl];exact h1) (by simpa using ew) (U,fin)) hs
def N4:IxR X Pr:=by
 intro value slice gd s σ H x y v u Q I K g h hs;let(z,i,c,U,U,hz,he,q):=h;let(t,U):=K;let(t',U):=g;let(j,h1,h2,h3,h4,h5):=xH he;have hl:z.cps.toList.length=z.length:=by simp[Str.length]
 rw[hl]at h1 h4 h5;have hn:=mG;exact tail_any (typeIs_str s z t) slot_str_getitem.lookup (getItem_str (by
  have V:decide (i < -(2 ^ 63))=false:=decide_eq_false (by lia)
  have P:decide (i ≥ 2 ^ 63)=false:=decide_eq_false (by lia)
  rw[V,P,Bool.or_false]) (by rw[h1];simpa using h2) (.str ⟨#[c]⟩,H,I.tok _,(_,U),q)) hs
def rIx(K:W.Frag):R2:=λx y H Q=>Pt K x y H Q\/Pq K x y H Q\/Pr x y H Q
def xg:IxR X (rIx X.K):=KN.or (N3.or N4)
def A9(its:List B)(n j:Nat)(u:B):Fs (·.setIfInBounds j u) { cls:=.type "list",data:=.seq its.toArray n } ={ cls:=.type "list",data:=.seq (its.set j u).toArray n }:=by
 simp[Fs]
theorem Inv.lst{gd:List (J×Obj)}{σ:St}{H:Hp}{s:ϋ}{p:J}{xs:List V}(I:Inv X gd σ H s)(h:H p=Z (.lst xs)) :
  ∃(its:List B)(n:Nat),Vals xs its/\s.heap.get? p=Z { cls:=.type "list",data:=.seq its.toArray n }/\xs.length<=j5:=by
 let(z,its,n,r,e):=I.hok p _ h;exact(its,n,r,e,z)
def Inv.NJ{σ:St}{p:J}{xs ys:List V}{its':List B}{g:Nat}{f:Obj->Obj}(I:Inv X gd σ H s)(h:H p=Z (.lst xs))
  (ho:s.heap.get? p=Z { cls:=.type "list",data:=.seq its.toArray n }) (hf:f { cls:=.type "list",data:=.seq its.toArray n } ={ cls:=.type "list",data:=.seq its'.toArray g }) (r:Vals ys its') (z:ys.length<=j5) (t:Nat) :
  Inv X gd σ (upd H p (.lst ys)) { s with heap:=s.heap.update p f,toks:=t }:=by
 have e:(s.heap.update p f).get? p=Z { cls:=.type "list",data:=.seq its'.toArray g }:=by
  rw[xR f ho (by rw[hf] <;> rfl),hf]
 exact I.write (x:=p) (e:=p) (by rw[h];trivial) (.inl U) (λb u K q=>(xO _ _ (Ne.symm K)).trans q) (_,e) (z,its',g,r,e)
inductive FZ(o:V)(i:V)(v:V)(H:Hp)(Q:(Hp->Prop)):Prop
 | mk(p xs k j:_)(h1:o = .ref p)(h2:i = .int k)(h3:H p=Z (.lst xs))(h4:ixN xs.length k=Z j)(h5:Q (upd H p (.lst (xs.set j v))))
theorem set_list:RN X FZ:=by
 intro gd s σ H o i v ov iv u Q I P V K h;let(p,xs,k,j,U,U,hp,hj,q):=h;cases P;let(t,U):=V;let(its,n,r,ho,hz):=I.lst hp;let(h1,h2,h3,h4):=Cy hj;have hl:=r.length;have hn:=mG;have z :=
  I.NJ hp ho (A9 its n j u) (r.set K j) (by rw[BH];exact hz) s.toks
 by_cases h0:0<=k
 ·have g:=by
   rw[seqIndex_of h0 h4]at h1;exact Option.some.inj h1
  exact W.ki_setAt ho h0 (by lia) (by rw[qi,<- hl];exact h4) (by rw[g];exact(_,z,q))
 ·have g:(k+(its.toArray.size)).toNat=j:=by
   rw[seqIndex_neg (by omega) h3]at h1
   rw[qi,<- hl];exact Option.some.inj h1
  exact W.ki_setBack ho (by omega) (by rw[qi,<- hl];exact h3) (by lia) (by rw[g];exact(_,z,q))
def v9(lo hi:Option Int)(n:Nat):(sliceBounds lo hi Y n).1 =((HT.sIx n 0 lo:Nat):Int)/\(sliceBounds lo hi Y n).2.1 =((HT.sIx n n hi:Nat):Int)/\(sliceBounds lo hi Y n).2.2=1:=by
 refine(?_,?_,U)
 ·cases lo with
  | none=>simp[sliceBounds,HT.sIx]
  | some i =>
   simp only[sliceBounds,HT.sIx,Vc,show(1:Int) > 0 by decide,if_true]
   by_cases h:i<0
   ·simp only[h,if_true] <;> first|exact HT.FA _ _ h|omega
   ·simp only[h,if_false] <;> first|exact HT.Fz _ _ h|omega
 ·cases hi with
  | none=>simp[sliceBounds,HT.sIx]
  | some i =>
   simp only[sliceBounds,HT.sIx,Vc,show(1:Int) > 0 by decide,if_true]
   by_cases h:i<0
   ·simp only[h,if_true] <;> first|exact HT.FA _ _ h|omega
   ·simp only[h,if_false] <;> first|exact HT.Fz _ _ h|omega
def uQ(its:List B)(lo hi:Option Int):slicePick its.toArray lo hi Y =((its.drop (HT.sIx its.length 0 lo)).take (HT.sIx its.length its.length hi - HT.sIx its.length 0 lo)).toArray:=by
 let(h1,h2,h3):=v9 lo hi its.toArray.size;unfold slicePick;rw[h1,h2,h3];simp only[sliceRange_one,pick_run] <;> rfl
inductive Po(K:W.Frag)(x:V)(lo:Option Int)(hi:Option Int)(H:Hp)(Q:VK):Prop
 | mk(a xs:_)(h1:x = .ref a)(h2:SqL K H a xs)(h3:∀ p,H p=Y->Q (.ref p) (upd H p (.lst (oh xs lo hi))))
def B1:SlR X (Po X.K):=by
 intro gd s σ H x v vl V lo hi sl Q I z hs pl pu h;let(a,xs,U,hx,q):=h;cases z;let(its,r,g,P):=I.list hx;have hlen:=r.length;refine("list",_,slot_list_getitem.lookup,g.isList.typeIs,(wpAny_getItem_list_slice g.isList hs pl pu .none (by simp) ?_ (by rw[qi] <;> omega)))
 rw[uQ,<- hlen];refine(.ref s.heap.objs.size,_,I.laid (λb ob q=>fx _ q) (lx _) ?_,U,q _ (I.hok.fresh (lx _)))
 exact(uj (qS xs lo hi) P,_,0,(r.drop (HT.sIx xs.length 0 lo)).take (HT.sIx xs.length xs.length hi - HT.sIx xs.length 0 lo),oF _ U)
def iM:V->Bool
 | .non=>O
 | .bl _=>O
 | .int _=>O
 | .str _=>O
 | _=>ϊ
def eqV:V->V->Bool
 | .non,.non=>O
 | .bl a,.bl b=>a==b
 | .bl a,.int b=>(if a then 1 else 0)==b
 | .int a,.bl b=>a ==(if b then 1 else 0)
 | .int a,.int b=>a==b
 | .str a,.str b=>a==b
 | _,_=>ϊ
def Bu{x:V}{v:B}(q:RelV y u)(g:RelV x v)(K:iM y=O)(z:iM x=O):SeqAt.EqAt A s u v (eqV y x):=by
 cases y with
 | non =>
  cases q;cases x with
  | non=>cases g;exact SeqAt.EqAt.same _
  | bl b=>cases g;exact SeqAt.EqAt.none_bool b
  | int b=>let(t,U):=g;exact SeqAt.EqAt.none_int b t
  | str b=>let(t,U):=g;exact SeqAt.EqAt.none_str b t
  | _=>exact absurd (z) qd
 | bl a =>
  cases q;cases x with
  | non=>cases g;exact SeqAt.EqAt.bool_none a
  | bl b=>cases g;exact SeqAt.EqAt.bool_bool a b
  | int b=>let(t,U):=g;exact SeqAt.EqAt.bool_int a b t
  | str b=>let(t,U):=g;exact SeqAt.EqAt.bool_str a b t
  | _=>exact absurd (z) qd
 | int a =>
  let(t',U):=q;cases x with
  | non=>cases g;exact SeqAt.EqAt.int_none a t'
  | bl b=>cases g;exact SeqAt.EqAt.int_bool a t' b
  | int b=>let(t,U):=g;exact SeqAt.EqAt.int_int a t' b t
  | str b=>let(t,U):=g;exact SeqAt.EqAt.int_str a t' b t
  | _=>exact absurd (z) qd
 | str a =>
  let(t',U):=q;cases x with
  | non=>cases g;exact SeqAt.EqAt.str_none a t'
  | bl b=>cases g;exact SeqAt.EqAt.str_bool a t' b
  | int b=>let(t,U):=g;exact SeqAt.EqAt.str_int a t' b t
  | str b=>let(t,U):=g;exact SeqAt.EqAt.str_str a t' b t
  | _=>exact absurd (z) qd
 | _=>exact absurd (K) qd
def eqU(x:V)(u:B):Bool:=match u with
 | .none=>eqV .non x
 | .bool b=>eqV (.bl b) x
 | .int i _=>eqV (.int i) x
 | .str z _=>eqV (.str z) x
 | _=>ϊ
def HL{x:V}(r:RelV y u)(f:iM y=O):eqU x u=eqV y x:=by
 cases y with
 | non=>cases r;rfl
 | bl b=>cases r;rfl
 | int i=>let(t,U):=r;rfl
 | str z=>let(t,U):=r;rfl
 | _=>exact absurd (f) qd
theorem oA{x:V}:∀{xs:List V}{us:List B},Vals xs us->xs.all iM=O->us.any (eqU x)=xs.any λy=>eqV y x
 | _,_,.nil,_=>rfl
 | y::xs,u::us,.cons r t,f=>by
  rw[List.all_cons,qp]at f;rw[Uq,Uq,HL r f.1,oA t f.2]
theorem kW{A:Around}{s:ϋ}{x:V}{v:B}(q:RelV x v)(z:iM x=O):∀{xs:List V}{us:List B},Vals xs us->xs.all iM=O->∀ u∈us,SeqAt.EqAt A s u v (eqU x u)
 | _,_,.nil,_=>λu g=>by cases g
 | y::xs,u::us,.cons r t,f=>λu' g=>by
  rw[List.all_cons,qp]at f;rcases i8.mp g with rfl|g
  ·rw[HL r f.1];exact Bu r q f.1 z
  ·exact kW q z t f.2 u' g
def inV(x:V)(xs:List V):Bool:=xs.any λy=>eqV y x
inductive rIn(K:W.Frag)(neg:Bool)(x:V)(y:V)(H:Hp)(Q:VK):Prop
 | mk(p xs:_)(h1:y = .ref p)(h2:(SqL K H p xs\/SqT K H p xs))(h3:iM x=O)(h4:xs.all iM=O)(h5:Q (.bl (if neg then !inV x xs else inV x xs)) H)
def D5:OpR X (compareOp .In) (rIn X.K ϊ):=by
 intro gd s σ H x y v u Q I z V h;let(p,xs,U,g,P,fs,q):=h;cases V;rcases g with g|g
 ·let(its,r,pl,hz):=I.list g;refine SeqAt.in_listAt (eqU x) pl.isList (λw hw=>kW z P r fs w (by simpa using hw)) (.bl _,H,I,U,?_)
  rw[show its.toArray.any (eqU x)=its.any (eqU x)by simp,oA r fs]
  exact q
 ·let(its,r,pl,hz):=I.tuple g;refine SeqAt.in_tupleAt (eqU x) pl (λw hw=>kW z P r fs w (by simpa using hw)) (.bl _,H,I,U,?_)
  rw[show its.toArray.any (eqU x)=its.any (eqU x)by simp,oA r fs]
  exact q
def wL:OpR X (compareOp .NotIn) (rIn X.K O):=by
 intro gd s σ H x y v u Q I z V h;let(p,xs,U,g,P,fs,q):=h;cases V;rcases g with g|g
 ·let(its,r,pl,hz):=I.list g;refine SeqAt.notIn_listAt (eqU x) pl.isList (λw hw=>kW z P r fs w (by simpa using hw)) (.bl _,H,I,U,?_)
  rw[show its.toArray.any (eqU x)=its.any (eqU x)by simp,oA r fs]
  exact q
 ·let(its,r,pl,hz):=I.tuple g;refine SeqAt.notIn_tupleAt (eqU x) pl (λw hw=>kW z P r fs w (by simpa using hw)) (.bl _,H,I,U,?_)
  rw[show its.toArray.any (eqU x)=its.any (eqU x)by simp,oA r fs]
  exact q
def oo:dN X (.builtin "len") (λxs H Q=>∃ p ys,xs = [.ref p]/\(SqL X.K H p ys\/SqT X.K H p ys)/\Q (.int ys.length) H):=by
 intro gd s σ H xs us Q I r h;let(p,ys,U,g,q):=h;let(u,U,z):=vals1 r;cases z;have hn:=mG;rcases g with g|g
 ·let(its,r',pl,P):=I.list g;have hlen:=r'.length;exact Calls.call_len_list pl.isList (by simp only[qi] <;> omega) (.int ys.length,H,I.tok _,(s.toks+1,by rw[qi,hlen]),q)
 ·let(its,r',pl,P):=I.tuple g;have hlen:=r'.length;exact len_tuple pl (by simp only[qi] <;> omega) (.int ys.length,H,I.tok _,(s.toks+1,by rw[qi,hlen]),q)
def xE:dN X (.builtin "len") (λxs H Q=>∃ z,xs = [.str z]/\z.length<=j5/\Q (.int z.length) H):=by
 intro gd s σ H xs us Q I r h;let(z,U,g,q):=h;let(u,U,t,U):=vals1 r;have hn:=mG;exact len_str (by lia) (.int z.length,H,I.tok _,(_,U),q)
def dN.or{f:B}{r':List V->Hp->VK->Prop}(h:dN X f r)(h':dN X f r'):dN X f (λxs H Q=>r xs H Q\/r' xs H Q):=by
 intro gd s σ H xs us Q I rs q;rcases q with q|q
 ·exact h gd s σ H xs us Q I rs q
 ·exact h' gd s σ H xs us Q I rs q
def xD:dN X (.type "list") (λxs H Q=>∃ p ys,xs = [.ref p]/\(SqL X.K H p ys\/SqT X.K H p ys)/\∀ l,H l=Y->Q (.ref l) (upd H l (.lst ys))):=by
 intro gd s σ H xs us Q I r h;let(p,ys,U,P,q):=h;let(u,U,rx):=vals1 r;cases rx;have fin:∀ its,Vals ys its->ys.length<=j5->∀ h' g,(∀ b o',s.heap.get? b=Z o'->h'.get? b=Z o') ->
   h'.get? s.heap.objs.size=Z { cls:=.type "list",dict:=Y,data:=.seq its.toArray g,slots:=#[] }->EP X gd σ Q (.ref s.heap.objs.size) { s with heap:=h' }:=λits r' z h' g kp e =>
  (.ref s.heap.objs.size,_,I.laid kp (lx _) (show cJ X.prog X.w _ h' _ (.lst ys)from(z,its,g,r',e)),U,q _ (I.hok.fresh (lx _)))
 rcases P with P|P
 ·let(its,r',pl,z):=I.list P;have hlen:=r'.length;let(o,ho,V,n,hd):=pl.isList;exact call_list_seq p (.inl U) ho V hd (λh' g kp e=>fin its r' z h' g kp e) (by simp only[qi] <;> omega)
 ·let(its,r',pl,z):=I.tuple P;have hlen:=r'.length;let(o,ho,V,n,hd):=pl;exact call_list_seq p (.inr U) ho V hd (λh' g kp e=>fin its r' z h' g kp e) (by simp only[qi] <;> omega)
def u9:dN X (.type "tuple") (λxs H Q=>∃ p ys,xs = [.ref p]/\((SqL X.K H p ys/\∀ l,H l=Y->Q (.ref l) (upd H l (.tup ys)))\/(SqT X.K H p ys/\Q (.ref p) H))):=by
 intro gd s σ H xs us Q I r h;let(p,ys,U,h):=h;let(u,U,V):=vals1 r;cases V;rcases h with⟨g,q⟩ |⟨g,q⟩
 ·let(its,r',pl,z):=I.list g;have hlen:=r'.length;refine call_tuple_list pl.isList (λh' kp=>?_) (by simp only[qi] <;> omega)
  have P:=I.kept (t':=s.toks) kp;have I2 :=
   P.laid (t':=s.toks) (λb o e=>fx _ e) (lx _) (show cJ X.prog X.w _ _ _ (.tup ys)from(z,its,r',qf.new _ _))
  exact(.ref h'.objs.size,_,I2,U,q _ (P.hok.fresh (lx _)))
 ·let(its,r',pl,z):=I.tuple g;exact call_tuple_same pl (.ref p,H,I,U,q)
def tyV(K:W.Frag)(T:String)(x:V)(H:Hp):Prop:=match x with
 | .str _=>T = "str"
 | .int _=>T = "int"
 | .ref p=>(T = "list" /\ ∃ xs,SqL K H p xs)\/(T = "tuple" /\ ∃ o,K.lookup p=Z o/\o.cls = .type "tuple" /\ o.dict=Y) \/
   (T = "dict" /\ ((∃ kvs,H p=Z (.dK kvs))\/∃ kvs,H p=Z (.dT kvs)))\/(T = "set" /\ ∃ S n,H p=Z (.set S n))
 | _=>False
def E7{σ:St}{T:String}{x:V}{v:B}(I:Inv X gd σ H s)(r:RelV x v)(ty:tyV X.K T x H) :
  s.TypeIs v T/\∀ a,v = .ref a->∃ ob,s.heap.get? a=Z ob/\ob.dict=none:=by
 cases x with
 | str z =>
  let(t,U):=r
  cases(ty)
  exact(typeIs_str s z t,λ_ e=>nomatch e)
 | int i =>
  let(t,U):=r
  cases(ty)
  exact(typeIs_int s i t,λ_ e=>nomatch e)
 | ref p =>
  cases r;rcases ty with⟨rfl,xs,P⟩ |⟨rfl,o,g,Q,hd⟩ |⟨rfl,g⟩ |⟨rfl,S,n,g⟩
  ·let(its,_,pl,_):=I.list P;refine(pl.isList.typeIs,λa e=>?_)
   cases e;let(o,n,e,c,hd,_):=pl;exact(o,e,hd)
  ·refine((o,I.kIn p o g,Q),λa e=>?_)
   cases e;exact(o,I.kIn _ o g,hd)
  ·have z:∃ o,s.heap.get? p=Z o/\o.ExactDict:=by
    rcases g with⟨kvs,g⟩ |⟨kvs,g⟩
    ·let(_,_,_,_,o,_,_,e,ex,_):=I.hok p _ g;exact(o,e,ex)
    ·let(_,_,_,_,o,_,_,e,ex,_):=I.hok p _ g;exact(o,e,ex)
   let(o,e,ex):=z;refine((o,e,ex.1),λa q=>?_)
   cases q;exact(o,e,ex.2.1)
  ·let(o,_,_,_,e,ex,_):=I.hok p _ g;refine((o,e,ex.1),λa q=>?_)
   cases q;exact(o,e,ex.2.1)
 | _=>exact False.elim ty
def Fi(K:W.Frag)(T:String)(r:V->List V->Hp->VK->Prop)(to:TE):TE:=λσ H Q=>to σ H λx H1=>tyV K T x H1/\r x [] H1 Q
def tBM(K:W.Frag)(T:String)(r:V->List V->Hp->VK->Prop)(to:TE)(t:TA):TE:=λσ H Q=>to σ H λx H1=>tyV K T x H1/\t σ H1 λxs H2=>r x xs H2 Q
variable{o e:Expr}{es:List Expr}{to:TE}{t:TA}{name:Str}{apos aM:Pos}{T id:String}{r:V->List V->Hp->VK->Prop}
def wJ(pa:PlainAttrs T)(slot:Slot T name id)(g:typeOf (.builtin id)=pure (.type "method_descriptor"))(hm:MtR X id r)(ho:PE X o to)
  (cq:attributeBase o name X.env (eval o X.env)=eval o X.env:=by rfl) (cp:(apos.endLine==aM.line)=true:=by rfl):PE X (.Call (.Attribute o name apos) [] [] aM) (Fi X.K T r to):=by
 intro gd s σ H Q I h;refine wpAny_Call_method0_late cq cp (thn (ho gd s σ H _ I h) λv s1 q=>?_)
 let(x,H1,P,z,ty,V):=q;let(h1,h2):=E7 P z ty;exact(T,id,pa,slot,g,h1,h2,Calls.callWith_builtin U (PySem.evalArgs_none (hm gd s1 σ H1 x [] v [] Q P z .nil V)))
def tF(pa:PlainAttrs T)(slot:Slot T name id)(g:typeOf (.builtin id)=pure (.type "method_descriptor"))(hm:MtR X id r)(ho:PE X o to)(ha:PA X (e::es) t)
  (cq:attributeBase o name X.env (eval o X.env)=eval o X.env:=by rfl)
  (iy:((backTo aM (iS (e::es) X.env)).all (λx=>!x.1)&&(backToKw aM (keywordEach [] X.env)).all (λx=>x.1.isSome)
   && decide ((e::es).length+([]:List Keyword).length+(if([]:List Keyword).isEmpty then 0 else 1)<30))=true:=by rfl)
  (cp:(apos.endLine==aM.line)=true:=by rfl) (hs:iS (e::es) X.env =(ϊ,eval e X.env)::iS es X.env:=by rfl) (cn:(backTo aM (iS es X.env)).any (·.1)=false:=by rfl) :
  PE X (.Call (.Attribute o name apos) (e::es) [] aM) (tBM X.K T r to t):=by
 intro gd s σ H Q I h;refine wpAny_Call_method_late cq iy cp U (thn (ho gd s σ H _ I h) λv s1 q=>?_)
 let(x,H1,V,z,ty,q1):=q;let(h1,h2):=E7 V z ty;refine(T,id,pa,slot,g,h1,h2,?_);have P:=ha aM gd s1 σ H1 _ V q1;rw[hs]at P ⊢;exact Calls.callWith_builtin (by show(ϊ ||(backTo aM (iS es X.env)).any (·.1))=ϊ;rw[cn] <;> rfl) (Calls.evalArgs_plain (thn P λus s2 (vs,H2,I2,r2,q2)=>hm gd s2 σ H2 x vs v us Q I2 z r2 q2))
end
def MtM(X:Cx)(id:String)(r:V->List V->Hp->VK->Prop):Prop :=
 ∀(gd:List (J×Obj))(s:ϋ)(σ:St)(H:Hp)(x:V)(xs:List V)(v:B)(us:List B)(Q:VK),Inv X gd σ H s->RelV x v->Vals xs us->r x xs H Q ->
  wpAny (model X.prog X.w) X.A (call (.builtin id) (v::us)) (EP X gd σ Q) X.xe s
def Vals.one:∀{x:V}{us:List B},Vals [x] us->∃ u,us = [u]/\RelV x u:=by
 intro x us h;cases h with
 | cons r t=>cases t;exact(_,U,r)
theorem Vals.zero:∀{us:List B},Vals [] us->us = []
 | _,.nil=>rfl
theorem Vals.dropLast{xs:List V}{us:List B}(h:Vals xs us):Vals xs.dropLast us.dropLast:=by
 induction h with
 | nil=>exact .nil
 | cons r t g =>
  cases t with
  | nil=>exact .nil
  | cons q t'=>exact .cons r g
theorem Vals.reverse{xs:List V}{us:List B}(h:Vals xs us):Vals xs.reverse us.reverse:=by
 induction h with
 | nil=>exact .nil
 | cons r t g=>rw[Ub,Ub];exact Vals.append g (.cons r .nil)
def Bt{α:Type}(l:List α):l.eraseIdx (l.length - 1)=l.dropLast:=by
 induction l with
 | nil=>rfl
 | cons a r g =>
  cases r with
  | nil=>rfl
  | cons b r =>
   have e:(a::b::r).length - 1 =((b::r).length - 1)+1:=by
    rfl
   rw[e,List.eraseIdx_cons_succ,g]
   all_goals rfl
variable{t':Nat}
section
variable{X:Cx}{σ:St}{l:J}{xs ys:List V}
def Inv.Kz{its':List B}{f:Array B->Array B}{t':Nat}(I:Inv X gd σ H s)(P:H l=Z (.lst xs))
  (e:s.heap.get? l=Z { cls:=.type "list",data:=.seq its.toArray n }) (hf:f its.toArray=its'.toArray) (hv:Vals ys its') (g:ys.length<=j5) :
  Inv X gd σ (upd H l (.lst ys)) { s with heap:=s.heap.update l (Fs f),toks:=t' }:=by
 have q:=PySem.IsL.update e f;rw[hf]at q;exact I.write (x:=l) (e:=l) (by rw[P];exact trivial) (.inl U) (λQ u K z=>(xO s.heap (Fs f) (Ne.symm K)).trans z) (_,q) (g,its',_,hv,q)
def Inv.Sr(I:Inv X gd σ H s)(hv:Vals ys its)(g:ys.length<=j5) :
  Inv X gd σ (upd H s.heap.objs.size (.lst ys)) { s with heap:=s.heap.push { cls:=.type "list",data:=.seq its.toArray },toks:=t' } :=
 I.laid (λ_ _ q=>fx _ q) (lx _) (g,its,0,hv,oF _ U)
theorem Inv.fresh(I:Inv X gd σ H s):H s.heap.objs.size=none:=I.hok.fresh (lx _)
def Inv.Bc(I:Inv X gd σ H s)(g:H l=Z (.lst xs)):xs.length<=j5/\∃(its:List B)(n:Nat),Vals xs its/\xs.length=its.length/\s.heap.get? l=Z { cls:=.type "list",data:=.seq its.toArray n }:=by
 let(z,its,n,r,e):=I.hok l _ g;exact(z,its,n,r,r.length,e)
def zg(h:n<=j5):Builtin.List.listTooLong n=false:=by
 exact decide_eq_false (by lia)
end
section
variable{X:Cx}
inductive jA(x:V)(vs:List V)(H:Hp)(Q:VK):Prop
 | mk(l xs y:_)(h1:x = .ref l)(h2:vs = [y])(h3:H l=Z (.lst xs))(h4:xs.length<j5)(h5:Q .non (upd H l (.lst (xs ++ [y]))))
theorem vw:MtM X "list.append" jA:=by
 intro gd s σ H x vs v us Q I K P h;let(l,xs,y,U,U,g,V,q):=h;cases K;let(u,U,ru):=P.one;let(z,its,n,r,hl,e):=I.Bc g;refine call_meets F.slot_list_append (_,e,U) F.entry_list_append (F.args_list_append_2 _ _) (PySem.list_append l its.toArray n u (by rw[qi];lia)) (e,?_)
 refine(.non,_,I.Kz g e (by simp) (r.append (.cons ru .nil)) ?_,U,q)
 rw[px,UO]
 lia
inductive se(x:V)(vs:List V)(H:Hp)(Q:VK):Prop
 | mk(l b xs zs:_)(h1:x = .ref l)(h2:vs = [.ref b])(h3:H l=Z (.lst xs))(h4:H b=Z (.lst zs))(h5:xs.length+zs.length<=j5)(h6:Q .non (upd H l (.lst (xs++zs))))
theorem D8:MtM X "list.extend" se:=by
 intro gd s σ H x vs v us Q I P V h;let(l,b,xs,zs,U,U,K,hB,hz,q):=h;cases P;let(u,U,ru):=V.one;cases ru;let(z,its,n,r,hl,e):=I.Bc K;let(z2,g,n2,r2,ah,e2):=I.Bc hB;have hsz:its.toArray.size+g.toArray.size<=j5:=by rw[qi,qi];lia
 have Hx:¬(!its.toArray.isEmpty&&Builtin.List.listTooLong (its.toArray.size+g.toArray.size))=true:=by
  rw[zg hsz,Uc];exact qd
 refine call_meets F.slot_list_extend (_,e,U) F.entry_list_extend (F.args_list_extend_2 _ _)
  (AutoSeq1.list_extend_list_list_0 l its.toArray n b g.toArray n2 Hx (by rw[qi];lia) (by lia)) (e,e2,?_)
 refine(.non,_,I.Kz K e (by simp) (r.append r2) ?_,U,q)
 rw[px];omega
inductive F5(x:V)(vs:List V)(H:Hp)(Q:VK):Prop
 | mk(l xs y:_)(h1:x = .ref l)(h2:vs = [])(h3:H l=Z (.lst xs))(h4:xs[xs.length - 1]? = Z y)(h5:Q y (upd H l (.lst xs.dropLast)))
theorem wZ:MtM X "list.pop" F5:=by
 intro gd s σ H x vs v us Q I V rv h;let(l,xs,y,U,U,P,hy,q):=h;cases V;have K:=rv.zero;subst K;let(z,its,n,r,hl,e):=I.Bc P;let(u,hu,ru):=r.get hy;have g:=by
  show its.toArray[its.length - 1]? = Z u;rw[<- Uj,<- hl];exact hu
 refine call_meets F.slot_list_pop (_,e,U) F.entry_list_pop (F.args_list_pop_1 _) (MeetsSeq.list_pop_last l its.toArray n u g (by rw[qi];lia)) (e,?_)
 refine(y,_,I.Kz P e ?_ r.dropLast ?_,ru,q)
 ·rw[qi,List.eraseIdxIfInBounds_toArray,Bt]
 ·rw[List.length_dropLast]
  lia
inductive Px(x:V)(y:V)(H:Hp)(Q:VK):Prop
 | mk(l b xs zs:_)(h1:x = .ref l)(h2:y = .ref b)(h3:H l=Z (.lst xs))(h4:H b=Z (.lst zs))(h5:xs.length+zs.length<=j5)(h6:∀ p,H p=Y->Q (.ref p) (upd H p (.lst (xs++zs))))
def Ny:OpR X (binaryOp .Add) Px:=by
 intro gd s σ H x y v u Q I V K h;let(l,b,xs,zs,U,U,hH,hB,hz,q):=h;cases V;cases K;let(z,its,n,r,hl,e):=I.Bc hH;let(z2,g,n2,r2,ah,e2):=I.Bc hB;refine PySem.P.add_list e e2 ?_ (by rw[qi,qi];omega)
 have ea:its.toArray++g.toArray =(its++g).toArray:=by simp
 rw[ea];exact(.ref _,_,I.Sr (r.append r2) (by rw[px];omega),U,q _ I.fresh)
end
end L2
namespace Att
open PySem PySem.W PySem.Calls PyProof.Rows
def rD{P:Params}{h:Heap}:∀(ns:List Int)(vs:List B),WellAll P h vs (ns.map WData.int)->IntsAre vs ns:=by
 intro ns
 induction ns with
 | nil =>
  intro vs w;cases w;exact .nil
 | cons n ns g =>
  intro vs w;cases w with
  | cons a b =>
   cases a;exact .cons _ _ (g _ b)
def DH{l:OpenLaw}{n:Nat}(hn:l.most=Z n){P:Params}{h:Heap}{args:List WData}{vals:List B}
  (hpre:l.row.toRowW.claim.pre args=O) (g:WellAll P h vals args) :
  ∃ a vs ns,vals = [B.ref a]/\args = [WData.list (ns.map WData.int)]/\h.get? a=Z { cls:=.type "list",data:=.seq vs.toArray }/\IntsAre vs ns/\ns.length<=n:=by
 have q:WShape.hasAll [] args [.list .int]=true:=(pre_splitW hpre).1;have Q:l.pre.holds [] { args:=args }=true:=(pre_splitW hpre).2;let(d,r,U,h1,h2):=hasAllW_cons q;obtain rfl:=hasAllW_nil h2;let(xs,U,h3):=hasW_list h1;let(ns,U):=items_int h3;have hlen:=by
  have h4:=by
   have h4:=(holds_andW Q).1;rw[hn]at h4;exact h4
  have h5:=condW_of h4 (w_not (w_lt w_lit (w_len_list (w_arg U))))
  first
   | (exact absurd h5 (by decide))
   | (simp at h5;omega)
 cases g with
 | cons K z =>
  cases z;cases K with
  | list ho V=>exact(_,_,ns,U,U,ho,rD ns _ V,hlen)
def DX(l:OpenLaw)(args:List WData):l.row.toRowW.claim.post args (.bool O) args=true :=
 postW_of
  (by rfl)
  (w_eq_bool (w_res U) w_lit) U
def zR{l:OpenLaw}{n:Nat}{q:Program}{loose:List Str}{XP:(Str->Option B)->Heap->Prop}{V:World->Heap->Prop}{d:DefRec}
  (hn:l.most=Z n) (K:d.params.defaults = [])
  (call:∀(w:World)(s₀ g:ϋ)(mg mb:Str->Option B)(fa:J)(o:Obj)(pm cd doc:B)(a:J)(vs:List B)(ns:List Int),
   Ground q loose [] XP w s₀ mg mb g.heap->V w g.heap ->
   g.heap.get? fa=Z o->o.data = .func (docDef d.name d.params d.body d.scope pm cd doc)->g.heap.CodeRec cd d.name->mg d.name=Z (.ref fa) ->
   g.heap.get? a=Z { cls:=.type "list",data:=.seq vs.toArray }->IntsAre vs ns->ns.length<=n->g.gens = #[] ->
   codeAny (model l.prog w) callerA (.call (.ref fa) ([.ref a],[])) (λr s'=>r = .ok (.ret (.bool O))/\OldK g.heap s'.heap/\s'.os=g.os/\AllBare s'.gens) g) :
  WalkO q loose XP V l.row.toRowW d [] (λf vs=>PySem.call f vs):=by
 intro w s₀ g mg mb G Vl fa o pm cd doc dV kV ho hd P Q hmg hg args vals as hpre Tn ah z ai;obtain rfl:=Dflts.none Q K;obtain rfl:=Dflts.noKw Q;let(a,vs,ns,U,U,En,hints,hlen):=DH hn hpre z;refine enter_call (codeAny_mono (call w s₀ g mg mb fa o pm cd doc a vs ns G Vl ho (fd_plain hd) P hmg En hints hlen hg) λr s' hq=>?_)
 let(U,h2,h3,h4):=hq;exact(.inl (.bool O,.bool O,[],U,λ_=>rfl,.bool O,DX l _,λ_=>(List.Pairwise.nil,λ_ hm=>(nomatch hm))),h2,h3,h4)
section
def ledger(h:Heap)(L d:J):List (J×Obj):=(Tp h.objs.size).filterMap λa=>if a=L\/a=d then Y else(h.get? a).map λo=>(a,o)
end
end Att
namespace L2
open PySem PySem.Spec PyProof.Rows
variable{ns:List Int}
def Dr{vs:List B}(h:IntsAre vs ns):Vals (ns.map V.int) vs:=by
 induction h with
 | nil=>exact .nil
 | cons n t _ g=>exact .cons (t,U) g
def Lo(H:Hp):Prop:=∀ b,H b=Y\/∃ o xs,H b=Z (.frz o (.lst xs))
variable{mg:Str->Option B}{a:J}{x:Str}
theorem Hl{P:Program}{w:World}{K:W.Frag}{mb:Str->Option B}{CX:CXT}{k:Nat}{fa:J}{fd:FuncData}{sp:Sp}{g:ϋ}{vs:List B}
  (KX:K.In g.heap) (ai:g.heap.Ns mainGlobals mg) (Q:g.heap.Ns builtinsNs mb) (aA:∀ x:Str,x ≠ "__name__" -> mb x=bootBuiltins x) (SN:g.heap.NoLimit) (hg:g.gens = #[])
  (ha:g.heap.get? a=Z { cls:=.type "list",data:=.seq vs.toArray }) (hi:IntsAre vs ns) (hl:ns.length<=j5) (hr:bM k callerA)
  (F:∀ base:Heap,K.In base->base.Ns mainGlobals mg->aR P w K mg base CX k fa fd [x] sp) (Rf:∀(s:ϋ)(u:B),BindsTo s fd ([u],[]) [(x,u)])
  (ax:∀ H:Hp,Lo H->SqL K H a (ns.map V.int)->sp [.ref a] H (λv _=>v = .bl O) λ_ _ _=>False)
  (aG:∀ H e s',CX [] H g (λ_ _ _=>False) e s'->False) :
  codeAny (model P w) callerA (.call (.ref fa) ([.ref a],[])) (λr s'=>r = .ok (.ret (.bool O))/\OldK g.heap s'.heap/\s'.os=g.os/\AllBare s'.gens) g:=by
 have rv:=Dr hi;have Ss:=hi.length;have core:∀ H,Lo H->SqL K H a (ns.map V.int)->HOk P w H g.heap ->(∀ b,H b≠Y->b=a) ->(H a≠Y->K.lookup a=Y) ->
   codeAny (model P w) callerA (.call (.ref fa) ([.ref a],[])) (λr s'=>r = .ok (.ret (.bool O))/\OldK g.heap s'.heap/\s'.os=g.os/\AllBare s'.gens) g:=by
  intro H hO hS hok hA hK;have CW:∀{b:J}{o:Obj},g.heap.get? b=Z o->H b=Y ->(zD g.heap H).get? b=Z o:=λe n=>HA e n
  have ak:∀{b:J}{o:Obj}{es:Array DictEntry}{ep:Nat},g.heap.get? b=Z o->o.data = .dict es ep->H b=none:=λ{b o es ep} e d=>by
   cases q:H b with
   | none=>rfl
   | some u =>
    have e':=hA b (by rw[q];simp)
    subst e';rw[ha]at e;cases e;have d':=d;cases d'
  have ah:∀{b:J}{m:Str->Option B},g.heap.Ns b m ->(zD g.heap H).Ns b m:=λ{b m} (o,es,ep,e,d,r)=>(o,es,ep,CW e (ak e d),d,r)
  have aj:=λb o e=>CW (KX b o e) (by
   cases q:H b with
   | none=>rfl
   | some u =>
    have e':=hA b (by rw[q];simp)
    subst e';rw[hK (by rw[q];simp)]at e;cases e)
  have hM:Mod K mg (zD g.heap H):=(aj,ah ai,(mb,ah Q,aA),let(mc,h1,h2):=SN;(mc,ah h1,h2))
  have e0:Aa P w K mg (zD g.heap H) callerA [] g H:=(U,hM,λb o e=>Kt e,UI (Ep _ _),trivial,λb Q=>absurd (show b∈([])from Q) (by simp),hok,.of_eq hg)
  refine codeAny_mono ((F _ aj (ah ai)).run callerA [] g H ([.ref a],[]) [.ref a] [.ref a] _ _ hr e0 (Rf g (.ref a)) (.cons U .nil) (ax H hO hS)) λr s' h=>?_
  cases r with
  | error e=>exact(aG H e s' h).elim
  | ok fl =>
   cases fl with
   | next=>exact False.elim h
   | brk=>exact False.elim h
   | cont=>exact False.elim h
   | ret u =>
    let(v,H',os,bare,un,SK,r',q):=h;have q':=q;subst q';obtain rfl:=r';refine(U,OldK.of_keep λb o e=>?_,os,bare)
    cases q:H b with
    | none=>exact un.keep b o e q (by intro z;exact absurd (show b∈([])from z) (by simp)) (by simp)
    | some u =>
     rcases hO b with z |⟨ob,xs,z⟩
     ·rw[q]at z;cases z
     ·have z2:=un.nT b ob _ z;let(e1,_):=hok b _ z;let(e2,_):=SK b _ z2;rw[e]at e1;cases e1;exact e2
 cases hk:K.lookup a with
 | some o =>
  have e:=KX a o hk;rw[ha]at e;cases e;refine core (λ_=>Y) (λ_=>.inl U) (.inr (_,vs.toArray,_,hk,U,U,U,by rw[qi,Ss];exact hl,by simpa using rv)) (λb u z=>by have z':=z;cases z') (λb z=>absurd U z) λz=>absurd U z
 | none =>
  refine core (λb=>if b=a then Z (.frz { cls:=.type "list",data:=.seq vs.toArray } (.lst (ns.map V.int)))else Y) (λb=>?_) (.inl (.inr ({ cls:=.type "list",data:=.seq vs.toArray },if_pos U))) (λb u z=>?_) (λb z=>?_) λ_=>hk
  ·by_cases Q:b=a
   ·exact .inr (_,_,if_pos Q)
   ·exact .inl (if_neg Q)
  ·by_cases Q:b=a
   ·have z':=(if_pos Q).symm.trans z;cases z';subst Q;exact(ha,by rw[gV];exact hl,vs,_,rv,ha)
   ·have z':=(if_neg Q).symm.trans z;cases z'
  ·by_cases Q:b=a
   ·exact Q
   ·exact absurd (if_neg Q) z
variable{n:Nat}
theorem Jd{l:W.OpenLaw}{k:Nat}{q:Program}{loose:List Str}{XP:(Str->Option B)->Heap->Prop}{YP:World->Heap->Prop}{d:DefRec}{K:Params->W.Frag}{CX:World->CXT}{sp:World->Sp}
  (hn:l.most=Z n) (Q:n<=j5) (ah:d.params.defaults = []) (hr:bM k callerA)
  (hY:∀(w:World)(h:Heap),YP w h ->(K w.params).In h)
  (F:∀(w:World)(mg:Str->Option B)(fa:J)(h:Heap),(K w.params).In h->h.Ns mainGlobals mg->mg d.name=Z (.ref fa) ->
   ∃ fd:FuncData,(∀(s:ϋ)(u:B),BindsTo s fd ([u],[]) [(x,u)]) /\
    ∀ base:Heap,(K w.params).In base->base.Ns mainGlobals mg->aR l.prog w (K w.params) mg base (CX w) k fa fd [x] (sp w))
  (P:∀(w:World)(H:Hp)(a:J)(ns:List Int),ns.length<=n->Lo H->SqL (K w.params) H a (ns.map V.int)->sp w [.ref a] H (λv _=>v = .bl O) λ_ _ _=>False)
  (ai:∀(w:World)(H:Hp)(s:ϋ)(e:B)(s':ϋ),CX w [] H s (λ_ _ _=>False) e s'->False) :
  W.WalkO q loose XP YP l.row.toRowW d [] (λf vs=>PySem.call f vs):=by
 refine Att.zR hn ah λw s₀ z mg mb fa o pm cd doc a vs ns G Vl ho hd aj hmg En hints hlen hg=>?_
 have KX:=hY w _ Vl;let(fd,hb,hF):=F w mg fa _ KX G.T.g hmg;exact Hl KX G.T.g G.T.b G.T.builtins G.T.nolimit hg En hints (uj hlen Q) hr hF hb (λH hO hS=>P w H a ns hlen hO hS) λH e s'=>ai w H z e s'
def gx(s:Stmt):Arguments:=match s with
 | .FunctionDef _ a _ _ _ _ _ _ _ _=>a
 | _=>{ posonlyargs:=[],args:=[],vararg:=Y,kwonlyargs:=[],kw_defaults:=[],kwarg:=Y,defaults:=[] }
def cc(s:Stmt):List Stmt:=match s with
 | .FunctionDef _ _ b _ _ _ _ _ _ _=>b
 | _=>[]
def aq(s:Stmt):Scope:=match s with
 | .FunctionDef _ _ _ _ _ _ sc _ _ _=>sc
 | _=>{ kind:=.function,names:=[],isGenerator:=ϊ,isCoroutine:=ϊ }
abbrev CX0:CXT:=λ_ _ _ _ _ _=>False
abbrev E0:XK:=λ_ _ _=>False
variable{X:Cx}
def qE:Passes CX0 X E0:=λ_ _ _ _ _ _ _ h=>h.elim
structure Fun(K:W.Frag)(x qual:Str)(st:Stmt)(f:J)(fd:FuncData):Prop where
 ex:∃(oc:B)(od:Option J)(kV doc pm:B)(an:Option J)(cdv ct:B)(osl:Array (Option B)),
  fd=W.fnOf x qual (gx st) (cc st) (aq st) .none kV doc pm an cdv ct/\K.lookup f=Z (oc,od,.func fd,osl)/\W.codeIn K cdv qual=O
 kp:W.keepIn K (.ref f)=O
variable{qual:Str}{st:Stmt}{fd:FuncData}{N:List Str}{ps:List Str}{sp:Sp}{oc:B}{od:Option J}{an:Option J}{pm:B}{ct:B}
section
variable{P:Program}{w:World}{K:W.Frag}{base:Heap}
theorem Fun.ok{f:J}{k:Nat}(F:Fun K x qual st f fd)(S:aE N ps (aq st))(len:∀ vs H Q E,sp vs H Q E->vs.length=ps.length)
  (iz:∀(cdv:B)(A:Around)(outer:List Env)(s:ϋ)(H:Hp)(vs:List V)(Q:VK)(E:XK),bM k (A.deeper (envOfC qual (aq st) s.heap.objs.size f cdv))->sp vs H Q E ->
   ∃ t,PSs (mK CX0 P w K mg base N qual (aq st) f cdv A outer s H E).nox (cc st) t/\t { nx:=λ_ H'=>Q .non H',rt:=Q } (start N vs) H):aR P w K mg base CX0 (k+1) f fd ps sp:=by
 let(oc,od,kV,doc,pm,an,cdv,ct,osl,U,lk,z):=F.ex;refine LS lk z S len λA outer s H vs Q E hr g=>?_
 let(t,h,q):=iz cdv A outer s H vs Q E hr g;exact(t,h.nox,q)
theorem Fun.binds{f:J}(F:Fun K x qual st f fd)
  (h:∀(kV doc pm:B)(an:Option J)(cdv ct:B)(us:List B),us.length=ps.length->bindArgs (W.fnOf x qual (gx st) (cc st) (aq st) .none kV doc pm an cdv ct) (us,[])=pure (ps.zip us)):Binds K fd ps []:=by
 let(oc,od,kV,doc,pm,an,cdv,ct,osl,U,lk,g):=F.ex;exact .all (h kV doc pm an cdv ct)
theorem xp{f:J}{osl:Array (Option B)}{kV doc cdv:B}(l:K.lookup f=Z (oc,od,.func (W.fnOf x qual (gx st) (cc st) (aq st) .none kV doc pm an cdv ct),osl))
  (c:W.codeIn K cdv qual=O) (k:W.keepIn K (.ref f)=O):Fun K x qual st f (W.fnOf x qual (gx st) (cc st) (aq st) .none kV doc pm an cdv ct):=((oc,od,kV,doc,pm,an,cdv,ct,osl,U,l,c),k)
end
variable{A:Around}
def bg{k:Nat}(hr:bM k A):A.units+1<cLine:=T8 (UU (by decide) _) hr.units
def bb(h:n<=1000):n<j5:=T8 h (by decide)
section
def pv(i:Nat){pos:Pos}(q:X.N[i]? = Z x:=by rfl)(hv:Vis X.env.scope x:=by first|exact Or.inl rfl|exact Or.inr (Or.inl U)|exact Or.inr (Or.inr U))(hd:(x ==("__debug__":Str))=false:=by decide)
  (g:(x ==("__classdict__":Str))=false:=by decide):PE X (.Name x pos) (bP i):=wG q hv hd g
end
def QD{A Vm:Prop}(h:A):if O=O then A else Vm:=by
 rw[if_pos rfl];exact h
def a5{c A Vm:Prop}[Decidable c](h1:c->A)(h2:¬ c->Vm):if c then A else Vm:=by
 by_cases h:c
 ·rw[if_pos h];exact h1 h
 ·rw[if_neg h];exact h2 h
def mR(H H':Hp):Prop:=∀ b o,H b=Z o->H' b=Z o
def mR.refl(H:Hp):mR H H:=λ_ _ h=>h
variable{H:Hp}{H':Hp}
def mR.free(e:mR H H'){l:J}(h:H' l=Option.none):H l=Option.none:=by
 cases q:H l with
 | none=>rfl
 | some o =>
  rw[e l o q]at h;cases h
variable{y:V}{u:B}
section
variable{κ:Type}[DecidableEq κ]
def mT(kvs:List (κ×V))(k:κ):Option V:=(kvs.find? λg=>decide (g.1=k)).map (·.2)
def putK(kvs:List (κ×V))(k:κ)(v:V):List (κ×V) :=
 if(kvs.any λg=>decide (g.1=k))=O then kvs.map (λg=>if g.1=k then(g.1,v)else g)else kvs ++ [(k,v)]
def sD{p:κ×V}{r:List (κ×V)}{k:κ}(e:p.1=k):mT (p::r) k=Z p.2:=by simp[mT,e]
def sE{p:κ×V}{r:List (κ×V)}{k:κ}(e:¬ p.1=k):mT (p::r) k=mT r k:=by simp[mT,e]
theorem yc(k:κ):∀ kvs:List (κ×V),(kvs.any λg=>decide (g.1=k)) =(mT kvs k).isSome
 | []=>rfl
 | p::r=>by
  rw[Uq];by_cases e:p.1=k
  ·simp only[sD e,decide_eq_true e,Bool.true_or,Option.isSome_some]
  ·rw[sE e,decide_eq_false e];exact yc k r
def kY(kvs:List (κ×V))(k:κ)(v:V):(putK kvs k v).length<=kvs.length+1:=by
 unfold putK
 split
 ·rw[gV];lia
 ·rw[px,mu,T2];lia
def ki.Ej{o:Option V}{u:Option B}(r:ki o u):o.isSome=u.isSome:=by
 cases o with
 | none=>cases u with
  | none=>rfl
  | some _=>exact(r).elim
 | some _=>cases u with
  | none=>exact(r).elim
  | some _=>rfl
def KV.val{kvs:List (κ×V)}{vs:List (κ×B)}(r:KV kvs vs)(k:κ):ki (mT kvs k) (valueAt vs k):=by
 induction r with
 | nil=>exact True.intro
 | @cons p q ps qs h t K =>
  let(h1,h2):=h;by_cases e:p.1=k
  ·have g:=h1.symm.trans e;have b:valueAt (q::qs) k=Z q.2:=by simp[valueAt,g]
   rw[sD e,b];exact h2
  ·have g:¬ q.1=k:=λz=>e (h1.trans z)
   have b:valueAt (q::qs) k=valueAt qs k:=by simp[valueAt,g]
   rw[sE e,b];exact K
theorem KV.any{kvs:List (κ×V)}{vs:List (κ×B)}(r:KV kvs vs)(k:κ):(kvs.any λg=>decide (g.1=k))=vs.any λg=>decide (g.1=k):=by
 induction r with
 | nil=>rfl
 | cons h t q=>rw[Uq,Uq,q,h.1]
def KV.Mz{kvs:List (κ×V)}{vs:List (κ×B)}(r:KV kvs vs)(k:κ)(K:RelV y u) :
  KV (kvs.map λg=>if g.1=k then(g.1,y)else g) (vs.map λg=>if g.1=k then(g.1,u)else g):=by
 induction r with
 | nil=>exact .nil
 | @cons p q ps qs h t P =>
  rw[OY,OY];refine .cons ?_ P;let(h1,h2):=h;by_cases e:p.1=k
  ·rw[if_pos e,if_pos (h1.symm.trans e)];exact(h1,K)
  ·rw[if_neg e,if_neg (λz=>e (h1.trans z))];exact(h1,h2)
def KV.put{kvs:List (κ×V)}{vs:List (κ×B)}(r:KV kvs vs)(k:κ)(g:RelV y u):KV (putK kvs k y) (stored vs k u):=by
 unfold putK stored;rw[r.any k];by_cases e:(vs.any λq=>decide (q.1=k))=O
 ·rw[if_pos e,if_pos e];exact r.Mz k g
 ·rw[if_neg e,if_neg e];exact Paired.snoc r (U,g)
theorem KV.length{kvs:List (κ×V)}{vs:List (κ×B)}(r:KV kvs vs):kvs.length=vs.length:=Paired.length r
end
variable{P:Program}
def Cv{w:World}{k:Key}(r:RelV (kV k) u):(dg P w).is k u=true:=by
 cases k with
 | inl i=>let(t,e):=(r);subst e;exact zp P w i t
 | inr x=>let(t,e):=(r);subst e;exact zo P w x t
theorem vB{P:Program}{w:World}:∀{ks:List Key}{us:List B},Vals (ks.map kV) us->ItemsAre (dg P w) ks us
 | [],_,r=>by cases r;exact .nil
 | k::ks,_,r=>by
  cases r with
  | cons h t=>exact .cons (Cv h) (vB t)
abbrev KT(H:Hp):List (List Key×V)->List (List Key×J×B)->Prop:=Paired λp q=>p.1=q.1/\H q.2.1=Z (.tup (p.1.map kV))/\RelV p.2 q.2.2
variable{kvs:List (List Key×V)}
def KT.val{xs:List (List Key×J×B)}(r:KT H kvs xs)(k:List Key):ki (mT kvs k) ((atKey xs k).map (·.2)):=by
 induction r with
 | nil=>exact True.intro
 | @cons p q ps qs h t K =>
  let(h1,_,h2):=h;by_cases e:p.1=k
  ·have g:=h1.symm.trans e;have b:atKey (q::qs) k=Z q.2:=by simp[atKey,g]
   rw[sD e,b];exact h2
  ·have g:¬ q.1=k:=λz=>e (h1.trans z)
   have b:atKey (q::qs) k=atKey qs k:=by simp[atKey,g]
   rw[sE e,b];exact K
def KT.Mz{xs:List (List Key×J×B)}(r:KT H kvs xs)(k:List Key)(K:RelV y u) :
  KT H (kvs.map λg=>if g.1=k then(g.1,y)else g) (xs.map (putAt k u)):=by
 induction r with
 | nil=>exact .nil
 | @cons p q ps qs h t P =>
  rw[OY];refine .cons ?_ P;let(h1,h2,h3):=h;unfold putAt;by_cases e:p.1=k
  ·rw[if_pos e,if_pos (h1.symm.trans e)];exact(h1,h2,K)
  ·rw[if_neg e,if_neg (λz=>e (h1.trans z))];exact(h1,h2,h3)
def KT.put{xs:List (List Key×J×B)}(r:KT H kvs xs)(k:List Key){b:J}(K:H b=Z (.tup (k.map kV)))(g:RelV y u) :
  KT H (putK kvs k y) (storedH xs k b u):=by
 have e:(kvs.any λz=>decide (z.1=k)) =(atKey xs k).isSome:=by
  rw[yc,(r.val k).Ej,Option.isSome_map]
 unfold putK storedH;rw[e];by_cases q:(atKey xs k).isSome=O
 ·rw[if_pos q,if_pos q];exact r.Mz k g
 ·rw[if_neg q,if_neg q];exact Paired.snoc r (U,K,g)
def KT.keeps{xs:List (List Key×J×B)}(r:KT H kvs xs)(g:∀ b ys,H b=Z (.tup ys)->H' b=Z (.tup ys)):KT H' kvs xs :=
 Paired.Qn r λ_ _ z=>(z.1,g _ _ z.2.1,z.2.2)
section
variable{w:World}{h:Heap}
def Lx{u:HO}(ok:HOk P w H h)(e:Rd H a u):cJ P w H h a u:=e.ok ok
def CK{kvs:List (Key×V)}(ok:HOk P w H h)(e:Rd H a (.dK kvs)):kvs.length<=j5/\(a==sysModules)=ϊ/\∃ vs,KV kvs vs/\h.DictOf (dg P w) a vs :=
 Lx ok e
def LV{kvs:List (Key×V)}(ok:HOk P w H h)(e:H a=Z (.dK kvs)):kvs.length<=j5/\(a==sysModules)=ϊ/\∃ vs,KV kvs vs/\h.DictOf (dg P w) a vs:=CK ok (.inl e)
def Bj{ks:List Key}(ok:HOk P w H h)(e:H a=Z (.tup (ks.map kV))):(tupleKind (dg P w)).is h ks a:=by
 let(_,its,r,(o,h1,h2,n,h3),_):=(ok a _ e);exact(o,its.toArray,n,h1,h2,h3,by simpa using vB r)
def HR(ok:HOk P w H h)(e:Rd H a (.dT kvs)):kvs.length<=j5/\(a==sysModules)=ϊ /\
  ∃ xs,KT H kvs xs/\h.DictOfH (tupleKind (dg P w)) a xs:=by
 let(z,y,xs,r,o,es,Q,h1,h2,h3,h4,h5):=(Lx ok e);refine(z,y,xs,r,o,es,Q,h1,h2,h3,h4,λx hx=>?_,h5)
 have all:∀{l:List (List Key×V)}{m:List (List Key×J×B)},KT H l m->∀ x∈m,(tupleKind (dg P w)).is h x.1 x.2.1:=by
  intro l m q
  induction q with
  | nil=>intro x hx;exact nomatch hx
  | @cons p q ps qs g t K =>
   intro x hx;rcases i8.mp hx with e|hx
   ·subst e;exact Bj ok (by rw[<- g.1];exact g.2.1)
   ·exact K x hx
 exact all r x hx
def Rm(ok:HOk P w H h)(e:H a=Z (.dT kvs)):kvs.length<=j5/\(a==sysModules)=ϊ /\
  ∃ xs,KT H kvs xs/\h.DictOfH (tupleKind (dg P w)) a xs:=HR ok (.inl e)
end
def uJ(H:Hp)(a:J)(y:V)(r:Option V):Prop :=
 (∃ kvs k,Rd H a (.dK kvs)/\y=kV k/\r=mT kvs k)\/∃ kvs k b,Rd H a (.dT kvs)/\y = .ref b/\H b=Z (.tup (k.map kV))/\r=mT kvs k
def Ab(H:Hp)(a:J)(y v:V)(H':Hp):Prop :=
 (∃ kvs k,H a=Z (.dK kvs)/\y=kV k/\kvs.length<j5/\H'=upd H a (.dK (putK kvs k v))) \/
 ∃ kvs k b,H a=Z (.dT kvs)/\y = .ref b/\H b=Z (.tup (k.map kV))/\kvs.length<j5/\H'=upd H a (.dT (putK kvs k v))
theorem uJ.k{H:Hp}{a:J}{kvs:List (Key×V)}{k:Key}(e:H a=Z (.dK kvs)):uJ H a (kV k) (mT kvs k):=.inl (kvs,k,.inl e,U,U)
theorem Ab.k{H:Hp}{a:J}{kvs:List (Key×V)}{k:Key}{v:V}(e:H a=Z (.dK kvs))(hl:kvs.length<j5):Ab H a (kV k) v (upd H a (.dK (putK kvs k v))):=.inl (kvs,k,e,U,hl,U)
variable{Q:B->ϋ->Prop}{h':Heap}{t':Nat}
section
variable{gd:List (J×Obj)}{σ:St}{s:ϋ}{v:V}{r:B}{E:B->ϋ->Prop}
def Inv.big(I:Inv X gd σ H s):sysModules<s.heap.objs.size:=by
 have h:=(I.mod.glob.keeps I.bk).lt;exact U3 (by decide) h
def EB(hu:A.units+1<cLine)(I:Inv X gd σ H s)(g:uJ H a y (Z v))(ry:RelV y u)(h:∀ K s',Inv X gd σ H s'->RelV v K->Q K s') :
  wpAny (model X.prog X.w) A (getItem (.ref a) u) Q E s:=by
 rcases g with⟨kvs,k,e,V,l⟩ |⟨kvs,k,b,e,V,eb,l⟩
 ·subst V;let(z,hd,vs,rel,dd):=CK I.hok e;let(K,hw,q):=ki.some_of (by rw[l];exact rel.val k)
  exact wpAny_getItem_of (Cv ry) dd.mapOf hw (h K _ (I.tok _) q)
 ·subst V
  cases(ry)
  let(z,hd,xs,rel,dd):=HR I.hok e;let(K,hw,q):=ki.some_of (by rw[l];exact rel.val k)
  let(p,hp,P):=j3.mp hw;refine wpAny_getItem_heap (tupleKind_room_in1 hu) (Bj I.hok eb) dd hp ?_;rw[P];exact h K _ (I.tok _) q
def xB{ob:HO}(I:Inv X gd σ H s)(g:Mut (H a))(hs:TN a s.heap h')(he:∃ q,h'.get? a=Z q)(new:cJ X.prog X.w (upd H a ob) h' a ob) :
  Inv X gd σ (upd H a ob) { s with heap:=h',toks:=t' } :=
 I.write g (.inl U) (λb q K z=>(hs.2 b K).trans z) he new
def HU{w:World}{kvs:List (Key×V)}{vs:List (Key×B)}(z:kvs.length<=j5)(hd:(a==sysModules)=ϊ)(rel:KV kvs vs)(dd:h'.DictOf (dg P w) a vs) :
  cJ P w H' h' a (.dK kvs):=(z,hd,vs,rel,dd)
def EA{Q:Unit->ϋ->Prop}(hu:A.units+1<cLine)(I:Inv X gd σ H s)(g:Ab H a y v H')(ry:RelV y u)(rv:RelV v r)(h:∀ s',Inv X gd σ H' s'->Q () s') :
  wpAny (model X.prog X.w) A (setItem (.ref a) u r) Q E s:=by
 rcases g with⟨kvs,k,e,V,l,eH⟩ |⟨kvs,k,b,e,V,eb,l,eH⟩
 ·subst V eH;let(z,hd,vs,rel,dd):=LV I.hok e;have hz:vs.length<=j5:=by rw[<- rel.length];exact z
  have hl:(putK kvs k v).length<=j5:=by have:=kY kvs k v;omega
  refine wpAny_setItem_pairs (Cv ry) dd λh' K hs=>h _ ?_
  have he:∃ q,h'.get? a=Z q:=let(q,_,_,P,_):=K;(q,P)
  exact xB I (by rw[e];exact True.intro) hs he (HU hl hd (rel.put k rv) K)
 ·subst V eH
  cases(ry)
  let(z,hd,xs,rel,dd):=Rm I.hok e;have hz:xs.length<=j5:=by rw[<- Paired.length rel];exact z
  have hl:(putK kvs k v).length<=j5:=by have:=kY kvs k v;lia
  refine wpAny_setItem_heap (hsz:=hz) (tupleKind_room_in1 hu) (Bj I.hok eb) dd λh' K hs=>h _ ?_
  let(q,es,ep,P,h2,h3,h4,_,h5):=K;refine xB I (by rw[e];exact True.intro) hs (q,P) (hl,hd,_,(rel.put k eb rv).keeps λc ys ec=>?_,q,es,ep,P,h2,h3,h4,h5)
  rw[ao (fR ec e (λz=>nomatch z))]
  exact ec
end
section
variable{gd:List (J×Obj)}{σ:St}{s:ϋ}{kvs:List (Key×V)}{E:B->ϋ->Prop}
def Ro(I:Inv X gd σ H s)(e:Rd H a (.dK kvs))(h:∀ t s',Inv X gd σ H s'->Q (.int kvs.length t) s'):wpAny (model X.prog X.w) A (call (.builtin "len") [.ref a]) Q E s:=by
 let(z,hd,vs,rel,dd):=CK I.hok e;refine call_len_dict hd dd (by rw[<- rel.length];rw[Tx]at z;lia) ?_
 rw[<- rel.length];exact h _ _ (I.tok _)
end
def RO(i:Expr):Prop:=∀ g iv,subscripted i ϊ g iv=operate [g,iv] (getItem g iv)
variable{prog:Program}{E:B->ϋ->Prop}{s:ϋ}{env:Env}{value:Expr}
def Jh{w:World}{slice:Expr}{pos:Pos}{T id:String}
  (hl:typeLookup (.type T) "__getitem__" = pure (Z (.builtin id))) (hs:RO slice)
  (h:wpAny (model prog w) A (eval value env) (λo z=>wpAny (model prog w) A (eval slice env) (λi s₂=>s₂.TypeIs o T/\wpAny (model prog w) A (getItem o i) Q E s₂) E z) E s) :
  wpAny (model prog w) A (eval (.Subscript value slice pos) env) Q E s:=by
 refine Subscript_ (OZ h (λo z P=>OZ P (λi s₂ g=>?_) λ_ _ x=>x) λ_ _ x=>x)
 let(hT,g):=g;refine cO ?_;refine cO (T5 hT hl ?_);have fin:wpAny (model prog w) A (subscripted slice ϊ o i) (λr q=>wpAny (model prog w) A (letTemporaryGo value o r >>= λ_=>pure r) Q E q) E s₂:=by
  rw[hs o i];exact wpAny_operating (OZ g (λr q K=>cO (wpAny_letTemporaryGo (ot K))) λ_ _ x=>x)
 exact ot (cO fin)
variable{gd:List (J×Obj)}
def zO{σ:St}{o:Option V}(I:Inv X gd σ H s)(g:uJ H a y o):s.TypeIs (.ref a) "dict":=by
 rcases g with⟨kvs,k,e,_,_⟩ |⟨kvs,k,b,e,_,_,_⟩
 ·let(_,_,vs,_,dd):=CK I.hok e;exact dd.typeIs
 ·let(_,_,xs,_,dd):=HR I.hok e;exact dd.typeIs
def Pe(td ty:TE):TE:=λσ H Q=>td σ H λx H1=>ty σ H1 λy H2=>∃ a v,x = .ref a/\uJ H2 a y (Z v)/\Q v H2
def Pj(td ty tv:TE):TS:=λD σ H=>tv σ H λv H1=>td σ H1 λx H2=>ty σ H2 λy q=>∃ a g,x = .ref a/\Ab q a y v g/\D.nx σ g
section
variable{o i:Expr}{pos pos':Pos}{td ty tv:TE}
def jE(hu:X.A.units+1<cLine)(ho:PE X o td)(hi:PE X i ty)(hs:RO i):PE X (.Subscript o i pos) (Pe td ty):=by
 intro gd s σ H Q I h;refine Jh PySem.F.slot_dict_getitem.lookup hs (thn (ho gd s σ H _ I h) λu s1 (x,H1,I1,V,q1)=>thn (hi gd s1 σ H1 _ I1 q1) λiv s2 z=>?_)
 let(y,H2,K,P,a,v,ex,g,q2):=z;subst ex;obtain rfl:=V;exact(zO K g,EB hu K g P λw' s3 I3 q=>(v,H2,I3,q,q2))
def wA(hu:X.A.units+1<cLine)(ho:PE X o td)(hi:PE X i ty)(hv:PE X value tv)(hs:swapsWith value (Z (.Subscript o i pos')) pos.line X.env=pure ϊ) :
  PS X (.Assign [.Subscript o i pos'] value pos) (Pj td ty tv):=by
 intro gd s σ H D I h;refine wpAny_Assign_Subscript (thn (hv gd s σ H _ I h) λr s1 (v,H1,I1,P,q1)=>thn (ho gd s1 σ H1 _ I1 q1) λu s2 (x,H2,I2,K,V)=>thn (hi gd s2 σ H2 _ I2 V) λiv s3 q=>?_) hs
 let(y,H3,I3,z,a,H4,ex,g,Q):=q;subst ex;obtain rfl:=K;exact EA hu I3 g z P λs4 I4=>(σ,H4,I4,Q)
end
def HV{w:World}(h:Heap)(g:sysModules<h.objs.size):cJ P w H (h.push { cls:=.type "dict",data:=.dict #[] }) h.objs.size (.dK []) :=
 (Fq _,beq_eq_false_iff_ne.mpr (Ne.symm (u4 g)),[],.nil,Heap.DictOf.new h)
def Ai:List (TE×TE)->St->Hp ->(List (V×V)->Hp->Prop)->Prop
 | [],_,H,Q=>Q [] H
 | (tk,tv)::r,σ,H,Q=>tk σ H λx H1=>tv σ H1 λy H2=>Ai r σ H2 λps g=>Q ((x,y)::ps) g
abbrev VV:List (V×V)->List (B×B)->Prop:=Paired λp q=>RelV p.1 q.1/\RelV p.2 q.2
def PPs(X:Cx)(pos:Pos)(keys:List (Option Expr))(values:List Expr)(g:List (TE×TE)):Prop :=
 ∀(gd:List (J×Obj))(s:ϋ)(σ:St)(H:Hp)(Q:List (V×V)->Hp->Prop),Inv X gd σ H s->Ai g σ H Q ->
  wpAny (model X.prog X.w) X.A (evalPairs (pairTrees keys values X.env pos)) (λvs s'=>∃ ps H',Inv X gd σ H' s'/\VV ps vs/\Q ps H') X.xe s
def J3{pos:Pos}:PPs X pos [] [] []:=λgd s σ H Q I h=>pairTrees_nil_walk ([],H,I,.nil,h)
variable{tk:TE}{tv:TE}
def tj{pos:Pos}{k v:Expr}{ks:List (Option Expr)}{vs:List Expr}{g:List (TE×TE)}(hk:PE X k tk)(hv:PE X v tv)(hr:PPs X pos ks vs g) :
  PPs X pos (Z k::ks) (v::vs) ((tk,tv)::g):=λgd s σ H Q I h =>
 pairTrees_cons_walk (thn (hk gd s σ H _ I h) λu s1 (x,H1,I1,z,V)=>thn (hv gd s1 σ H1 _ I1 V) λw2 s2 (y,H2,I2,q,P) =>
  thn (hr gd s2 σ H2 _ I2 P) λws s3 (ps,H3,I3,rel,K)=>((x,y)::ps,H3,I3,.cons (z,q) rel,K))
def pN(kvs more:List (Key×V)):List (Key×V):=more.foldl (λacc g=>putK acc g.1 g.2) kvs
def KV.merge:∀{more:List (Key×V)}{rs:List (Key×B)}{kvs:List (Key×V)}{vs:List (Key×B)},KV more rs->KV kvs vs->KV (pN kvs more) (merged vs rs):=by
 intro more rs kvs vs r
 induction r generalizing kvs vs with
 | nil=>intro q;exact q
 | @cons p q ps qs h t z =>
  intro g;have e:KV (putK kvs p.1 p.2) (stored vs q.1 q.2):=by
   have:=g.put p.1 h.2
   rw[<- h.1];exact this
  exact z e
theorem lV:∀(more kvs:List (Key×V)),(pN kvs more).length<=kvs.length+more.length
 | [],kvs=>by show kvs.length<=kvs.length+0;lia
 | p::r,kvs=>by
  have h1:=lV r (putK kvs p.1 p.2);have h2:=kY kvs p.1 p.2;show(pN (putK kvs p.1 p.2) r).length<=_;rw[mu];lia
theorem ur{P:Program}{w:World}:∀{kvs:List (Key×V)}{ws:List (B×B)},VV (kvs.map λg=>(kV g.1,g.2)) ws->∃ rs,Carries (dg P w) ws rs/\KV kvs rs
 | [],_,r=>by cases r;exact([],True.intro,.nil)
 | p::kvs,_,r=>by
  cases r with
  | @cons a b as bs h t =>
   let(rs,c,q):=ur t;let(b1,b2):=b;exact((p.1,b2)::rs,(Cv h.1,U,c),.cons (U,h.2) q)
def Pd(g:List (TE×TE)):TE:=λσ H Q=>∀ p,H p=Y->Ai g σ (upd H p (.dK [])) λps H2=>H2 p=Z (.dK [])/\∃ kvs:List (Key×V),ps=kvs.map (λq=>(kV q.1,q.2))/\kvs.length<=15/\Q (.ref p) (upd H2 p (.dK (pN [] kvs)))
def J8{pos:Pos}{keys:List (Option Expr)}{values:List Expr}{g:List (TE×TE)}(h:PPs X pos keys values g)(Ou:keys.all (·.isSome)=O)(hl:keys.length=values.length)(h0:keys ≠ [])
  (V:keys.length<=15):PE X (.Dict keys values pos) (Pd g):=by
 intro gd s σ H Q I q;have hn:=I.hok.fresh (lx s.heap.objs.size);have I1:=I.laid (t':=s.toks) (λ_ _ q=>fx _ q) (lx _) (HV s.heap I.big)
 refine wpAny_Dict_walk (knd:=dg X.prog X.w) Ou hl h0 V (thn (h gd _ σ _ _ I1 (q _ hn)) λws s2 P=>?_)
 let(ps,H2,I2,rel,e,kvs,ep,lk,q2):=P;subst ep;let(rs,c,rk):=ur rel;let(z,hd,ah,r0,dd):=LV I2.hok e;cases r0;refine(rs,c,dd,λh' K hs=>(.ref s.heap.objs.size,_,?_,U,q2))
 have hz:(pN [] kvs).length<=j5:=by
  have h1:=lV kvs [];rw[T2]at h1;rw[Tx];lia
 have he:∃ q,h'.get? s.heap.objs.size=Z q:=let(q,_,_,hq,_):=K;(q,hq)
 exact xB I2 (by rw[e];exact True.intro) hs he (HU hz hd (rk.merge .nil) K)
section
def EJ:dN X (.builtin "len") (λxs H Q=>∃ a kvs,xs = [V.ref a]/\H a=Z (.dK kvs)/\Q (.int kvs.length) H):=by
 intro gd s σ H xs us Q I r h;let(a,kvs,U,ha,q):=h;let(u,U,ru):=vals1 r;cases ru;exact Ro I (.inl ha) λt s' g=>(.int kvs.length,H,g,(t,U),q)
end
end L2
set_option maxHeartbeats 4000000
namespace L2
open PySem PySem.Spec PyProof.Rows
def tO{h:Heap}{a:Nat}{o:Obj}(e:h.get? a=Z o):@LT.lt Nat _ a h.objs.size:=kf e
def CV{h:Heap}{a:Nat}{v:Option B}(e:h.IsCell a v):@LT.lt Nat _ a h.objs.size:=e.lt
def nJ{a b:Nat}(h:a<b):@Ne J a b:=u4 h
def Ql{a b:Nat}(h:b<a):@Ne J a b:=O2 h
theorem k9{env:Env}{body:Str×NameKind->List (Str×J)->Sem (ForInStep (List (Str×J)))}
  (Q:∀ n k c,body (n,k) c=if(k==NameKind.free)=O then(cellOf env n >>= λa=>pure (.yield ((n,a)::c)))else pure (.yield c)) :
  ∀(l:List (Str×NameKind))(cs:List (Str×J)),(∀ p∈l,p.2=NameKind.free->∃ c,env.cells.lookup p.1=Z c) ->
   ∃ cl,forIn l cs body=pure cl/\(∀ x c,cl.lookup x=Z c->env.cells.lookup x=Z c\/cs.lookup x=Z c)/\(∀ x,(x,NameKind.free)∈l->∃ c,cl.lookup x=Z c)/\∀ x c,cs.lookup x=Z c->∃ q,cl.lookup x=Z q
 | [],cs,_=>(cs,U,λ_ _ h=>.inr h,λ_ h=>(nomatch h),λ_ c h=>(c,h))
 | (n,k)::r,cs,h=>by
  have hr:=λp hp=>h p (c5 _ hp)
  rw[T3,Q];by_cases K:(k==NameKind.free)=O
  ·rw[if_pos K];have P:=by simpa using K
   let(c,V):=h (n,k) dZ P;have e1:cellOf env n=pure c:=by unfold cellOf;rw[V]
   rw[e1];let(cl,e,h1,h2,h3):=k9 Q r ((n,c)::cs) hr;refine(cl,e,λx q hx=>?_,λx hx=>?_,λx q hx=>?_)
   ·rcases h1 x q hx with z|z
    ·exact .inl z
    ·by_cases g:(x==n)=O
     ·have e3:=by simpa using g
      subst e3;rw[ui,g]at z;cases z;exact .inl V
     ·rw[ui,Pb.mpr g]at z;exact .inr z
   ·rcases i8.mp hx with z|z
    ·have g:x=n:=congrArg Prod.fst z;exact h3 x c (by rw[ui,g,beq_self_eq_true])
    ·exact h2 x z
   ·by_cases g:(x==n)=O
    ·exact h3 x c (by rw[ui,g])
    ·exact h3 x q (by rw[ui,Pb.mpr g];exact hx)
  ·rw[if_neg K];let(cl,e,h1,h2,h3):=k9 Q r cs hr;refine(cl,e,h1,λx hx=>?_,h3)
   rcases i8.mp hx with z|z
   ·cases z;exact absurd U K
   ·exact h2 x z
variable{scope:Scope}{env:Env}
def Bx(h:∀ p∈scope.names,p.2=NameKind.free->∃ c,env.cells.lookup p.1=Z c) :
  ∃ cl:List (Str×J),closureFor scope env=pure cl/\(∀ x c,cl.lookup x=Z c->env.cells.lookup x=Z c)/\∀ x,(x,NameKind.free)∈scope.names->∃ c,cl.lookup x=Z c:=by
 let(cl,e,h1,h2,_):=k9 (body:=λx c=>if(x.2==NameKind.free)=O then(cellOf env x.1 >>= λa=>pure (.yield ((x.1,a)::c)))else pure (.yield c)) (λ_ _ _=>rfl) scope.names [] h
 refine(cl,?_,λx c hx=>(h1 x c hx).elim id λz=>by simp at z,h2)
 have g:closureFor scope env =(forIn scope.names ([]) (λx c=>if(x.2==NameKind.free)=O then(cellOf env x.1 >>= λa=>pure (.yield ((x.1,a)::c)))else pure (.yield c)) >>= λr=>pure r):=by
  simp only[closureFor]
 rw[g,e];rfl
theorem iY{env:Env}:∀{names:List (Str×NameKind)}{x:Str}{k:NameKind},
  (names.map λ(n,k)=>if(k==NameKind.free&&env.scope.kind == .function&&env.kindOf n==Z .cell)then(n,NameKind.cell)else(n,k)).lookup x=Z k ->
   names.lookup x=Z k\/(names.lookup x=Z .free/\k = .cell)
 | [],_,_,h=>by simp at h
 | (n,k0)::r,x,k,h=>by
  have q:=@iY env r x k
  replace h:Tc x ((if(k0==NameKind.free&&env.scope.kind == .function&&env.kindOf n==Z .cell)=O then(n,NameKind.cell)else(n,k0)) ::(r.map λ(n,k)=>if(k==NameKind.free&&env.scope.kind == .function&&env.kindOf n==Z .cell)then(n,NameKind.cell)else(n,k)))=Z k:=h
  cases hx:x==n with
  | true =>
   by_cases g:(k0==NameKind.free&&env.scope.kind == .function&&env.kindOf n==Z .cell)=O
   ·rw[if_pos g]at h;simp only[ui,hx]at h;cases h
    have:=by
     simp only[qp]at g;simpa using g.1.1
    subst this;exact .inr (by simp only[ui,hx],U)
   ·rw[if_neg g]at h;simp only[ui,hx]at h;exact .inl (by simp only[ui,hx];exact h)
  | false =>
   have h':(r.map λ(n,k)=>if(k==NameKind.free&&env.scope.kind == .function&&env.kindOf n==Z .cell)then(n,NameKind.cell)else(n,k)).lookup x=Z k:=by
    by_cases g:(k0==NameKind.free&&env.scope.kind == .function&&env.kindOf n==Z .cell)=O
    ·rw[if_pos g]at h;simpa only[ui,hx]using h
    ·rw[if_neg g]at h;simpa only[ui,hx]using h
   rcases q h' with z|z
   ·exact .inl (by simp only[ui,hx];exact z)
   ·exact .inr (by simp only[ui,hx];exact z)
theorem nc{env:Env}:∀{names:List (Str×NameKind)}{x:Str},names.lookup x=Z .free ->
  (names.map λ(n,k)=>if(k==NameKind.free&&env.scope.kind == .function&&env.kindOf n==Z .cell)then(n,NameKind.cell)else(n,k)).lookup x=Z .free \/
  (names.map λ(n,k)=>if(k==NameKind.free&&env.scope.kind == .function&&env.kindOf n==Z .cell)then(n,NameKind.cell)else(n,k)).lookup x=Z .cell
 | [],_,h=>by simp at h
 | (n,k0)::r,x,h=>by
  have q:=@nc env r x;show Tc x ((if(k0==NameKind.free&&env.scope.kind == .function&&env.kindOf n==Z .cell)=O then(n,NameKind.cell)else(n,k0))::_)=_\/Tc x ((if(k0==NameKind.free&&env.scope.kind == .function&&env.kindOf n==Z .cell)=O then(n,NameKind.cell)else(n,k0))::_)=_
  cases hx:x==n with
  | true =>
   simp only[ui,hx]at h;cases h;by_cases g:(NameKind.free==NameKind.free&&env.scope.kind == .function&&env.kindOf n==Z .cell)=O
   ·rw[if_pos g];simp only[ui,hx];exact .inr trivial
   ·rw[if_neg g];simp only[ui,hx];exact .inl trivial
  | false =>
   simp only[ui,hx]at h;by_cases g:(k0==NameKind.free&&env.scope.kind == .function&&env.kindOf n==Z .cell)=O
   ·rw[if_pos g];simp only[ui,hx];exact q h
   ·rw[if_neg g];simp only[ui,hx];exact q h
inductive oN(X:Cx)(sc:Scope):List Str->List (Option Nat)->Prop
 | nil:oN X sc [] []
 | own{x:Str}{N:List Str}{c:List (Option Nat)}:sc.names.lookup x=Z .local->oN X sc N c->oN X sc (x::N) (Y::c)
 | got{x:Str}{i:Nat}{N:List Str}{c:List (Option Nat)}:X.N[i]? = Z x->sc.names.lookup x=Z .free ->(X.env.kindOf x=Z .cell\/X.env.kindOf x=Z .free)->oN X sc N c->oN X sc (x::N) (Z i::c)
def oj(c:List (Option Nat))(σ:St):St:=c.map λo=>o.bind λ(i:Nat)=>(σ[i]?).join
variable{X:Cx}{sc:Scope}{N:List Str}
def oN.len{c:List (Option Nat)}{σ:St}(h:oN X sc N c):(oj c σ).length=N.length:=by
 unfold oj;rw[gV]
 induction h with
 | nil=>rfl
 | own _ _ g=>simp[g]
 | got _ _ _ _ g=>simp[g]
theorem oN.at{X:Cx}{sc:Scope}{N:List Str}{c:List (Option Nat)}{σ:St}(h:oN X sc N c):∀{j:Nat}{x:Str}{v:V},N[j]? = Z x ->(oj c σ)[j]? = Z (Z v) ->
  ∃ i:Nat,X.N[i]? = Z x/\σ[i]? = Z (Z v)/\sc.names.lookup x=Z .free/\(X.env.kindOf x=Z .cell\/X.env.kindOf x=Z .free):=by
 induction h with
 | nil=>intro j x v h1;simp at h1
 | own _ _ z =>
  intro j x v h1 h2;cases j with
  | zero=>simp[oj]at h2
  | succ j=>exact z (by simpa using h1) (by simpa [oj]using h2)
 | @got y i N c g1 g2 g3 _ z =>
  intro j x v h1 h2;cases j with
  | zero =>
   have e:=by simpa using h1
   subst e;refine(i,g1,?_,g2,g3);have g:=by simpa [oj]using h2
   cases q:σ[i]? with
   | none=>rw[q]at g;cases g
   | some o =>
    rw[q]at g
    have:o=Z v:=g
    rw[this]
  | succ j=>exact z (by simpa using h1) (by simpa [oj]using h2)
def blk(X:Cx)(N':List Str)(sc:Scope)(cl:List (Str×J))(C:J)(s₂:ϋ)(H₂:Hp)(fp:List J):Cx :=
 { X with N:=N',s₀:=s₂,H₀:=H₂,env:=compEnvC sc cl C X.env,outer:=X.stack,ex:=fp,fn:=λ_=>ϊ,pn:=[],xe:=λ_ _=>False }
def PTs(X:Cx)(ifs:List Expr)(t:TT):Prop :=
 ∀(gd:List (J×Obj))(s:ϋ)(σ:St)(H:Hp)(Q:Bool->Hp->Prop),Inv X gd σ H s->t σ H Q ->
  wpAny (model X.prog X.w) X.A (forIn ifs O λc r=>if r=O then do let ok <- isTrue c X.env (eval c X.env);pure (ForInStep.yield ok)else pure (ForInStep.yield r)) (TP X gd σ Q) X.xe s
def BU:TT:=λ_ H Q=>Q O H
def Cb:PTs X [] BU:=λ_ _ _ H _ I h=>wpAny_tests_nil (H,I,h)
def JN{c:Expr}{t:TT}(h:PT X c t):PTs X [c] t:=λgd s σ H Q I q=>wpAny_tests_one (h gd s σ H Q I q)
def L4(g:TG)(tst:TT)(te:TE)(P:St)(Q:VK)(Vn:It)(H1:Hp):Prop :=
 ∃ W:Nat->Nat->List V->St->Hp->Prop,(∃ m,W 0 m [] P H1)/\∀ i m ys z H',W i m ys z H' ->
  (Vn.stop i H'/\ys.length<=j5/\∀ D,H' D=Y->Q (.ref D) (upd H' D (.lst ys))) \/
  (Vn.go i H'/\ys.length<j5/\∃ N:List V->St->Hp->Prop,(∀ K q H2,N K q H2->∃ m',m'<m/\W (i+1) m' K q H2)/\∀ x H2,Vn.yld i H' x H2->g x z H2 λq H3=>tst q H3 λb H4 =>
   if b=O then te q H4 λy H5=>N (ys ++ [y]) q H5 else N ys q H4)
def vk(cap:List (Option Nat))(wi:TI)(g:TG)(tst:TT)(te:TE):TE:=λσ H Q=>wi σ H (L4 g tst te (oj cap σ) Q)
variable{prog:Program}{A:Around}{R:Result->ϋ->Prop}{s:ϋ}{elt:Expr}{iter:Expr}{ifs:List Expr}
def EE{w:World}{target:Expr}{pos:Pos}{it acc:B}(I:Nat->ϋ->Prop)
  (turn:∀ n s,I n s->wpAny (model prog w) A (pyNext it) (λr z=>match r with
   | none=>R (.ok .next) z
   | some v=>wpAny (model prog w) A (letOwnedTupleGo target it v) (λ_ q=>wpAny (model prog w) A (assign target env v) (λ_ s₂ =>
     wpAny (model prog w) A (forIn ifs O λc r=>if r=O then do let ok <- isTrue c env (eval c env);pure (ForInStep.yield ok)else pure (ForInStep.yield r)) (λok g =>
      if ok=O then wpAny (model prog w) A (eval elt env) (λx P =>
       wpAny (model prog w) A (call (.builtin "list.append") [acc,x]) (λ_ K=>∃ m,m<n/\I m K) (λ_ _=>False) P) (λ_ _=>False) g
      else ∃ m,m<n/\I m g) (λ_ _=>False) s₂) (λ_ _=>False) q) (λ_ _=>False) z) (λ_ _=>False) s)
  (n:Nat) (h:I n s) :
  codeAny (model prog w) A (.compLoop (.ListComp elt [(target,iter,ifs,0)] scope pos) 0 it acc env) R s:=by
 refine codeAny_loop U I (λn s hI=>?_) n h
 show wpAny _ A ((compTurn (.ListComp elt [(target,iter,ifs,0)] scope pos) 0 it acc env).onRaise (λx=>do noteFrame x env;theTreesLotGoes x)) _ _ s
 refine wpAny_noted ?_;rw[compTurn_list];refine cO (wpAny_standAt (cO (OZ (turn n s hI) (λr z V=>?_) λ_ _ h'=>h'.elim)))
 cases r with
 | none=>exact ot V
 | some v =>
  refine cO (OZ V (λ_ q ah=>(cO (OZ ah (λ_ s₂ ak=>cO (OZ ak (λok g Q=>?_) λ_ _ h'=>h'.elim)) λ_ _ h'=>h'.elim))) λ_ _ h'=>h'.elim)
  cases ok with
  | false=>exact ot (U,Q)
  | true =>
   exact cO (cO (OZ Q (λx P aj=>cO (OZ aj (λ_ K ai=>ot (ot (U,ai))) λ_ _ h'=>h'.elim)) λ_ _ h'=>h'.elim))
variable{gd:List (J×Obj)}{H:Hp}{tg:Expr}{p:Pos}{N':List Str}{cap:List (Option Nat)}{tst:TT}{te:TE}
def zP{σ:St}{Q:VK}{pos:Pos}{wi:TI}{g:TG}{use:Option (B->Sem Unit)}{Q':B->ϋ->Prop}
  (hc:X.calm=O) (hi:PI X tg iter wi) (jj:sc.kind = .function) (jk:∀ y∈sc.names,y.2 ≠ .cell) (jM:∀ y∈sc.names,y.2 = .local->sc.names.lookup y.1=Z .local)
  (jV:∀ y∈sc.names,y.2 = .free->X.env.kindOf y.1=Z .cell\/X.env.kindOf y.1=Z .free) (u7:oN X sc N' cap)
  (P:∀ cl C s₂ H₂ fp,PG (blk X N' sc cl C s₂ H₂ fp) tg g/\PTs (blk X N' sc cl C s₂ H₂ fp) ifs tst/\PE (blk X N' sc cl C s₂ H₂ fp) elt te)
  (I:Inv X gd σ H s) (h:vk cap wi g tst te σ H Q)
  (fin:∀ D C m H' s',Inv X gd σ H' s'->vf X gd H' C->s'.heap.Ns C m->Q (.ref D) H'->compPost (model X.prog X.w) X.A X.xe use Q' (.ref D) C (.ok .next) s')
  (hs:∀ x,foldedSetIterable iter X.env x=pure x) :
  wpAny (model X.prog X.w) X.A (comprehension (.ListComp elt [(tg,iter,ifs,0)] sc pos) sc X.env p (newList []) ϊ (eval iter X.env) use) Q' X.xe s:=by
 let(cl,Rb,zF,Rc):=Bx (scope:=sc) (env:=X.env) λq hq e=>I.ok.has q.1 (jV q hq e)
 refine wpAny_comprehension_free U hs Rb jj jM (thn (hi gd s σ H _ I h) λv s1 h1=>thn h1 λcI s2 h2=>?_)
 let(it,fp,tn,Vn,H2,e,I2,T,aG,f2,W,(m0,w0),turn):=h2;subst e;refine TH (wpAny_newFunctionEnv jk (by intro y hy;simp at hy) (λak KU Hw=>?_) jj)
 dsimp only at KU Hw ⊢
 generalize aS:s2.heap.push { cls:=.type "list",dict:=Y,data:=.seq ([]:List B).toArray }=HP at KU Hw ⊢
 have hC:HP.objs.size=s2.heap.objs.size+1:=by rw[<- aS,z8]
 obtain⟨D,ai⟩:∃ D:Nat,s2.heap.objs.size=D:=(_,U)
 obtain⟨C,cv⟩:∃ C:Nat,HP.objs.size=C:=(_,U)
 rw[ai]at hC;rw[cv]at hC KU Hw ⊢;rw[ai];have aH:@Ne J D C:=nJ (by omega)
 have old:∀ b o,s2.heap.get? b=Z o->ak.get? b=Z o:=λb o e =>
  Hw.extBut b o (nJ (by have:=tO e;omega)) (fx _ (aS▸fx _ e))
 have kc:ak.get? D=Z { cls:=.type "list",data:=.seq ([]:List B).toArray 0 } :=
  Hw.extBut _ _ aH (fx _ (by rw[<- aS,<- ai];exact oF _ U))
 have bw:(blk X N' sc cl C s2 H2 fp).Ok:=by
  refine(I.ok.mod,jj,I.ok.glob,I.ok.blt,(by show s2.heap.objs.size<=C;omega),λx y c h1 h2=>I.ok.inj x y c (zF x c h1) (zF y c h2),λx hx=>?_,λx c hx=>(nomatch hx),I.ok.hd,I.ok.frames,.inl U,λb P=>?_,
   λb o e=>I2.bs b o e,uj I2.ok.bsz I2.sz,λb o e P=>?_,λb P=>?_,I2.stack,I2.r8)
  ·have b8:sc.names.lookup x=Z .free:=by
    rcases hx with hx|hx
    ·rcases iY hx with z|z
     ·exact absurd U (jk _ (PySem.mem_of_lookup z))
     ·exact z.1
    ·rcases iY hx with z|z
     ·exact z
     ·exact z.1
   exact Rc x (PySem.mem_of_lookup b8)
  ·let(o,ho,_):=T.obj _ _ aG b P;refine(?_,λx c e=>(f2 b P).2.2.2.2.1 x c (zF x c e))
   show @Ne J b C
   have:=tO ho
   exact nJ (by omega)
  ·let(_,_,_,z,_):=f2 b P;rcases z with z|z
   ·exact I2.ok.Ha b o e z
   ·have:=tO (show X.base.get? b=Z o from e)
    have:=I2.ok.bsz
    omega
  ·intro ct;rcases i8.mp (I2.oW b ct)with z|z
   ·exact(f2 b P).2.1 z
   ·exact(f2 b P).2.2.1 z
 have nD:H2 D=none:=I2.hok.fresh (by rw[ai];exact lx _)
 have bK:=P cl C s2 H2 fp
 generalize V:blk X N' sc cl C s2 H2 fp=XB at bw bK
 have eP:XB.prog=X.prog:=by rw[<- V];rfl
 have eW:XB.w=X.w:=by rw[<- V];rfl
 have eK:XB.K=X.K:=by rw[<- V];rfl
 have eA:XB.A=X.A:=by rw[<- V];rfl
 have eE:XB.env=compEnvC sc cl C X.env:=by rw[<- V];rfl
 have eX:XB.xe=λ_ _=>False:=by rw[<- V];rfl
 have aK:XB.fs=frs X.stack:=by rw[<- V];rfl
 have a4:XB.ex=fp:=by rw[<- V];rfl
 have eS:XB.s₀=s2:=by rw[<- V];rfl
 have eH:XB.H₀=H2:=by rw[<- V];rfl
 have a3:XB.pn = []:=by rw[<- V];rfl
 have bT:XB.calm=true:=by rw[<- V];exact hc
 have eN:XB.N=N':=by rw[<- V];rfl
 have eL:XB.env.locals=C:=by rw[eE];rfl
 have ax:XB.env.cells=cl:=by rw[eE];rfl
 have S2:∀(x:Str)(c:Nat),cl.lookup x=Z c->c<D:=λx c e=>by
  let(v,z):=I2.cell x c (zF x c e)
  have:=CV z
  omega
 have b0:∀(b:Nat),D<=b->b ∉ XB.fs:=λb P z=>by
  rw[aK]at z;let(_,o,ho,_):=I2.stack.mem z
  have:=tO ho
  omega
 have a0:∀(b:Nat),b∈fp->b<D:=λb P=>by
  let(o,ho,_):=T.obj _ _ aG b P
  have:=tO ho
  omega
 have loop:∀ s3:ϋ,s3 ={ s2 with heap:=ak,toks:=s2.toks+([]:List (Str×B)).length } ->
   codeAny (model X.prog X.w) X.A (.compLoop (.ListComp elt [(tg,iter,ifs,0)] sc pos) 0 (.ref it) (.ref D) (compEnvC sc cl C X.env)) (compPost (model X.prog X.w) X.A X.xe use Q' (.ref D) C) s3:=by
  rintro s3 rfl
  refine EE (λn s'=>∃ i ys bt H' its k,Inv XB [] bt H' s'/\tn i s'.heap/\(∀ b∈fp,H' b=Y)/\H' D=Y/\s'.heap.get? D=Z { cls:=.type "list",data:=.seq (its:List B).toArray k }/\Vals ys its/\W i n ys bt H') ?_ m0
   (0,[],oj cap σ,H2,[],0,?_,T.keep _ _ _ aG λb P o e=>old b o e,λb P=>(f2 b P).1,nD,kc,.nil,w0)
  ·rintro n s4 ⟨i,ys,aj,H4,its,k,I4,bu,bR,d4,o4,v4,w4⟩
   have aX:∀{H':Hp}{pl:List (J×Obj)},(∀ b∈fp,H' b=Y) ->(∀ q∈pl,q.1 ∉ fp)->∀ b∈fp,vf XB pl H' b:=λ{H' pl} hn ck b P=>by
    refine(hn b P,?_,?_,.inl (by rw[a4];exact P),λx c e=>?_,λq hq=>?_)
    ·rw[eL];have:=a0 b P;exact nJ (by omega)
    ·rw[aK];intro z;rcases i8.mp (I2.oW b z)with z|z
     ·exact(f2 b P).2.1 z
     ·exact(f2 b P).2.2.1 z
    ·rw[ax]at e;exact(f2 b P).2.2.2.2.1 x c (zF x c e)
    ·rw[a3]at hq;intro z;exact ck q (by simpa using hq) (z▸P)
   have pD:∀ q ∈ [(Prod.mk D ({ cls:=.type "list",data:=.seq its.toArray k }:Obj))],q.1 ∉ fp:=λq hq=>by
    have e:q=_:=bB.mp hq;subst e;intro z
    have:=a0 _ z
    omega
   have a7:Inv XB [(D,{ cls:=.type "list",data:=.seq its.toArray k })] aj H4 s4:=I4.nB λq hq=>by
    have e:q=_:=bB.mp hq;subst e;refine(o4,d4,?_,b0 _ (lx _),λv=>by simp)
    rw[eL];exact aH
   have Tq:=a7;rw[<- eA,<- eP,<- eW];rcases turn i n ys aj H4 w4 with⟨stop,hz,qn⟩ |⟨go,hz,N,hN,step⟩
   ·rw[<- eP,<- eW,<- eK]at T;refine OZ (T.done XB U U U bT i _ s4 aj H4 (λ_ _=>False) a7 (aX bR pD) bu stop) (λr s5 (hr,I5)=>?_) λ_ _ z=>z
    subst hr;rw[eP,eW,eA];let(o5,n5,_):=I5.pin (D,{ cls:=.type "list",data:=.seq its.toArray k }) (j0 _ (bB.mpr U));have u5:Un (frs X.stack) fp H2 H4 s2.heap s5.heap:=by
     have z:=I5.base;rw[aK,a4,eH,eS]at z;exact z
    have b4:∀ b o,s2.heap.get? b=Z o -> @Ne J b D:=λb o e=>nJ (by have:=tO e;omega)
    have ne5:∀ b u,H4 b=Z u->b≠D:=λb u e z=>by rw[z,d4]at e;cases e
    have cn:HOk X.prog X.w H4 s5.heap:=by
     have z:=I5.hok;rw[eP,eW]at z;exact z
    have SY:=fin D C;let(mC,bL,_):=id I5.loc;rw[eL]at bL;have IX:Inv X gd σ (upd H4 D (.lst ys)) s5:=by
     refine I2.LY (s':=s5) (ch:=fp) ?_ (u5.keep,u5.slot,λb o e n hx=>?_,u5.there,λb xs e=>?_,λb o u e=>?_,λb ps e=>?_) ?_ I5.bare λb P=>((f2 b P).2.2.2.1,(f2 b P).2.1,(f2 b P).2.2.2.2.1,(f2 b P).2.2.2.2.2)
     ·have z:=I5.os;rw[eS]at z;exact z
     ·rw[ao (b4 b o e)];exact u5.free b o e n hx
     ·have z:=u5.rg b xs e;rw[ao (ne5 b _ z)];exact z
     ·have z:=u5.nT b o u e;rw[ao (ne5 b _ z)];exact z
     ·let(more,z):=u5.rh b ps e;exact(more,by rw[ao (ne5 b _ z)];exact z)
     ·intro a o e;by_cases ha:a=D
      ·subst ha;rw[aB]at e;cases e;exact(hz,its,k,v4,o5)
      ·rw[ao ha]at e;exact(cn a o e).c6 (λ_ _ _ q=>q) (λb q=>by rw[ao (ne5 b _ q)];exact q) λb xs q=>by rw[ao (ne5 b _ q)];exact q
    refine SY mC _ s5 IX ?_ bL (qn D d4);have cA:H4 C=none:=by
     have z:=I5.free;rw[eL]at z;exact z
    refine(by rw[ao (Ne.symm aH)];exact cA,?_,?_,.inr ?_,λx c e=>?_,λq hq=>?_)
    ·have:@LT.lt Nat _ X.env.locals s2.heap.objs.size:=I2.lt
     exact Ql (by omega)
    ·exact I2.Qk (by rw[ai];omega)
    ·have:=I2.sz;omega
    ·let(v,z):=I2.cell x c e
     have:=CV z
     exact nJ (by omega)
    ·have:=tO (I2.pin q hq).1
     exact nJ (by omega)
   ·have T':=T;rw[<- eP,<- eW,<- eK]at T';refine OZ (T'.item XB U U U bT i _ s4 aj H4 (λ_ _=>False) a7 (aX bR pD) bu go) (λr s5 (u,hr,h5)=>?_) λ_ _ z=>z
    subst hr;refine thn h5 λ_ s6 ah=>?_
    let(x,H6,I6,r6,y6,aM,cE):=ah;have cH:=I6.pinned (aX cE pD) (T.obj _ _ aM);let(cp,b9,cq):=bK;rw[<- eE];have bA:=cp _ s6 aj H6 x u _ cH r6 (step x H6 y6);rw[eX]at bA;refine thn bA λ_ s7 ah=>?_
    let(aA,H7,I7,q7):=ah;have bx:=b9 _ s7 aA H7 _ I7 q7;rw[eX]at bx;refine thn bx λb s8 ah=>?_
    let(H8,I8,q8):=ah;have back:∀{bo:St}{H9:Hp}{s9:ϋ},Inv XB ([(D,{ cls:=.type "list",data:=.seq its.toArray k })]++tm fp s6.heap) bo H9 s9->tn (i+1) s9.heap/\(∀ b∈fp,H9 b=Y)/\H9 D=Y/\s9.heap.get? D=Z { cls:=.type "list",data:=.seq its.toArray k }:=λ{bo H9 s9} I9=>by
     have z:=I9.pin (D,{ cls:=.type "list",data:=.seq its.toArray k }) (j0 _ (oE _ (bB.mpr U)));refine(T.keep _ _ _ aM λb P o e=>(I9.pin (b,o) (j0 _ (j0 _ (ip P e)))).1,λb P=>?_,z.2.1,z.1)
     let(o,e,_):=T.obj _ _ aM b P;exact(I9.pin (b,o) (j0 _ (j0 _ (ip P e)))).2.1
    cases b with
    | false =>
     rw[if_neg qd]at q8 ⊢;let(m',hm,w8):=hN _ _ _ q8;let(t1,t2,t3,t4):=back I8;exact(m',hm,i+1,ys,aA,H8,its,k,I8.nB (λq hq=>nomatch hq),t1,t2,t3,t4,v4,w8)
    | true =>
     rw[if_pos rfl]at q8 ⊢;have bD:=cq _ s8 aA H8 _ I8 q8;rw[eX]at bD;refine thn bD λyv s9 ah=>?_
     let(y,H9,I9,r9,n9):=ah;let(m',hm,w9):=hN _ _ _ n9;let(t1,t2,t3,t4):=back I9;have hsz:its.toArray.size<=j5:=by
      have e:=v4.length;have e2:its.toArray.size=its.length:=by simp
      omega
     refine append_at (hsz:=hsz) t4 λh' bz cu=>?_
     ·refine(m',hm,i+1,ys ++ [y],aA,H9,its ++ [yv],k+1,?_,T.keep _ _ _ t1 λb P o e=>bz.extBut b o (nJ (a0 b P)) e,t2,t3,?_,v4.append (.cons r9 .nil),w9)
      ·refine(I9.nB (pins':=[]) (λq hq=>nomatch hq)).turned (t':=s9.toks) (it:=D) (λb o P e=>bz.extBut b o P e) t3 ?_ (.inr ?_) (λx c e=>?_) λq hq=>?_
       ·rw[eL];exact aH
       ·rw[eS];omega
       ·rw[ax]at e;exact nJ (S2 x c e)
       ·rw[a3]at hq;exact nomatch hq
      ·rw[cu];simp
  ·
   refine(bw,by rw[eS],I2.bare,by rw[aK,a4,eH,eS];exact Un.kept old,(_,by rw[eL];exact KU,λj x v h1 h2 h3=>?_),λx c e=>?_,?_,λx c e=>?_,λq hq=>?_,by rw[eP,eW];exact I2.hok.kept old,by rw[eN];exact u7.len)
   ·rw[eN]at h1;let(i,g1,g2,g3,g4):=u7.at h1 h2;let(m,hn,hl):=I2.loc;have hv:Vis X.env.scope x:=by
     rcases g4 with z|z
     ·exact .inr (.inl z)
     ·exact .inr (.inr z)
    let(u,r,l):=hl i x v g1 g2 hv;refine(u,r,.inr (?_,?_))
    ·rw[eE];exact(nc g3).symm
    ·rcases l with⟨hk,_⟩ |⟨_,c,e,z⟩
     ·rcases g4 with y|y
      ·rw[y]at hk;cases hk
      ·rw[y]at hk;cases hk
     ·let(c',e'):=Rc x (PySem.mem_of_lookup g3)
      have:=zF x c' e'
      rw[e]at this;cases this;let(o,ho,hd):=z;exact(c,by rw[ax];exact e',o,old c o ho,hd)
   ·rw[ax]at e;let(v,o,ho,hd):=I2.cell x c (zF x c e);exact(v,o,old c o ho,hd)
   ·rw[eL];exact I2.hok.fresh (by rw[ai];omega)
   ·rw[ax]at e;exact I2.jW x c (zF x c e)
   ·rw[a3]at hq;exact nomatch hq
 exact codeAny_compStart_list (loop _ U) (T.self X.A 0 _ _ _ (T.keep _ _ _ aG λb P o e=>old b o e) (loop _ U))
def CF(h:(sc.names.all λy=>y.2 != .free ||(X.env.kindOf y.1==Z .cell||X.env.kindOf y.1==Z .free))=O) :
  ∀ y∈sc.names,y.2 = .free->X.env.kindOf y.1=Z .cell\/X.env.kindOf y.1=Z .free:=λy g e=>by
 have z:=z7.mp h y g;rw[e]at z;simpa using z
def Ck{pos:Pos}{wi:TI}{g:TG}
  (hc:X.calm=O) (hi:PI X tg iter wi) (V:oN X sc N' cap)
  (P:∀ cl C s₂ H₂ fp,PG (blk X N' sc cl C s₂ H₂ fp) tg g/\PTs (blk X N' sc cl C s₂ H₂ fp) ifs tst/\PE (blk X N' sc cl C s₂ H₂ fp) elt te)
  (jj:sc.kind = .function:=by rfl) (jk:∀ y∈sc.names,y.2 ≠ .cell:=by decide) (jM:∀ y∈sc.names,y.2 = .local->sc.names.lookup y.1=Z .local:=by decide)
  (jV:(sc.names.all λy=>y.2 != .free ||(X.env.kindOf y.1==Z .cell||X.env.kindOf y.1==Z .free))=true:=by rfl)
  (hs:∀ x,foldedSetIterable iter X.env x=pure x:=by intro _;rfl):PE X (.ListComp elt [(tg,iter,ifs,0)] sc pos) (vk cap wi g tst te):=by
 intro gd s σ H Q I h;exact zP (use:=Y) hc hi jj jk jM (CF jV) V P I h (λD C m H' s' I' z hn q=>((m,hn,λh' K=>(.ref D,H',(I'.turned (t':=s'.toks) (it:=C) (λb o P e=>K.extBut b o P e) z.1 z.2.1.symm.symm z.2.2.2.1 z.2.2.2.2.1 z.2.2.2.2.2),U,q)))) hs
variable{i:Nat}{eQ:Pos}{py:Pos}
def Ce{y:Str}{pos:Pos}{wi:TI}{g:TG}
  (hN:X.N.Nodup) (ah:X.N[i]? = Z y) (hy:Loc X.env.scope y)
  (hc:X.calm=O) (hi:PI X tg iter wi) (u7:oN X sc N' cap)
  (K:∀ cl C s₂ H₂ fp,PG (blk X N' sc cl C s₂ H₂ fp) tg g/\PTs (blk X N' sc cl C s₂ H₂ fp) ifs tst/\PE (blk X N' sc cl C s₂ H₂ fp) elt te)
  (Q:swapsWith (.ListComp elt [(tg,iter,ifs,0)] sc pos) (Z (.Name y py)) eQ.line X.env=pure true:=by rfl)
  (hf:X.fn y=O\/X.env.scope.names.lookup y=Z .local:=by first|exact .inl rfl|exact .inr rfl|assumption)
  (jj:sc.kind = .function:=by rfl) (jk:∀ y∈sc.names,y.2 ≠ .cell:=by decide) (jM:∀ y∈sc.names,y.2 = .local->sc.names.lookup y.1=Z .local:=by decide)
  (jV:(sc.names.all λy=>y.2 != .free ||(X.env.kindOf y.1==Z .cell||X.env.kindOf y.1==Z .free))=true:=by rfl)
  (hs:∀ x,foldedSetIterable iter X.env x=pure x:=by intro _;rfl):PS X (.Assign [.Name y py] (.ListComp elt [(tg,iter,ifs,0)] sc pos) eQ) (mW (vk cap wi g tst te) (gP i)):=by
 intro gd s σ H Dn I h;rw[exec_Assign_Name_used _ _ _ _ Q];refine cO (wpAny_standAt (cO ?_));refine cO (OZ (zP hc hi jj jk jM (CF jV) u7 K I h (λD C m H' s' I' P hn q=>?_) hs)
  (λ_ s' hq=>ot (ot hq)) λ_ _ e=>e)
 let(o,es,ep,ho,hd,hr):=id hn;have I2:=I'.pinned (λb K=>by rw[bB.mp K];exact P) λb K=>by
  rw[bB.mp K];exact(o,ho,λv=>by rw[hd];simp)
 refine wpAny_assign_Name (kA I2 hN ah hy (v:=.ref D) U (λs2 I3=>?_) hf)
 have z:=(I3.pin (C,o) (j0 _ (j0 _ (ip (bB.mpr U) ho)))).1;refine(m,(o,es,ep,z,hd,hr),λh' V=>(_,H',?_,q))
 exact I3.mV.turned (λb o K e=>V.extBut b o K e) P.1 P.2.1 P.2.2.2.1 P.2.2.2.2.1 P.2.2.2.2.2
variable{a:J}{P:Program}{it:J}{n:Nat}{Q:B->ϋ->Prop}{E:B->ϋ->Prop}
section
theorem vF{K:W.Frag}{xs:List V}{g:TG}{σ:St}{Q:VK}(Pv:Nat->List V->St->Hp->Prop)(h0:Pv 0 [] σ H)
  (hl:∀ i ys σ H,i<=xs.length->Pv i ys σ H->SqL K H a xs/\ys.length<j5)
  (hs:∀ i x ys σ H,xs[i]? = Z x->Pv i ys σ H->g x σ H λz H3=>tst z H3 λb H4=>if b=O then te z H4 λy H5=>Pv (i+1) (ys ++ [y]) z H5 else Pv (i+1) ys z H4)
  (hd:∀ ys σ H,Pv xs.length ys σ H->∀ D,H D=Y->Q (.ref D) (upd H D (.lst ys))) :
  L4 g tst te σ Q (Itl K a) H:=by
 refine(λi m ys σ H=>m=xs.length - i/\i<=xs.length/\Pv i ys σ H,(xs.length,by simp,Fq _,h0),?_)
 rintro i m ys σ H ⟨rfl,hi,p⟩
 let(q,hz):=hl i ys σ H hi p;by_cases P:i<xs.length
 ·refine .inr ((xs,xs[i],q,by simp[P]),hz,Pv (i+1),λai ah H' p'=>(xs.length - (i+1),by lia,U,P,p'),λx H' y=>?_)
  let(e,y):=y;subst e;exact hs i x ys σ _ (y xs q) p
 ·have e:i=xs.length:=by omega
  subst e;exact .inl ((xs,q,lx _),rV hz,hd ys σ H p)
theorem uP{w:World}{K:W.Frag}{Vn:It}{Pv:Nat->B->Prop}{St:Nat->Heap->Prop}
  (W:∀ A:Around,A.handled=Y->Walks P w A it [it] [it] n Pv St)
  (En:∀ i h,St i h->∃(o:Obj)(N:String)(vs:Array B),h.get? it=Z o/\o.cls = .type N/\o.data = .fields vs /\
   ["enumerate","zip","dict_itemiterator","dict_reverseitemiterator","odict_iterator","itertools.zip_longest","itertools.pairwise"].contains N=ϊ)
  (QZ:∀(A:Around)(i:Nat)(s:ϋ)(Q:B->ϋ->Prop)(E:B->ϋ->Prop),St i s.heap->Q (.ref it) s->wpAny (model P w) A (pyIter (.ref it)) Q E s)
  (z:∀ i H,Vn.go i H->i<n) (QY:∀ i H,Vn.stop i H->i=n) (hy:∀ i H v,i<n->Pv i v->∃ x,RelV x v/\Vn.yld i H x H):Turn P w K tg Vn [it] it St where
 mem:=by simp
 obj:=λi h st b g=>by
  rw[bB.mp g];let(o,N,vs,h1,_,h3,_):=En i h st;exact(o,h1,λv=>by rw[h3];simp)
 keep:=λi h h' st k=>(W { (callerA:Around)with handled:=Y } rfl).frame i h h' st λb g o e=>k b g o e
 item:=by
  intro X e1 e2 e3 hc i gd s σ H E I hf st go;subst e1 e2 e3;refine(W X.A (I.ok.hd hc)).item i s _ _ (z i H go) st λv h' tk hP q V=>(v,U,?_)
  let(x,rx,yx):=hy i H v (z i H go) hP;let(o,N,vs,h1,h2,h3,h4):=En _ _ q;let(f1,f2,f3,f4,f5,f6):=hf it (by simp)
  refine zG (s:={ s with heap:=h',toks:=tk }) h1 h2 h3 h4 (x,H,I.turned (t':=tk) (it:=it) (λb o g e=>V b o (by simpa using g) e) f1 f2 f4 f5 f6,rx,yx,q,λb g=>?_)
  rw[bB.mp g];exact f1
 done:=by
  intro X e1 e2 e3 hc i gd s σ H E I hf st stop;subst e1 e2 e3;have e:=QY i H stop;subst e;refine(W X.A (I.ok.hd hc)).done s _ _ st λh' tk V=>(U,?_)
  let(f1,f2,f3,f4,f5,f6):=hf it (by simp)
  exact I.turned (t':=tk) (it:=it) (λb o g e=>V b o (by simpa using g) e) f1 f2 f4 f5 f6
 self:=QZ
def Its(z:Str):It:=(λi _=>i<z.cps.size,λi H x H'=>H'=H/\∃ c,z.cps[i]? = Z c/\x = .str ⟨#[c]⟩,λi _=>i=z.cps.size)
def QP(tl:TE):TI:=λσ H R=>tl σ H λx H1=>∃ z,x = .str z/\R (Its z) H1
def Dx{w:World}(g:A.handled=Y)(it:J)(z:Str)(t:Tok):Walks P w A it [it] [it] z.cps.size (SignAt z) (λi h=>h.IsStrIter it (strIterType z) z t i):=by
 unfold strIterType
 split
 ·exact Walks.strAscii g it z t
 ·exact Walks.strWide g it z t
def Fl{w:World}{z:Str}{t:Tok}(st:s.heap.IsStrIter it (strIterType z) z t i)(q:Q (.ref it) s):wpAny (model P w) A (pyIter (.ref it)) Q E s:=by
 unfold strIterType at st
 split at st
 ·exact wpAny_pyIter_striter_ascii st q
 ·exact wpAny_pyIter_striter_wide st q
theorem E9{w:World}{K:W.Frag}(it:J)(z:Str)(t:Tok):Turn P w K tg (Its z) [it] it (λi h=>h.IsStrIter it (strIterType z) z t i) :=
 uP (λA g=>Dx g it z t)
  (λi h st=>by
   let(o,h1,h2,h3):=st;refine(o,_,_,h1,h2,h3,?_);unfold strIterType
   split <;> decide)
  (λA i s Q E st q=>Fl st q) (λi H h=>h) (λi H h=>h) λi H v hi hp=>by
   let(c,u,h1,U):=hp;exact(.str ⟨#[c]⟩,(_,U),U,c,h1,U)
def Nn{l:Expr}{tl:TE}(hl:PE X l tl):PI X tg l (QP tl):=by
 intro gd s σ H R I h;refine thn (hl gd s σ H _ I h) λv s1 g=>?_
 let(x,H1,K,P,Q):=g;let(z,e,q):=Q;subst e;let(t,U):=P;refine wpAny_pyIter_strU ?_;refine(s1.heap.objs.size,[s1.heap.objs.size],_,_,H1,U,K.kept (t':=s1.toks) λb o e=>fx _ e,E9 _ z t,(_,oF _ U,U,U),λb V=>?_,q)
 have e:b=s1.heap.objs.size:=by simpa using V
 subst e;exact K.Eu (lx _) (K.hok.fresh (lx _))
inductive Pn(x:V)(lo:Option Int)(hi:Option Int)(H:Hp)(Q:VK):Prop
 | mk(z:_)(h1:x = .str z)(h2:z.length<=j5)(h3:Q (.str (Txt.slice z lo hi)) H)
def Mu:SlR X Pn:=by
 intro gd s σ H x v vl vu lo hi sl Q I V hs pl pu h;let(z,U,g,q):=h;let(t,U):=V;refine("str",_,PySem.F.slot_str_getitem.lookup,typeIs_str s z t,?_);let(o,h1,h2,h3):=hs;have fin:∀ y t' k,y=Txt.slice z lo hi->EP X gd σ Q (.str y t') { s with toks:=k }:=λy t' k e=>by subst e;exact(.str _,H,I.tok k,(_,U),q)
 cases pl with
 | none =>
  cases pu with
  | none=>exact wpAny_getItem_str_slice (l:=Y) (u:=Y) (st:=Y) (o,h1,h2,h3) U (post_val_or_str (uj (Txt.slice_le z _ _) g,λt' k=>fin _ t' k U))
  | int j K=>exact wpAny_getItem_str_slice (l:=Y) (u:=Z (j,K)) (st:=Y) (o,h1,h2,h3) U (post_val_or_str (uj (Txt.slice_le z _ _) g,λt' k=>fin _ t' k U))
 | int i P =>
  cases pu with
  | none=>exact wpAny_getItem_str_slice (l:=Z (i,P)) (u:=Y) (st:=Y) (o,h1,h2,h3) U (post_val_or_str (uj (Txt.slice_le z _ _) g,λt' k=>fin _ t' k U))
  | int j K=>exact wpAny_getItem_str_slice (l:=Z (i,P)) (u:=Z (j,K)) (st:=Y) (o,h1,h2,h3) U (post_val_or_str (uj (Txt.slice_le z _ _) g,λt' k=>fin _ t' k U))
def sI{ys:List Str}:∀{us:List B},Vals (ys.map V.str) us->StrsAre us ys:=by
 induction ys with
 | nil=>intro us r;cases r;exact .nil
 | cons n ns z =>
  intro us r;cases r with
  | cons q g =>
   let(t,e):=q;subst e;exact .cons n t (z g)
inductive rJoin(K:W.Frag)(x:V)(xs:List V)(H:Hp)(Q:VK):Prop
 | mk(sep l ys:_)(h1:x = .str sep)(h2:xs = [.ref l])(h3:SqL K H l (ys.map V.str))(h4:(ys.map (·.length)).sum+ys.length*sep.length<=16777216)(h5:Q (.str (Txt.join sep ys)) H)
def Kw:MtR X "str.join" (rJoin X.K):=by
 intro gd s σ H x xs v us Q I g rs h;let(sep,l,ys,U,U,hl,hw,q):=h;let(t,U):=g;let(u,U,ru):=Vals.one rs;cases ru;let(its,r,pl,z):=I.list hl;exact join_list pl.isList (by simpa using sI r) hw λt' k=>(.str _,H,I.tok k,(_,U),q)
def Je{bs:List Bool}:∀{us:List B}{i:Nat}{v:B},Vals (bs.map V.bl) us->us[i]? = Z v->∃ b,bs[i]? = Z b/\v = .bool b:=by
 induction bs with
 | nil=>intro us i v r h;cases r;simp at h
 | cons b bs z =>
  intro us i v r h;cases r with
  | cons q g =>
   cases i with
   | zero =>
    simp only[List.getElem?_cons_zero,Option.some.injEq]at h;subst h;exact(b,by simp,q)
   | succ i =>
    let(c,h1,h2):=z g (by simpa using h)
    exact(c,by simpa using h1,h2)
def all_range(bs:List Bool):(Tp bs.length).all (λi=>bs.getD i ϊ)=bs.all id:=by
 have e:(Tp bs.length).map (λi=>bs.getD i ϊ)=bs:=by
  apply List.ext_getElem
  ·simp
  ·intro i h1 h2;simp at h1;simp[h1]
 conv=>rhs;rw[<- e]
 rw[UK];rfl
def Im(hc:X.calm=O):dN X (.builtin "all") (λxs H Q=>∃(l:J)(bs:List Bool),xs = [.ref l]/\SqL X.K H l (bs.map V.bl)/\Q (.bl (bs.all id)) H):=by
 intro gd s σ H xs us Q I r h;let(l,bs,U,hl,q):=h;let(u,U,ru):=vals1 r;cases ru;let(its,z,pl,hz):=I.list hl;have g:l<s.heap.objs.size:=by let(_,e,_):=pl.isList;exact kf e
 have hlen:its.toArray.size=bs.length:=by
  have e:=z.length;rw[gV]at e;simp[e]
 refine call_all_walk (wpAny_pyIter_list pl.isList ((s.heap.objs.size,[s.heap.objs.size,l],[s.heap.objs.size],its.toArray.size,_,_,λi=>bs.getD i ϊ,U,Walks.list (show X.A.in1.handled=Y from I.ok.hd hc) s.heap.objs.size l (u4 g) its.toArray,((_,oF _ U,U,U),pl.isList.push _),?_,λh' tk hk=>?_)))
 ·intro i v s' Q' E' hP P;let(b,h1,U):=Je z (by simpa using hP)
  have e:bs.getD i ϊ=b:=by simp[h1]
  exact wpAny_truthy_bool (e▸P)
 ·refine(.bl _,H,I.kept λb o e=>hk b o (by simpa using u4 (kf e)) (fx _ e),U,?_)
  rw[hlen,all_range];exact q
theorem Il:dN X (.builtin "isinstance") (λxs H Q=>∃ x T t b,xs = [x,.ty T]/\lP X.K H x t/\W.kitOne X.K t (.type T)=Z b/\Q (.bl b) H):=by
 intro gd s σ H xs us Q I r h;let(x,T,t,b,U,ty,e,q):=h;let(u,z,U,ru,g):=vals2 r;cases g;exact Ei I ru ty e λtk=>(.bl b,H,I.tok tk,U,q)
end
variable{I:J}{fp:List J}{ty:String}
section
variable{w:World}
def D7:typeLookup (.type "list_reverseiterator") "__len__" = pure none:=by kernel_rfl
def Hz:typeLookup (.type "list_reverseiterator") "__length_hint__" = pure (Z (.builtin "list_reverseiterator.__length_hint__")):=by kernel_rfl
def Hh{Q:Bool->ϋ->Prop}(hT:s.TypeIs (.ref I) "list_reverseiterator")(z:∀ b tk,s.toks<=tk->Q b { s with toks:=tk }):wpAny (model prog w) A (Builtin.List.listLengthHint (.ref I)) Q E s:=by
 refine cO (T5 hT D7 ?_);refine cO (T5 hT Hz ?_)
 generalize g:("list_reverseiterator.__length_hint__")=q
 wp_delta
 rw[show splitId q=Z ("list_reverseiterator","__length_hint__")from by subst g;decide +kernel]
 subst g;refine cO (Up (b:=O) hT (by kernel_rfl) ?_)
 exact ot (z _ _ (lx _))
theorem zL{R:Result->ϋ->Prop}{wr:List J}{P:Nat->B->Prop}{St:Nat->Heap->Prop}(W:Walks prog w A.in1 I fp wr n P St)(hT:∀ i (s:ϋ),St i s.heap->s.TypeIs (.ref I) ty)
  (ak:(B.type ty == .type "list" || Value.type ty == .type "tuple")=ϊ) (aj:∀ x ∈ ["set","frozenset","dict","dict_keys","dict_values","dict_items"],(B.type ty == .type x)=ϊ)
  (hint:∀(s:ϋ)(Q:Bool->ϋ->Prop)(E:B->ϋ->Prop),St 0 s.heap ->(∀ b tk,s.toks<=tk->Q b { s with toks:=tk })->wpAny (model prog w) A.in1 (Builtin.List.listLengthHint (.ref I)) Q E s)
  (S:J) (res:B) (c₀:Nat) (q:St 0 s.heap) (ah:S ∉ fp) (hI:I∈fp) (hS:s.heap.get? S=Z { cls:=.type "list",data:=.seq #[] c₀ })
  (hR:∀ s' rL K,Moved (S::wr) (λg g'=>g'=g) s s'->s'.heap.get? S=Z { cls:=.type "list",dict:=Y,data:=.seq rL K,slots:=#[] }->ItemsOf P rL n->R (.ok (.ret res)) s') (hn:n<=j5) :
  wpAny (model prog w) A.in1 (Builtin.List.listExtendWith (.ref S) (.ref I) res)
   (λfin s'=>match fin with | .done f=>R (.ok f) s' | .again K=>K.quiet=O/\codeAny (model prog w) A K R s') (λe s'=>R (.error e) s') s:=by
 have ax:S≠I:=λe=>ah (e▸hI)
 have h1:Builtin.List.listSameRef (.ref S) (.ref I)=false:=by simp[Builtin.List.listSameRef,ax]
 refine cO (TU (hT 0 _ q) ?_);rw[if_neg (by rw[Bool.or_assoc,h1,ak];decide)]
 refine cO (W.self 0 _ _ _ q (cO (O0 (hint _ _ _ q λb tk htk=>?_))))
 have tail:∀ h' V c,s.toks<=V ->(∀ b o,b≠S->s.heap.get? b=Z o->h'.get? b=Z o)->h'.get? S=Z { cls:=.type "list",dict:=Y,data:=.seq #[] c,slots:=#[] } ->
   wpAny (model prog w) A.in1 (again (.builtin "list.extend.loop" ([.ref S,.ref I,res],[]))) (λfin s'=>match fin with | .done f=>R (.ok f) s' | .again K=>K.quiet=O/\codeAny (model prog w) A K R s') (λe s'=>R (.error e) s') { s with heap:=h',toks:=V }:=by
  intro h' V c ht hk aG;exact ot (UY F.plain_extend_loop _,codeAny_extend_loopS W.toS hn _ ah _ n 0 _ _ _ U (Fq _) (W.frame 0 s.heap _ q λb hb o e=>hk b o (λz=>ah (z▸hb)) e) aG (ItemsOf.nil P) λs' rL K hm SW kc=>hR s' rL K (λb o hb e=>hm.heap b o hb (hk b o (λz=>hb (by rw[z];exact dZ)) e),hm.gens,hm.drawn,hm.os,uj ht hm.toks) SW kc)
 cases b with
 | false =>
  rw[if_neg ?_]
  ·exact tail _ _ _ htk (λ_ _ _ e=>e) hS
  ·intro z;rw[Bool.false_or,UD]at z;let(x,hx,hz):=z;rw[aj x hx]at hz;cases hz
 | true =>
  refine cO (T9 (cO ?_));refine cO (SO hS U ?_);have ai:=xR (Fs (·.push B.none)) hS U;refine SO ai U ?_;have aA:=xR (Fs (·.pop)) ai U;exact tail _ _ _ htk (λb o hb e=>(xO _ _ (Ne.symm hb)).trans ((xO _ _ (Ne.symm hb)).trans e)) aA
theorem uu{wr:List J}{P:Nat->B->Prop}{St:Nat->Heap->Prop}(W:Walks prog w A.in1.in1 I fp wr n P St)(hT:∀ i (s:ϋ),St i s.heap->s.TypeIs (.ref I) ty)
  (aj:(B.type ty == .type "list" || Value.type ty == .type "tuple")=ϊ) (ai:∀ x ∈ ["set","frozenset","dict","dict_keys","dict_values","dict_items"],(B.type ty == .type x)=ϊ)
  (hint:∀(s:ϋ)(Q:Bool->ϋ->Prop)(E:B->ϋ->Prop),St 0 s.heap ->(∀ b tk,s.toks<=tk->Q b { s with toks:=tk })->wpAny (model prog w) A.in1.in1 (Builtin.List.listLengthHint (.ref I)) Q E s)
  (ak:St 0 s.heap) (ax:∀ b∈fp,b<s.heap.objs.size) (hI:I∈fp)
  (hQ:∀ s' rL c',Moved (s.heap.objs.size::wr) (λg g'=>g'=g) { s with heap:=s.heap.push { cls:=.type "list",data:=.seq #[] } } s' ->
   s'.heap.get? s.heap.objs.size=Z { cls:=.type "list",dict:=Y,data:=.seq rL c',slots:=#[] }->ItemsOf P rL n->Q (.ref s.heap.objs.size) s') (hn:n<=j5) :
  wpAny (model prog w) A (call (.type "list") [.ref I]) Q E s:=by
 have ah:=λhm=>Ti _ (ax _ hm)
 refine callType_codes (Q₁:=λobj q=>obj = .ref s.heap.objs.size/\q ={ s with heap:=s.heap.push { cls:=.type "list",data:=.seq #[] } }) F.called_list (F.typeCall_list_1 _) F.entry_list_init (code_list_new _ (U,U)) λobj q V=>?_
 let(U,U):=V;have hS:(s.heap.push { cls:=.type "list",data:=.seq #[] }).get? s.heap.objs.size=Z { cls:=.type "list",data:=.seq #[] }:=oF _ U;refine((_,hS,U),F.args_list_init_2 _ _,?_);refine cO ?_;refine cO (wpAny_seqItems hS U (ot ?_));refine cO (SO hS U ?_);have aA:=xR (Fs (λ_=>(#[]))) hS U
 have oth:∀ b o,b≠s.heap.objs.size ->(s.heap.push { cls:=.type "list",data:=.seq #[] }).get? b=Z o ->((s.heap.push { cls:=.type "list",data:=.seq #[] }).update s.heap.objs.size (Fs (λ_=>(#[])))).get? b=Z o :=
  λb o K e=>(xO _ _ (Ne.symm K)).trans e
 exact zL (hn:=hn) W hT aj ai hint s.heap.objs.size .none _ (W.frame 0 s.heap _ ak λb K o e=>oth b o (λz=>ah (z▸K)) (fx _ e)) ah hI aA λs' rL c' hm aG kc=>((U,hQ s' rL c' (λb o K e=>hm.heap b o K (oth b o (λz=>K (by rw[z];exact dZ)) e),hm.gens,hm.drawn,hm.os,hm.toks) aG kc))
end
def sH(K:W.Frag)(te:TE):TE:=λσ H Q=>te σ H λx H1=>∃ l ys,x = .ref l/\SqL K H1 l ys/\∀ q,H1 q=Y->Q (.ref q) (upd H1 q (.lst ys.reverse))
def E5{its:Array B}{acc:Array B}{ys:List V}(r:Vals ys its.toList)(h:ItemsOf (λi v=>its[its.size - 1 - i]? = Z v) acc its.size):Vals ys.reverse acc.toList:=by
 have e:acc.toList=its.toList.reverse:=by
  apply List.ext_getElem?
  intro i;by_cases hi:i<its.size
  ·have h1:i<acc.size:=by rw[h.1];exact hi
   have h2:=h.2 i acc[i] (by simp[h1])
   rw[UP (by simpa using hi)]
   simp only[Ts,Uj];rw[h2];simp[h1]
  ·have h1:¬ i<acc.size:=by rw[h.1];exact hi
   rw[So (by simpa using h1),So (by simpa using hi)]
 rw[e];exact Vals.reverse r
def Ec{σ:St}{Q:VK}{ob:Obj}{l:J}{tk:Nat}{P:Nat->B->Prop}{St:Nat->Heap->Prop}{ys:List V}(I:Inv X gd σ H s)(aj:l<s.heap.objs.size)(W:Walks X.prog X.w X.A.in1.in1 s.heap.objs.size [s.heap.objs.size,l] [s.heap.objs.size] n P St)(hT:∀ i (s':ϋ),St i s'.heap->s'.TypeIs (.ref s.heap.objs.size) ty)
  (ah:(B.type ty == .type "list" || Value.type ty == .type "tuple")=ϊ) (K:∀ x ∈ ["set","frozenset","dict","dict_keys","dict_values","dict_items"],(B.type ty == .type x)=ϊ)
  (hint:∀(s':ϋ)(Q:Bool->ϋ->Prop)(E:B->ϋ->Prop),St 0 s'.heap ->(∀ b tk,s'.toks<=tk->Q b { s' with toks:=tk })->wpAny (model X.prog X.w) X.A.in1.in1 (Builtin.List.listLengthHint (.ref s.heap.objs.size)) Q E s')
  (ai:St 0 (s.heap.push ob)) (hv:∀ acc,ItemsOf P acc n->Vals ys acc.toList) (hz:ys.length<=j5) (hn:n<=j5) (q:∀ p,H p=Y->Q (.ref p) (upd H p (.lst ys))) :
  wpAny (model X.prog X.w) X.A (call (.type "list") [.ref s.heap.objs.size]) (EP X gd σ Q) X.xe { s with heap:=s.heap.push ob,toks:=tk }:=by
 refine uu W hT ah K hint ai (λb g=>?_) (by simp) (λs' rL c' hm ak kc=>?_) hn
 ·rw[z8];rcases i8.mp g with z|z
  ·rw[z];exact Tt _
  ·rw[bB.mp z];exact U4 aj
 ·rw[Moved.eq_with hm];have kp:=λb o e=>hm.heap b o (λz=>by
   have g:@LT.lt Nat _ b s.heap.objs.size:=kf e;rcases i8.mp z with z|z
   ·rw[z]at g;simp only[z8]at g
    lia
   ·rw[bB.mp z]at g
    lia) (fx _ (fx _ e))
  have hf:H ((s.heap.push ob).objs.size)=none:=I.hok.fresh (by rw[z8];omega)
  exact(.ref _,_,I.laid (o:=.lst ys) kp (by rw[z8];omega) (hz,rL.toList,c',hv rL kc,by simpa using ak),U,q _ hf)
variable{e:Expr}
def tw{p1 p2 gF pos:Pos}(hc:X.calm=O)(aj:Gl X "list")(ah:X.mg "list" = Y)(ai:Gl X "reversed")(V:X.mg "reversed" = Y)(he:PE X e te)
  (g:iS [e] X.env = [(ϊ,eval e X.env)]:=by rfl) (P:iS [.Call (.Name "reversed" p2) [e] [] gF] X.env = [(ϊ,eval (.Call (.Name "reversed" p2) [e] [] gF) X.env)]:=by rfl) :
  PE X (.Call (.Name "list" p1) [.Call (.Name "reversed" p2) [e] [] gF] [] pos) (sH X.K te):=by
 intro gd s σ H Q I h;refine Ob (i6 I aj ah boot_list (PyProof.Rows.callWith_type1 ?_ P U));show wpAny _ _ (spliced ((ϊ,eval (.Call (.Name "reversed" p2) [e] [] gF) X.env)::backTo pos (iS [] X.env))) _ _ s;refine Calls.spliced_cons (Ob (i6 I ai V boot_reversed (PyProof.Rows.callWith_type1 ?_ g U)));rw[g];refine Calls.spliced_cons (thn (he gd s σ H _ I h) λu s1 ak=>?_)
 let(x,H1,I1,r1,l,ys,ex,hl,q):=ak;subst ex;cases r1;refine Calls.spliced_nil ?_;let(its,rv,pl,hz):=I1.list hl;have z:l<s1.heap.objs.size:=by let(_,e,_):=pl.isList;exact kf e
 refine call_reversed_list pl.isList (Calls.spliced_nil ?_);have W:=Walks.listRev (prog:=X.prog) (w:=X.w) (A:=X.A.in1.in1) (I.ok.hd hc) s1.heap.objs.size l (u4 z) its.toArray;exact Ec I1 z W (λi s' st=>st.2.1.typeIs) (by decide) (by decide) (λs' Q' E' st hq=>Hh st.2.1.typeIs hq) (Fq _,(_,oF _ U,U,by simp[revObj]),pl.isList.push _) (λacc h=>E5 (by simpa using rv) h) (by rw[QX];exact hz) (by rw[qi,<- rv.length];exact hz) q
variable{x:Str}
section
def GS{y:Str}{pos:Pos}(hg:Gl X x)(hm:∃ t,X.mg x=Z (.str y t))(hd:(x ==("__debug__":Str))=false:=by decide):PE X (.Name x pos) (tC (.str y)):=by
 let(t,e):=hm;exact wH hg e (t,U) hd
def GU{y:J}{pos:Pos}(hg:Gl X x)(hm:X.mg x=Z (.ref y))(hd:(x ==("__debug__":Str))=false:=by decide):PE X (.Name x pos) (tC (.ref y)):=wH hg hm U hd
def GV{y:Int}{pos:Pos}(hg:Gl X x)(hm:∃ t,X.mg x=Z (.int y t))(hd:(x ==("__debug__":Str))=false:=by decide):PE X (.Name x pos) (tC (.int y)):=by
 let(t,e):=hm;exact wH hg e (t,U) hd
def RQ(_ j:Int):Prop:=0<j/\j<18446744073709551616
def G6:OpR X (binaryOp .FloorDiv) (rI RQ λi j=>.int (i / j)):=opI λi j _ _ _ _ _ g q=>by
 let(h1,h2):=g;have e:i.fdiv j=i / j:=Int.fdiv_eq_ediv_of_nonneg _ (by lia)
 refine floordiv_int (by lia) (by rw[e];exact q) (.inl (PyProof.noPylong_of_log2 ?_))
 have h3:j.natAbs<2 ^ 64:=by omega
 have h4:j.natAbs≠0:=by lia
 exact U3 ((Nat.log2_lt h4).mpr h3) (by decide)
def DA{ys:List Str}{its:Array B}(v:Vals (ys.map V.str) its.toList)(h:ys.length<=1000:=by decide):its.size<=j5:=by
 have e:=v.length;rw[gV]at e;have g:its.toList.length=its.size:=by simp
 have:(1000:Nat)<=j5:=by decide
 omega
end
def dk(s n:Int)(l:J):List (Key×V):=[(.inr "seed",.int s),(.inr "number",.int n),(.inr "left",.ref l)]
def Ez{s n:Int}{l:J}:mT (dk s n l) (.inr "number":Key)=Z (.int n):=by kernel_rfl
def La{s n:Int}{l:J}:mT (dk s n l) (.inr "left":Key)=Z (.ref l):=by kernel_rfl
def AR{s n m:Int}{l:J}:putK (dk s n l) (.inr "number":Key) (.int m)=dk s m l:=by kernel_rfl
def GC{s n m:Int}{l:J}:putK (dk s n l) (.inr "seed":Key) (.int m)=dk m n l:=by kernel_rfl
structure dM(H:Hp)(d l:J)(s n:Int)(ls:List Int):Prop where
 hd:H d=Z (.dK (dk s n l))
 hl:H l=Z (.lst (ls.map V.int))
 s0:0<=s
 s1:s<2147483647
 n0:0<=n
 l0:∀ x∈ls,0<=x
def oK(H:Hp)(d l:J):Prop:=∃ s n ls,dM H d l s n ls
def Kp(d l:J)(H H':Hp):Prop:=∀ b o,H b=Z o->b≠d->b≠l->H' b=Z o
variable{d:J}
def Kp.refl{l:J}:Kp d l H H:=λ_ _ h _ _=>h
def dM.ne{l:J}{s n:Int}{ls:List Int}(D:dM H d l s n ls):d≠l:=fR D.hd D.hl (by intro z;cases z)
def dM.num{l:J}{s n m:Int}{ls:List Int}(D:dM H d l s n ls)(h:0<=m):dM (upd H d (.dK (putK (dk s n l) (.inr "number":Key) (.int m)))) d l s m ls :=
 (by rw[aB,AR],by rw[ao D.ne.symm];exact D.hl,D.s0,D.s1,h,D.l0)
def dM.R3{l:J}{s n m:Int}{ls:List Int}(D:dM H d l s n ls)(h:0<=m)(h2:m<2147483647):dM (upd H d (.dK (putK (dk s n l) (.inr "seed":Key) (.int m)))) d l m n ls :=
 (by rw[aB,GC],by rw[ao D.ne.symm];exact D.hl,h,h2,D.n0,D.l0)
def dM.list{l:J}{s n:Int}{ls ls':List Int}(D:dM H d l s n ls)(h:∀ x∈ls',0<=x):dM (upd H l (.lst (ls'.map V.int))) d l s n ls' :=
 (by rw[ao D.ne];exact D.hd,aB,D.s0,D.s1,D.n0,h)
variable{H1:Hp}
def Kp.L7{l:J}{o:HO}(a:Kp d l H H1):Kp d l H (upd H1 d o):=λc u h h1 h2=>by rw[ao h1];exact a c u h h1 h2
def Kp.RR{l:J}{o:HO}(a:Kp d l H H1):Kp d l H (upd H1 l o):=λc u h h1 h2=>by rw[ao h2];exact a c u h h1 h2
def mR.new{p:J}{o:HO}(a:mR H H1)(hp:H1 p=Y):mR H (upd H1 p o):=λc u h=>by
 have z:=a c u h;rw[ao (aQ z hp)];exact z
def oK.new{l p:J}{o:HO}(D:oK H d l)(hp:H p=Y):oK (upd H p o) d l:=by
 let(s,n,ls,D):=D;exact(s,n,ls,by rw[ao (aQ D.hd hp)];exact D.hd,by rw[ao (aQ D.hl hp)];exact D.hl,D.s0,D.s1,D.n0,D.l0)
inductive Fo(vs:List V)(H:Hp)(Q:VK)(_:XK):Prop
 | mk(d l:J)(m:Int)(h1:vs = [.ref d,.int m])(h2:oK H d l)(h3:0<m)(h4:m<18446744073709551616)(h5:∀(r:Int)(H':Hp),0<=r->r<m->oK H' d l->Kp d l H H'->Q (.int r) H')
inductive Ms(K:W.Frag)(vs:List V)(H:Hp)(Q:VK)(_:XK):Prop
 | mk(a:J)(ns:List Int)(b:Int)(h1:vs = [.ref a,.int b])(h2:SqL K H a (ns.map V.int))(h3:ns.length<=63)(h4:0<=b)(h5:b<=63)(h6:∀(d l:J)(H':Hp),H d=Y->H l=Y->oK H' d l->mR H H'->Q (.ref d) H')
variable{D:Ends}
def Dp{c:TT}{tb:TS}{σ:St}(I:Nat->St->Hp->Prop){m:Nat}(h0:I m σ H)(q:∀ m σ H,I m σ H->D.nx σ H)
  (hs:∀ m σ H,I m σ H->D.nx σ H->c σ H λb H1=>if b=O then ∃ N:St->Hp->Prop,(∀ g H',N g H'->∃ m',m'<m/\I m' g H')/\tb { D with nx:=N,ct:=N,bk:=D.nx } σ H1 else D.nx σ H1):vZ c tb D σ H :=
 (I,(m,h0),λm σ H h=>hs m σ H h (q m σ H h))
def dM.HD{l:J}{s n:Int}{ls:List Int}(D:dM H d l s n ls):uJ H d (.str "seed") (Z (.int s)):=by
 have z:=uJ.k (k:=(Sum.inr "seed")) D.hd;exact z
def dM.Rj{l:J}{s n:Int}{ls:List Int}(D:dM H d l s n ls):uJ H d (.str "number") (Z (.int n)):=by
 have z:=uJ.k (k:=(Sum.inr "number")) D.hd;rw[Ez]at z;exact z
def dM.LR{l:J}{s n:Int}{ls:List Int}(D:dM H d l s n ls):uJ H d (.str "left") (Z (.ref l)):=by
 have z:=uJ.k (k:=(Sum.inr "left")) D.hd;rw[La]at z;exact z
def dM.P7{l:J}{s n m:Int}{ls:List Int}(D:dM H d l s n ls):Ab H d (.str "number") (.int m) (upd H d (.dK (putK (dk s n l) (.inr "number":Key) (.int m)))) :=
 Ab.k (k:=(Sum.inr "number")) D.hd (bb (by show 3<=1000;decide))
def dM.P1{l:J}{s n m:Int}{ls:List Int}(D:dM H d l s n ls):Ab H d (.str "seed") (.int m) (upd H d (.dK (putK (dk s n l) (.inr "seed":Key) (.int m)))) :=
 Ab.k (k:=(Sum.inr "seed")) D.hd (bb (by show 3<=1000;decide))
def mod_lt{x m:Int}(h:0<m):0<=x % m/\x % m<m:=(Int.emod_nonneg _ (by lia),Int.emod_lt_of_pos _ h)
end L2
namespace L2
def Ii(ns:List Int)(lo hi:Option Int):∃ cs:List Int,oh (ns.map V.int) lo hi=cs.map V.int/\cs.length<=ns.length:=by
 refine((ns.drop (HT.sIx ns.length 0 lo)).take (HT.sIx ns.length ns.length hi - HT.sIx ns.length 0 lo),?_,?_)
 ·unfold oh;rw[gV,<- List.map_drop,<- List.map_take]
 ·rw[BJ,TQ];exact uj (UC _ _) (UJ _ _)
variable{ns:List Int}{i:Nat}
def int_at{x:V}(h:(ns.map V.int)[i]? = Z x):∃ z,x = .int z:=by
 rw[qx]at h;cases e:ns[i]? with
 | none=>rw[e]at h;cases h
 | some z=>rw[e]at h;exact(z,(Option.some.inj h).symm)
def KQ{x:V}(h:(ns.map V.int)[i]? = Z x):∃ z,x = .int z/\z∈ns:=by
 rw[qx]at h;cases e:ns[i]? with
 | none=>rw[e]at h;cases h
 | some z=>rw[e]at h;exact(z,(Option.some.inj h).symm,u3 e)
end L2
namespace L2
open PySem
def OG{α:Type}{xs:List α}{i:Int}(h0:0<=i)(h1:i<xs.length):∃ v,atI xs i=Z v/\v∈xs:=by
 obtain⟨n,rfl⟩:∃ n:Nat,i=n:=(i.toNat,by lia)
 have h2:n<xs.length:=by lia
 refine(xs[n],?_,List.getElem_mem h2);unfold atI ixN;simp[h2]
variable{n:Nat}
def ja(h:n<=10000):n<=j5:=by
 have:(10000)<=j5:=by decide
 lia
end L2
namespace L2
end L2
namespace L2
open PySem PySem.Spec PyProof.Rows
def strOf:Expr->Option Str
 | .Constant (.str x) _ _=>Z x
 | _=>Y
def strsOf:List Expr->Option (List Str)
 | []=>Z []
 | e::r=>(strOf e).bind λx=>(strsOf r).map (x :: ·)
variable{e:Expr}{x:Str}
def Dy(h:strOf e=Z x):∃ j p,e = .Constant (.str x) j p:=by
 cases e with
 | Constant c j p=>cases c with
  | str y=>cases h;exact(j,p,U)
  | _=>cases h
 | _=>cases h
variable{X:Cx}{es:List Expr}
def Kb:∀{ws:List Str},strsOf es=Z ws->PA X es (λ_ H Q=>Q (ws.map V.str) H):=by
 induction es with
 | nil=>intro ws h;cases h;exact eT
 | cons e es q =>
  intro ws h;let(x,h1,h2):=UE.mp h;let(g,h3,U):=j3.mp h2;let(j,p,U):=Dy h1;exact bj fB (q h3)
end L2
namespace L2
variable{i:Nat}{H:Hp}
def K3{x:V}{σ:St}{A Vm:St->Hp->Prop}(h:A (σ.set i (Z x)) H):gP i x σ H λg z=>BU g z λb q=>if b=O then A g q else Vm g q:=by
 show if O=O then A (σ.set i (Z x)) H else Vm (σ.set i (Z x)) H
 exact h
end L2
namespace L2
end L2
namespace L2
open PySem PySem.Spec PyProof.Rows
section
variable{X:Cx}
def mj(z:Str)(n:Nat):Str:=⟨(uA n z.cps).foldl (· ++ ·) #[]⟩
theorem yp(c:Array Nat):∀(n:Nat)(acc:Array Nat),((uA n c).foldl (· ++ ·) acc).size=acc.size+n*c.size
 | 0,acc=>by simp
 | n+1,acc=>by
  rw[List.replicate_succ,List.foldl_cons,yp c n,U5,Nat.add_mul]
  lia
def nO(z:Str)(n:Nat):(mj z n).length=n*z.length:=by
 have h:=yp z.cps n #[];simpa [mj,Str.length]using h
def A0:OpR X (binaryOp .Mult) (λx y H Q=>∃ z n,x = .str z/\y = .int n/\0<=n/\n<=1000/\z.length<=1000/\Q (.str (mj z n.toNat)) H):=by
 intro gd s σ H x y v u Q I V K h;let(z,n,U,U,n0,n1,hz,q):=h;let(t,U):=V;let(t',U):=K;have fin:∀(y:Str)(t' k:Nat),y=mj z n.toNat->EP X gd σ Q (.str y t') { s with toks:=k }:=λy t' k e=>by subst e;exact(.str _,H,I.tok k,(_,U),q)
 have hp:=by
  have h1:(z.length:Int)*n<=1000*n:=Int.mul_le_mul_of_nonneg_right (by omega) n0
  omega
 refine P.mul_str ?_ (λh1 _=>?_) (λh1 _=>?_) ?_
 ·rw[decide_eq_false (by omega),decide_eq_false (by omega)];rfl
 ·have h2:(1000:Int) <=(2 ^ 63 - 1) / n:=by
   rw[Int.le_ediv_iff_mul_le (by omega)]
   omega
  omega
 ·have h2:=by
   have e:((z.length*n.toNat:Nat):Int) =(z.length:Int)*n:=by rw[Int.natCast_mul,TV n0]
   omega
  have:=Tx
  exact decide_eq_false (by omega)
 ·by_cases h1:n<1
  ·rw[if_pos h1];have e:n.toNat=0:=by omega
   exact(by decide,fin _ _ _ (by rw[e];rfl))
  ·rw[if_neg h1];by_cases h2:(n==1||z.length==0)=O
   ·rw[if_pos h2];refine fin z t s.toks ?_;have h3:=by simpa using h2
    rcases h3 with h3|h3
    ·subst h3;show z =⟨#[]++z.cps⟩;simp
    ·have e1:z.cps = #[]:=by simpa [Str.length]using h3
     have g:=nO z n.toNat;rw[h3]at g;have e3:=by simpa [Str.length]using g
     exact Str.ext' (by rw[e1,e3])
   ·rw[if_neg h2];refine(?_,fin _ _ _ U);have e:=nO z n.toNat;have h3:=by
     have e:((n.toNat*z.length:Nat):Int) =(z.length:Int)*n:=by rw[Int.natCast_mul,TV n0,Int.mul_comm]
     omega
    have:=Tx
    show(mj z n.toNat).length<=j5;omega
end
end L2
namespace L2
open PySem
def Be(n:Nat):Nat:=97+n % 26
end L2
namespace L2
open PySem
end L2
namespace L2
open PySem PySem.Spec PyProof.Rows
inductive Tr where
 | s(x:Str)|i (n:Int)|b (v:Bool)|n|t (xs:List Tr)
abbrev Mk1:=Str×List Str
abbrev Kd:=Str×List Mk1
variable{it:J}{i:Nat}{items:Array B}{Q:B->ϋ->Prop}{h':Heap}{tp:Bool}{z:J}{i1:J}{i2:J}{l1:J}{l2:J}{t1:Bool}{t2:Bool}{k1:Nat}{k2:Nat}{xs:Array B}{ys:Array B}
section
variable{prog:Program}{w:World}{A:Around}{E:B->ϋ->Prop}{s:ϋ}
theorem uY{t:J}{x:B}(hit:s.heap.IsTupleIter it t i)(z:s.heap.IsTuple t items)(hx:items[i]? = Z x)
  (P:∀ h',h'.IsTupleIter it t (i+1)->TN it s.heap h'->Q x { s with heap:=h' }):wpAny (model prog w) A (Builtin.SmallTypes.nextOf (.ref it)) Q E s:=by
 let(o,ho,K,hd):=id hit;let(ol,g,_,nl,q):=z;refine cO (wpAny_callSpecial?_slot hit.typeIs F.slot_tuple_iterator_next
  (C5 F.slot_tuple_iterator_next hit.typeIs F.entry_tuple_iterator_next ?_ (F.args_tuple_iterator_next_1 _)))
 show wpAny _ _ (field (.ref it) 0 >>= _) _ _ s;refine cO (wpAny_field ho hd U ?_);refine cO (wpAny_field ho hd U ?_);refine cO (wpAny_seqItems g q ?_);simp only[U6,hx];refine cO (Ui ho hd (by simp) (ot (x,U,ot (P _ ?_ (Heap.SameBut.update ..)))))
 exact(_,xR _ ho (TC (Q9 hd _)),(U7 ..).trans K,by
  rw[Q9 hd];simp[rawInt])
theorem wW{t:J}(K:A.handled=Y)(hit:s.heap.IsTupleIter it t i)(z:s.heap.IsTuple t items)(hx:items[i]? = Y)
  (P:∀ h' e,Vi it s.heap h' ->(∃ o,h'.get? e=Z o/\o.cls = .type "StopIteration")->E (.ref e) { s with heap:=h' }):wpAny (model prog w) A (Builtin.SmallTypes.nextOf (.ref it)) Q E s:=by
 let(o,ho,V,hd):=id hit;let(ol,g,_,nl,q):=z;refine cO (wpAny_callSpecial?_slot hit.typeIs F.slot_tuple_iterator_next
  (C5 F.slot_tuple_iterator_next hit.typeIs F.entry_tuple_iterator_next ?_ (F.args_tuple_iterator_next_1 _)))
 show wpAny _ _ (field (.ref it) 0 >>= _) _ _ s;refine cO (wpAny_field ho hd U ?_);refine cO (wpAny_field ho hd U ?_);refine cO (wpAny_seqItems g q ?_);simp only[U6,hx];refine cO (T9 (cO (Ui ho hd (by simp) ?_)))
 refine cO ?_;refine cO (m:=firstArgMember _ _) (wpAny_of_eq (by rfl) ?_)
 refine TH ?_ (by size_fits)
 refine cO (wpAny_handled ?_);rw[K];exact cO (ot (wpAny_throw (P _ _ (((Heap.SameBut.update ..).extBut.push _).push _) (_,oF _ U,U))))
def aV(h:Heap)(tp:Bool)(it l:J)(k:Nat):Prop:=if tp=O then h.IsTupleIter it l k else h.IsListIter it l k
def a9(h:Heap)(tp:Bool)(l:J)(items:Array B):Prop:=if tp=O then h.IsTuple l items else h.IsList l items
def aV.at{h:Heap}{l:J}{k:Nat}(x:aV h tp it l k)(e:∀ o,h.get? it=Z o->h'.get? it=Z o):aV h' tp it l k:=by
 cases tp with
 | true=>let(o,ho,r):=(x);exact((o,e o ho,r))
 | false=>let(o,ho,r):=(x);exact((o,e o ho,r))
def a9.at{h:Heap}{l:J}(x:a9 h tp l items)(e:∀ o,h.get? l=Z o->h'.get? l=Z o):a9 h' tp l items:=by
 cases tp with
 | true=>let(o,ho,r):=(x);exact((o,e o ho,r))
 | false=>let(o,ho,r):=(x);exact((o,e o ho,r))
def aV.obj{h:Heap}{l:J}{k:Nat}(x:aV h tp it l k):∃ o,h.get? it=Z o/\∀ v,o.data ≠ .cell v:=by
 cases tp with
 | true=>let(o,ho,_,hd):=(x);exact(o,ho,λv=>by rw[hd];simp)
 | false=>let(o,ho,_,hd):=(x);exact(o,ho,λv=>by rw[hd];simp)
def next_item{l:J}{x:B}(hit:aV s.heap tp it l i)(hl:a9 s.heap tp l items)(hx:items[i]? = Z x)
  (g:∀ h',aV h' tp it l (i+1)->TN it s.heap h'->Q x { s with heap:=h' }):wpAny (model prog w) A (Builtin.SmallTypes.nextOf (.ref it)) Q E s:=by
 cases tp with
 | true=>exact uY hit hl hx g
 | false=>exact wpAny_nextOf_list_item hit hl hx g
def next_end{l:J}(g:A.handled=Y)(hit:aV s.heap tp it l i)(hl:a9 s.heap tp l items)(hx:items[i]? = Y)
  (q:∀ h' e,Vi it s.heap h' ->(∃ o,h'.get? e=Z o/\o.cls = .type "StopIteration")->E (.ref e) { s with heap:=h' }):wpAny (model prog w) A (Builtin.SmallTypes.nextOf (.ref it)) Q E s:=by
 cases tp with
 | true=>exact wW g hit hl hx q
 | false=>exact wpAny_nextOf_list_end g hit hl hx q
theorem EW{TI TO:J}{x y a b:B}{Q:Option B->ϋ->Prop}(D:ZipApart z TI TO i1 i2 l1 l2)
  (hz:IsZip s.heap z TI TO .none) (bz:IsPair s.heap TI (.ref i1) (.ref i2)) (bx:IsPair s.heap TO a b)
  (h1:aV s.heap t1 i1 l1 k1) (h2:aV s.heap t2 i2 l2 k2) (bw:a9 s.heap t1 l1 xs) (bu:a9 s.heap t2 l2 ys) (hx:xs[k1]? = Z x) (hy:ys[k2]? = Z y)
  (hQ:∀ h',IsZip h' z TI TO (rawInt s.heap.objs.size)->IsPair h' TO x y->aV h' t1 i1 l1 (k1+1)->aV h' t2 i2 l2 (k2+1)->IsPair h' s.heap.objs.size x y->h'.objs.size=s.heap.objs.size+1 ->
   (∀ c o,c≠z->c≠TO->c≠i1->c≠i2->s.heap.get? c=Z o->h'.get? c=Z o)->Q (Z (.ref s.heap.objs.size)) { s with heap:=h' }) :
  wpAny (model prog w) A (pyNext (.ref z)) Q E s:=by
 have hT:s.TypeIs (.ref z) "zip":=(_,hz,U);unfold pyNext;refine cO (TY (wpAny_callSpecial?_slot hT F.slot_zip_next
  (C5 F.slot_zip_next hT F.entry_zip_next ?_ (F.args_zip_next_1 _))))
 show wpAny _ _ (field (.ref z) 2 >>= _) _ _ _;refine cO (wpAny_field hz U (x:=.bool ϊ) U ?_);refine cO (wpAny_field hz U (x:=.ref TI) U ?_);refine cO (wpAny_seqItems bz U ?_);refine cO ?_;refine cO (wpAny_field hz U (x:=.none) U (ot ?_));simp only[if_true];refine cO (T9 ?_);refine cO (wpAny_field hz U (x:=.ref TO) U ?_);refine cO (wpAny_setField_rec hz (by simp) λbK aM g=>?_)
 refine cO ?_;simp only[Vd,List.zipIdx_nil,T3,List.forIn_nil];refine cO (cO (wpAny_onRaise ?_));refine cO (next_item (h1.at λo e=>g.extBut _ o D.i1z e) (bw.at λo e=>g.extBut _ o D.l1z e) hx λbo a4 P=>ot ?_)
 have HC:IsPair bo TO a b:=P.extBut _ _ D.TOi1 (g.extBut _ _ D.TOz bx);refine cO (wpAny_seqItems HC U ?_);refine cO (wpAny_updateSeq_pair HC λbD Ri K=>?_)
 refine cO (wpAny_letGo (ot ?_));refine cO (cO (wpAny_onRaise ?_));refine cO (next_item (h2.at λo e=>K.extBut _ o D.TOi2.symm (P.extBut _ o D.i12.symm (g.extBut _ o D.i2z e)))
  (bu.at λo e=>K.extBut _ o D.l2TO (P.extBut _ o D.l2i1 (g.extBut _ o D.l2z e))) hy λa7 a0 ah=>ot ?_)
 have Rh:IsPair a7 TO x b:=ah.extBut _ _ D.TOi2 Ri;refine cO (wpAny_seqItems Rh U ?_);refine cO (wpAny_updateSeq_pair Rh λq K0 V=>?_)
 replace K0:IsPair q TO x y:=K0
 refine cO (wpAny_letGo (ot (ot ?_)));refine cO (wpAny_seqItems K0 U ?_);refine cO (wpAny_newTuple ?_);have hsz:q.objs.size=s.heap.objs.size:=by rw[V.1,ah.1,K.1,P.1,g.1]
 have aA:IsZip q z TI TO .ellipsis:=V.extBut _ _ D.TOz.symm (ah.extBut _ _ D.i2z.symm (K.extBut _ _ D.TOz.symm (P.extBut _ _ D.i1z.symm aM)));have aS:∀ c o,c≠z->c≠TO->c≠i1->c≠i2->s.heap.get? c=Z o->q.get? c=Z o:=λc o c1 c2 c3 c4 e =>
  V.extBut _ _ c2 (ah.extBut _ _ c4 (K.extBut _ _ c2 (P.extBut _ _ c3 (g.extBut _ _ c1 e))))
 have a3:=a4.at λo e=>V.extBut _ o D.TOi1.symm (ah.extBut _ o D.i12 (K.extBut _ o D.TOi1.symm e))
 have aX:=a0.at λo e=>V.extBut _ o D.TOi2.symm e
 have QR:z<q.objs.size:=kf aA;refine cO ?_;have aK:IsZip (q.push { cls:=.type "tuple",data:=.seq #[x,y] }) z TI TO .ellipsis:=fx _ aA;refine cO (wpAny_setField_rec aK (by simp) λbA aH aj=>?_)
 refine wpAny_setField_rec aH (by simp) λak ax ai=>?_
 have up:∀ c o,c≠z->q.get? c=Z o->ak.get? c=Z o:=λc o c1 e=>ai.extBut _ _ c1 (aj.extBut _ _ c1 (fx _ e))
 have aG:IsPair ak q.objs.size x y:=ai.extBut _ _ (O2 QR) (aj.extBut _ _ (O2 QR) (oF _ U));have bt:ak.objs.size=q.objs.size+1:=by rw[ai.1,aj.1,z8]
 rw[hsz]at ax aG bt;refine ot (_,U,ot ?_);rw[hsz];exact hQ ak ax (up _ _ D.TOz K0) (a3.at λo e=>up _ o D.i1z e) (aX.at λo e=>up _ o D.i2z e) aG bt λc o c1 c2 c3 c4 e=>up c o c1 (aS c o c1 c2 c3 c4 e)
theorem IY{TI TO:J}{a b:B}{Q:Option B->ϋ->Prop}(hh:A.handled=Y)(D:ZipApart z TI TO i1 i2 l1 l2)
  (hz:IsZip s.heap z TI TO .none) (a0:IsPair s.heap TI (.ref i1) (.ref i2)) (aX:IsPair s.heap TO a b)
  (h1:aV s.heap t1 i1 l1 k1) (h2:aV s.heap t2 i2 l2 k2) (aM:a9 s.heap t1 l1 xs) (aS:a9 s.heap t2 l2 ys) (xl:xs[k1]? = Y\/ys[k2]? = Y)
  (hQ:∀ h',(∀ c o,c≠z->c≠TO->c≠i1->c≠i2->s.heap.get? c=Z o->h'.get? c=Z o)->Q Y { s with heap:=h' }):wpAny (model prog w) A (pyNext (.ref z)) Q E s:=by
 have hT:s.TypeIs (.ref z) "zip":=(_,hz,U);have fin:∀ h' e,(∀ c o,c≠z->c≠TO->c≠i1->c≠i2->s.heap.get? c=Z o->h'.get? c=Z o) ->(∃ o,h'.get? e=Z o/\o.cls = .type "StopIteration") ->
   wpAny (model prog w) A (do if <- isInstance (.ref e) (.type "StopIteration")then pure Y else throw (.ref e)) Q E { s with heap:=h' }:=λh' e hk he=>by
  let(o,ho,hc):=he;refine cO (Up (o,ho,hc) isSubtype_stop ?_);exact ot (hQ _ hk)
 refine cO (TY (wpAny_callSpecial?_slot hT F.slot_zip_next
  (C5 F.slot_zip_next hT F.entry_zip_next ?_ (F.args_zip_next_1 _))))
 show wpAny _ _ (field (.ref z) 2 >>= _) _ _ _;refine cO (wpAny_field hz U (x:=.bool ϊ) U ?_);refine cO (wpAny_field hz U U ?_);refine cO (wpAny_seqItems a0 U ?_);refine cO ?_;refine cO (wpAny_field hz U U (ot ?_));refine cO (T9 (cO (wpAny_field hz U (x:=.ref TO) U (cO (wpAny_setField_rec hz (by simp) λa7 ai g=>?_)))))
 refine cO ?_;simp only[Vd,List.zipIdx_nil,T3,List.forIn_nil];refine cO (cO (wpAny_onRaise ?_));cases hx:xs[k1]? with
 | none =>
  refine cO (next_end hh (h1.at λo e=>g.extBut _ o D.i1z e) (aM.at λo e=>g.extBut _ o D.l1z e) hx λaK e q he=>?_)
  let(oe,P,ax):=he;have ah:=q _ _ D.i1z.symm ai;have aG:e≠z:=λx=>by subst x;rw[ah]at P;cases P;simp at ax
  refine wpAny_setField_rec ah (by simp) λaA _ K=>fin aA e (λc o c1 _ c3 _ x=>K.extBut _ _ c1 (q _ _ c3 (g.extBut _ _ c1 x))) (oe,K.extBut _ _ aG P,ax)
 | some x =>
  have hy:ys[k2]? = none:=by rcases xl with h|h;rw[hx]at h;cases h;exact h
  refine cO (next_item (h1.at λo e=>g.extBut _ o D.i1z e) (aM.at λo e=>g.extBut _ o D.l1z e) hx λaK a3 q=>ot ?_)
  have HC:=q.extBut _ _ D.TOi1 (g.extBut _ _ D.TOz aX);refine cO (wpAny_seqItems HC U (cO (wpAny_updateSeq_pair HC λaA Ri K=>(cO (wpAny_letGo (ot (cO (cO (wpAny_onRaise ?_)))))))))
  refine cO (next_end hh (h2.at λo e=>K.extBut _ o D.TOi2.symm (q.extBut _ o D.i12.symm (g.extBut _ o D.i2z e)))
   (aS.at λo e=>K.extBut _ o D.l2TO (q.extBut _ o D.l2i1 (g.extBut _ o D.l2z e))) hy λa4 e ak he=>?_)
  let(oe,P,ax):=he;have V:=ak _ _ D.i2z.symm (K.extBut _ _ D.TOz.symm (q.extBut _ _ D.i1z.symm ai));have aG:e≠z:=λx=>by subst x;rw[V]at P;cases P;simp at ax
  refine wpAny_setField_rec V (by simp) λaH _ aj=>fin aH e (λc o c1 c2 c3 c4 x=>aj.extBut _ _ c1 (ak _ _ c4 (K.extBut _ _ c2 (q.extBut _ _ c3 (g.extBut _ _ c1 x))))) (oe,aj.extBut _ _ aG P,ax)
end
def xh{w:Str}{ws:List Str}:inV (.str w) (ws.map V.str)=O ↔ w∈ws:=by
 constructor
 ·intro h;by_cases hm:w∈ws
  ·exact hm
  ·exfalso
   unfold inV at h;rw[UD]at h;let(x,hx,e):=h;let(z,g,U):=O1.mp hx
   have:=eq_of_beq (show(z==w)=O from e)
   exact hm (this▸g)
 ·intro h;unfold inV;rw[UD];exact(.str w,O1.mpr (w,h,U),show(w==w)=O from beq_self_eq_true w)
def marks(rs:List Str):List (Key×V):=rs.map λs=>(.inr s,.bl O)
variable{X:Cx}{gd:List (J×Obj)}{H:Hp}{s:ϋ}{t':Nat}{fp:List J}
def Inv.BR{σ:St}(I:Inv X gd σ H s)(k:∀ b o,b ∉ fp->s.heap.get? b=Z o->h'.get? b=Z o)(hf:∀ b∈fp,vf X gd H b) :
  Inv X gd σ H { s with heap:=h',toks:=t' }:=by
 have K:∀ b u,H b=Z u->b ∉ fp:=λb u e z=>by
  have:=(hf b z).1
  rw[e]at this;cases this
 refine I.step (λb P=>?_) (λb o _ _ g e _=>k b o g e) (λb o _ _ g e _=>(o.slots,k b o g e)) (λ_ _ _ _ n=>n)
  (λb o g e=>(o,k b o g e)) (λ_ _ e=>e) (λ_ _ _ e=>e) (λb ps e=>(#[],by rw[e];simp)) (λm hm=>?_) (λb u e=>?_) I.bare
 ·let(f0,f1,f2,V,f4,Q):=hf b P;exact(V,f1,f4,Q)
 ·let(o,es,ep,ho,r):=hm;exact(o,es,ep,k _ o (λz=>(hf _ z).2.1 U) ho,r)
 ·refine(I.hok b u e).c6 (λc v g q=>k c v ?_ q) (λ_ q=>q) λ_ _ q=>q
  rcases g with z|z
  ·rw[z];exact K b u e
  ·exact K c _ z
def SqB(K:W.Frag)(tp:Bool)(H:Hp)(a:J)(xs:List V):Prop:=if tp=O then SqT K H a xs else SqL K H a xs
variable{a:J}
def Inv.FO{σ:St}{xs:List V}(I:Inv X gd σ H s)(h:SqB X.K tp H a xs):∃ its:List B,Vals xs its/\a9 s.heap tp a its.toArray/\xs.length<=j5:=by
 cases tp with
 | true =>
  let(its,r,p,z):=I.tuple (h);exact(its,r,(p),z)
 | false =>
  let(its,r,p,z):=I.list (h);exact(its,r,p.isList,z)
def Inv.FN{σ:St}{xs ys:List V}(I:Inv X gd σ H s)(h:SqB X.K tp H a xs)(h2:SqB X.K tp H a ys):xs=ys:=by
 cases tp with
 | true=>exact I.vi (h) (h2)
 | false=>exact I.tP (h) (h2)
def itc(tp:Bool):String:=if tp=O then "tuple_iterator" else "list_iterator"
variable{prog:Program}{A:Around}{E:B->ϋ->Prop}
def k6{w:World}{l:J}(h:a9 s.heap tp l xs)
  (g:Q (.ref s.heap.objs.size) { s with heap:=s.heap.push { cls:=.type (itc tp),data:=.fields #[.ref l,.int 0 0] } }):wpAny (model prog w) A (pyIter (.ref l)) Q E s:=by
 cases tp with
 | true=>exact wpAny_pyIter_tuple (h) g
 | false=>exact wpAny_pyIter_list (h) g
abbrev zH1(t1:Bool)(h:Heap)(l1:J):Heap:=h.push { cls:=.type (itc t1),data:=.fields #[.ref l1,.int 0 0] }
abbrev zH2(t1 t2:Bool)(h:Heap)(l1 l2:J):Heap:=(zH1 t1 h l1).push { cls:=.type (itc t2),data:=.fields #[.ref l2,.int 0 0] }
abbrev zH3(t1 t2:Bool)(h:Heap)(l1 l2:J):Heap:=(zH2 t1 t2 h l1 l2).push { cls:=.type "tuple",data:=.seq #[.ref h.objs.size,.ref (zH1 t1 h l1).objs.size] }
abbrev zH4(t1 t2:Bool)(h:Heap)(l1 l2:J):Heap:=(zH3 t1 t2 h l1 l2).push { cls:=.type "tuple",data:=.seq #[.none,.none] }
abbrev zH5(t1 t2:Bool)(h:Heap)(l1 l2:J):Heap:=(zH4 t1 t2 h l1 l2).push { cls:=.type "zip",data:=.fields #[.none,.bool ϊ,.bool ϊ,.ref (zH2 t1 t2 h l1 l2).objs.size,.ref (zH3 t1 t2 h l1 l2).objs.size] }
def uZ(t1 t2:Bool)(l1 l2:J)(xs ys:Array B) :
  Meets (Builtin.«zip.__new__» ([.type "zip",.ref l1,.ref l2],[])) (λ_ R s=>a9 s.heap t1 l1 xs/\a9 s.heap t2 l2 ys /\
   R (.ok (.ret (.ref (zH4 t1 t2 s.heap l1 l2).objs.size))) { s with heap:=zH5 t1 t2 s.heap l1 l2 }) :=
 .of_wp λprog w A R s h=>by
  let(hp,g,d,tk,os):=s;let(z,q,h):=h;have Q:=sub_zip;have P:=z;have K:a9 (ϋ.heap (hp.push { cls:=.type (itc t1),data:=.fields #[.ref l1,.int 0 0] },g,d,tk,os)) t2 l2 ys:=q.at λo e=>fx _ e
  wp_walk using k6 P,k6 K
  exact(_,U,h)
def kC{h:Heap}{l:J}(e:h.get? it=Z { cls:=.type (itc tp),data:=.fields #[.ref l,.int 0 0] }):aV h tp it l 0:=by
 cases tp with
 | true=>exact((_,e,U,U))
 | false=>exact((_,e,U,U))
theorem xC{prog:Program}{w:World}{A:Around}{E:B->ϋ->Prop}(P:a9 s.heap t1 l1 xs)(K:a9 s.heap t2 l2 ys)
  (h:∀ h',IsZip h' (s.heap.objs.size+4) (s.heap.objs.size+2) (s.heap.objs.size+3) .none->IsPair h' (s.heap.objs.size+2) (.ref s.heap.objs.size) (.ref (s.heap.objs.size+1)) ->
   IsPair h' (s.heap.objs.size+3) .none .none->aV h' t1 s.heap.objs.size l1 0->aV h' t2 (s.heap.objs.size+1) l2 0 ->
   (∀ c o,s.heap.get? c=Z o->h'.get? c=Z o)->Q (.ref (s.heap.objs.size+4)) { s with heap:=h' }) :
  wpAny (model prog w) A (call (.type "zip") [.ref l1,.ref l2]) Q E s:=by
 refine callType_new F.called_zip (by decide) (F.typeCall_zip_2 _ _) (F.newCall_zip_2 _ _) (λobj=>F.args_object_init_3 obj _ _) F.entry_zip_new
  (uZ t1 t2 l1 l2 xs ys) (P,K,?_)
 have z:(zH1 t1 s.heap l1).objs.size=s.heap.objs.size+1:=z8 ..;have q:(zH2 t1 t2 s.heap l1 l2).objs.size=s.heap.objs.size+2:=by rw[z8,z]
 have g:(zH3 t1 t2 s.heap l1 l2).objs.size=s.heap.objs.size+3:=by rw[z8,q]
 have z4:(zH4 t1 t2 s.heap l1 l2).objs.size=s.heap.objs.size+4:=by rw[z8,g]
 have V:(zH5 t1 t2 s.heap l1 l2).get? (zH4 t1 t2 s.heap l1 l2).objs.size=Z _:=oF _ U;have g4:(zH5 t1 t2 s.heap l1 l2).get? (zH3 t1 t2 s.heap l1 l2).objs.size=Z _:=fx _ (oF _ U);have g3:(zH5 t1 t2 s.heap l1 l2).get? (zH2 t1 t2 s.heap l1 l2).objs.size=Z _:=fx _ (fx _ (oF _ U));have g2:(zH5 t1 t2 s.heap l1 l2).get? (zH1 t1 s.heap l1).objs.size=Z _:=fx _ (fx _ (fx _ (oF _ U)));have g1:(zH5 t1 t2 s.heap l1 l2).get? s.heap.objs.size=Z _:=fx _ (fx _ (fx _ (fx _ (oF _ U))));rw[q,g,z4]at V;rw[z,q]at g3;rw[g]at g4;rw[z]at g2;rw[z4];exact((_,V,U),h _ V g3 g4 (kC g1) (kC g2) λc o x =>
  fx _ (fx _ (fx _ (fx _ (fx _ x)))))
def a9.obj{h:Heap}{l:J}(x:a9 h tp l xs):∃ o,h.get? l=Z o:=by
 cases tp with
 | true=>let(o,ho,_):=(x);exact(o,ho)
 | false=>let(o,ho,_):=(x);exact(o,ho)
variable{n:Nat}
def x8{l1 l2:Nat}(h1:l1<n)(h2:l2<n):ZipApart (n+4) (n+2) (n+3) n (n+1) l1 l2:=by
 constructor <;>(intro z;refine absurd (show @Eq Nat _ _ from z) ?_;lia)
variable{d:J}
def oK.other{l q:J}{o:HO}(D:oK H d l)(h1:q≠d)(h2:q≠l):oK (upd H q o) d l:=by
 let(s,n,ls,D):=D;exact(s,n,ls,by rw[ao h1.symm];exact D.hd,by rw[ao h2.symm];exact D.hl,D.s0,D.s1,D.n0,D.l0)
variable{es:List Expr}
theorem wF{K:W.Frag}{k:Nat}{pos:Pos}{t:TGs}(z:X.K=K)(q:X.calm=O)(h:PGs X es t)
  (hn:(assignEach es X.env).length=n:=by rfl) (g:(assignEach es X.env).findIdx? (·.1)=none:=by rfl):PG X (.Tuple es k pos) (K4 K n t):=z▸Nq q h hn g
abbrev p9(h:Heap)(z TI TO:J)(a:J)(f:Bool):Prop :=
 h.get? z=Z { cls:=.type "zip",dict:=Y,data:=.fields #[rawInt a,.bool f,.bool ϊ,.ref TI,.ref TO],slots:=#[] }
variable{oa:Obj}
section
variable{w:World}
theorem zf{TI TO:J}{f:Bool}{Q:Bool->ϋ->Prop}(K:p9 s.heap z TI TO a f)(ha:s.heap.get? a=Z oa)
  (V:∀ h',p9 h' z TI TO a O->TN z s.heap h'->Q ϊ { s with heap:=h' }):wpAny (model prog w) A (Builtin.SmallTypes.ownedTupleIsFree (.ref z)) Q E s:=by
 refine cO (wpAny_field K U U ?_);show wpAny _ _ (loadIfAlive ((a:Int).toNat) >>= _) _ _ _;refine cO (W.kdx_alive ha ?_);refine cO (wpAny_field K U (x:=.bool f) U ?_);cases f with
 | true =>
  exact ot (V _ K (Heap.SameBut.refl _ _))
 | false =>
  exact cO (wpAny_setField_rec K (by simp) λP q g=>(ot (V _ q g)))
theorem IW{TI TO:J}{f:Bool}{x y:B}{Q:Option B->ϋ->Prop}(D:ZipApart z TI TO i1 i2 l1 l2)
  (hz:p9 s.heap z TI TO a f) (ha:s.heap.get? a=Z oa) (ax:IsPair s.heap TI (.ref i1) (.ref i2))
  (h1:aV s.heap t1 i1 l1 k1) (h2:aV s.heap t2 i2 l2 k2) (ak:a9 s.heap t1 l1 xs) (aj:a9 s.heap t2 l2 ys) (hx:xs[k1]? = Z x) (hy:ys[k2]? = Z y)
  (hQ:∀ h',p9 h' z TI TO a O->aV h' t1 i1 l1 (k1+1)->aV h' t2 i2 l2 (k2+1)->IsPair h' s.heap.objs.size x y->h'.objs.size=s.heap.objs.size+1 ->
   (∀ c o,c≠z->c≠i1->c≠i2->s.heap.get? c=Z o->h'.get? c=Z o)->Q (Z (.ref s.heap.objs.size)) { s with heap:=h' }) :
  wpAny (model prog w) A (pyNext (.ref z)) Q E s:=by
 have hT:s.TypeIs (.ref z) "zip":=(_,hz,U);refine cO (TY (wpAny_callSpecial?_slot hT F.slot_zip_next
  (C5 F.slot_zip_next hT F.entry_zip_next ?_ (F.args_zip_next_1 _))))
 show wpAny _ _ (field (.ref z) 2 >>= _) _ _ _;refine cO (wpAny_field hz U (x:=.bool ϊ) U ?_);refine cO (wpAny_field hz U U ?_);refine cO (wpAny_seqItems ax U ?_);refine cO (zf hz ha λaG V g=>?_)
 simp only[U0,if_false];rw[<- U1];simp only[T3];refine cO (cO (cO (O0 ?_)));refine cO (next_item (h1.at λo e=>g.extBut _ o D.i1z e) (ak.at λo e=>g.extBut _ o D.l1z e) hx λaA ai q=>ot (ot (cO (cO (O0 ?_)))))
 refine cO (next_item (h2.at λo e=>q.extBut _ o D.i12.symm (g.extBut _ o D.i2z e)) (aj.at λo e=>q.extBut _ o D.l2i1 (g.extBut _ o D.l2z e)) hy λP ah K=>ot (ot (ot ?_)))
 show wpAny _ _ (newTuple [x,y] >>= _) _ _ _;refine cO (wpAny_newTuple ?_);have hsz:P.objs.size=s.heap.objs.size:=by rw[K.1,q.1,g.1]
 have up:∀ c o,c≠z->c≠i1->c≠i2->s.heap.get? c=Z o ->(P.push { cls:=.type "tuple",data:=.seq #[x,y] }).get? c=Z o:=λc o c1 c2 c3 e =>
  fx _ (K.extBut _ _ c3 (q.extBut _ _ c2 (g.extBut _ _ c1 e)))
 refine ot (_,U,ot ?_);rw[hsz];refine hQ _ (fx _ (K.extBut _ _ D.i2z.symm (q.extBut _ _ D.i1z.symm V))) ?_ ?_ ?_ ?_ up
 ·exact ai.at λo e=>fx _ (K.extBut _ o D.i12 e)
 ·exact ah.at λo e=>fx _ e
 ·rw[<- hsz];exact oF _ U
 ·rw[z8,hsz]
theorem x5{TI TO:J}{f:Bool}{Q:Option B->ϋ->Prop}(hh:A.handled=Y)(D:ZipApart z TI TO i1 i2 l1 l2)
  (hz:p9 s.heap z TI TO a f) (ha:s.heap.get? a=Z oa) (ak:IsPair s.heap TI (.ref i1) (.ref i2))
  (h1:aV s.heap t1 i1 l1 k1) (h2:aV s.heap t2 i2 l2 k2) (ah:a9 s.heap t1 l1 xs) (aj:a9 s.heap t2 l2 ys) (xl:xs[k1]? = Y\/ys[k2]? = Y)
  (hQ:∀ h',(∀ c o,c≠z->c≠i1->c≠i2->s.heap.get? c=Z o->h'.get? c=Z o)->Q Y { s with heap:=h' }) :
  wpAny (model prog w) A (pyNext (.ref z)) Q E s:=by
 have hT:s.TypeIs (.ref z) "zip":=(_,hz,U);have fin:∀ h' e,(∀ c o,c≠z->c≠i1->c≠i2->s.heap.get? c=Z o->h'.get? c=Z o) ->(∃ o,h'.get? e=Z o/\o.cls = .type "StopIteration") ->
   wpAny (model prog w) A (do if <- isInstance (.ref e) (.type "StopIteration")then pure Y else throw (.ref e)) Q E { s with heap:=h' }:=λh' e hk he=>by
  let(o,ho,hc):=he;refine cO (Up (o,ho,hc) isSubtype_stop ?_);exact ot (hQ _ hk)
 refine cO (TY (wpAny_callSpecial?_slot hT F.slot_zip_next
  (C5 F.slot_zip_next hT F.entry_zip_next ?_ (F.args_zip_next_1 _))))
 show wpAny _ _ (field (.ref z) 2 >>= _) _ _ _;refine cO (wpAny_field hz U (x:=.bool ϊ) U ?_);refine cO (wpAny_field hz U U ?_);refine cO (wpAny_seqItems ak U ?_);refine cO (zf hz ha λaA ai g=>?_)
 simp only[U0,if_false];rw[<- U1];simp only[T3];refine cO (cO (cO (O0 ?_)));cases hx:xs[k1]? with
 | none =>
  exact cO (next_end hh (h1.at λo e=>g.extBut _ o D.i1z e) (ah.at λo e=>g.extBut _ o D.l1z e) hx λK e q he=>(fin K e (λc o c1 c2 _ x=>q _ _ c2 (g.extBut _ _ c1 x)) he))
 | some x =>
  have hy:ys[k2]? = none:=by rcases xl with h|h;rw[hx]at h;cases h;exact h
  refine cO (next_item (h1.at λo e=>g.extBut _ o D.i1z e) (ah.at λo e=>g.extBut _ o D.l1z e) hx λK ax q=>ot (ot (cO (cO (O0 ?_)))))
  exact cO (next_end hh (h2.at λo e=>q.extBut _ o D.i12.symm (g.extBut _ o D.i2z e)) (aj.at λo e=>q.extBut _ o D.l2i1 (g.extBut _ o D.l2z e)) hy λV e P he=>(fin V e (λc o c1 c2 c3 x=>P _ _ c3 (q.extBut _ _ c2 (g.extBut _ _ c1 x))) he))
end
structure ZSt(h:Heap)(z TI TO i1 i2 l1 l2 S:J)(t1 t2:Bool)(i:Nat):Prop where
 ti:IsPair h TI (.ref i1) (.ref i2)
 s1:aV h t1 i1 l1 i
 s2:aV h t2 i2 l2 i
 st:(IsZip h z TI TO .none/\∃ a b,IsPair h TO a b)\/∃(a:J)(f:Bool)(oa:Obj),p9 h z TI TO a f/\h.get? a=Z oa/\a≠z/\a≠S/\a≠i1/\a≠i2
variable{S:J}
def ZSt.keep{h:Heap}{TI TO:J}(x:ZSt h z TI TO i1 i2 l1 l2 S t1 t2 i)(k:∀ b o,b≠S->h.get? b=Z o->h'.get? b=Z o)(Q:z≠S)(q:TI≠S)(g:TO≠S)(h1:i1≠S)(h2:i2≠S):ZSt h' z TI TO i1 i2 l1 l2 S t1 t2 i :=
 (k _ _ q x.ti,x.s1.at λo e=>k _ o h1 e,x.s2.at λo e=>k _ o h2 e,by
  rcases x.st with⟨e,a,b,K⟩ |⟨a,f,oa,e,K,n1,P,V⟩
  ·exact .inl (k _ _ Q e,a,b,k _ _ g K)
  ·exact .inr (a,f,oa,k _ _ Q e,k _ _ P K,n1,P,V))
structure ZG(xs ys:Array B)(lo:Nat)(h:Heap)(as:List J):Prop where
 rise:as.Pairwise (· < ·)
 above:∀ a∈as,lo<=a
 pairs:∀(j:Nat)(a:J),as[j]? = Z a->∃ x y,xs[j]? = Z x/\ys[j]? = Z y/\IsPair h a x y
def ZG.there{lo:Nat}{h:Heap}{as:List J}(g:ZG xs ys lo h as)(ha:a∈as):a<h.objs.size:=by
 let(j,q):=List.mem_iff_getElem?.mp ha;let(_,_,_,_,e):=g.pairs j a q;exact kf e
section
variable{w:World}
def IQ{E:B->ϋ->Prop}{TI TO:J}{k:Nat}{x y:B}{Q:Option B->ϋ->Prop}(D:ZipApart z TI TO i1 i2 l1 l2)
  (st:ZSt s.heap z TI TO i1 i2 l1 l2 S t1 t2 k) (hS:S<s.heap.objs.size) (P:a9 s.heap t1 l1 xs) (K:a9 s.heap t2 l2 ys) (hx:xs[k]? = Z x) (hy:ys[k]? = Z y)
  (hQ:∀ h',ZSt h' z TI TO i1 i2 l1 l2 S t1 t2 (k+1)->IsPair h' s.heap.objs.size x y->h'.objs.size=s.heap.objs.size+1 ->
   (∀ c o,c≠z->c≠TO->c≠i1->c≠i2->s.heap.get? c=Z o->h'.get? c=Z o)->Q (Z (.ref s.heap.objs.size)) { s with heap:=h' }) :
  wpAny (model prog w) A (pyNext (.ref z)) Q E s:=by
 let(o1,g1,_):=st.s1.obj;let(o2,g2,_):=st.s2.obj;rcases st.st with⟨V,a,b,ah⟩ |⟨a,f,oa,V,ha,n1,n2,n3,n4⟩
 ·refine EW D V st.ti ah st.s1 st.s2 P K hx hy λh' g To e1 e2 hp hsz q=>hQ h' (q _ _ D.TIz D.TITO D.TIi1 D.TIi2 st.ti,e1,e2,.inr (s.heap.objs.size,ϊ,_,g,hp,?_,?_,?_,?_)) hp hsz q
  ·exact O2 (kf V)
  ·exact O2 hS
  ·exact O2 (kf g1)
  ·exact O2 (kf g2)
 ·exact IW D V ha st.ti st.s1 st.s2 P K hx hy λh' g e1 e2 hp hsz q=>hQ h' (q _ _ D.TIz D.TIi1 D.TIi2 st.ti,e1,e2,.inr (a,O,oa,g,q a oa n1 n3 n4 ha,n1,n2,n3,n4)) hp hsz λc o c1 _ c3 c4 e=>q c o c1 c3 c4 e
def IS{TI TO:J}{k:Nat}{Q:Option B->ϋ->Prop}(hh:A.handled=Y)(D:ZipApart z TI TO i1 i2 l1 l2)
  (st:ZSt s.heap z TI TO i1 i2 l1 l2 S t1 t2 k) (q:a9 s.heap t1 l1 xs) (g:a9 s.heap t2 l2 ys) (V:xs[k]? = Y\/ys[k]? = Y)
  (hQ:∀ h',(∀ c o,c≠z->c≠TO->c≠i1->c≠i2->s.heap.get? c=Z o->h'.get? c=Z o)->Q Y { s with heap:=h' }):wpAny (model prog w) A (pyNext (.ref z)) Q E s:=by
 rcases st.st with⟨K,a,b,P⟩ |⟨a,f,oa,K,ha,n1,n2,n3,n4⟩
 ·exact IY hh D K st.ti P st.s1 st.s2 q g V hQ
 ·exact x5 hh D K ha st.ti st.s1 st.s2 q g V λh' hk=>hQ h' λc o c1 _ c3 c4 e=>hk c o c1 c3 c4 e
def IT{R:Result->ϋ->Prop}{TI TO:J}{t1 t2:Bool}{lo:Nat}(hh:A.handled=Y)(D:ZipApart z TI TO i1 i2 l1 l2)(aj:z≠S)(Br:TI≠S)(xn:TO≠S)(aG:i1≠S)(aA:i2≠S)(Bq:l1≠S)(Bp:l2≠S)
  (oS:S<lo) (oz:z<lo) (aH:TO<lo) (o1:i1<lo) (o2:i2<lo) (en:n=min xs.size ys.size) (hn:n<=j5) (res:B) {ai:Heap}
  (hR:∀ h' tk acc c as,(∀ b o,b≠S->b≠z->b≠TO->b≠i1->b≠i2->ai.get? b=Z o->h'.get? b=Z o)->h'.get? S=Z { cls:=.type "list",dict:=Y,data:=.seq acc c,slots:=#[] }->as.length=n->ZG xs ys lo h' as ->
   acc.toList=as.map B.ref->R (.ok (.ret res)) { s with heap:=h',toks:=tk }) :
  ∀(k i:Nat)(h:Heap)(tk c:Nat)(acc:Array B)(as:List J),n - i=k->i<=n->ZSt h z TI TO i1 i2 l1 l2 S t1 t2 i->a9 h t1 l1 xs->a9 h t2 l2 ys ->(∀ b o,b≠S->b≠z->b≠TO->b≠i1->b≠i2->ai.get? b=Z o->h.get? b=Z o) ->
   h.get? S=Z { cls:=.type "list",dict:=Y,data:=.seq acc c,slots:=#[] }->acc.toList=as.map B.ref->as.length=i->ZG xs ys lo h as->lo<=h.objs.size ->
   codeAny (model prog w) A (.builtin "list.extend.loop" ([.ref S,.ref z,res],[])) R { s with heap:=h,toks:=tk }:=by
 have ne:∀{a b:Nat},a<lo->lo<=b->b≠a:=λh1 h2=>by omega
 intro k
 induction k with
 | zero =>
  intro i h tk c acc as hk hi ak ah V Hy hS kc K P ax;refine codeAny_builtin PySem.F.entry_extend_loop ?_;refine cO (IS (A:=A.in1) hh D ak ah V ?_ λh' he=>?_)
  ·by_cases q:xs.size<=i
   ·exact .inl (Ud q)
   ·exact .inr (Ud (by omega))
  refine ot (hR h' tk acc c as (λb o b1 b2 b3 b4 b5 e=>he b o b2 b3 b4 b5 (Hy b o b1 b2 b3 b4 b5 e)) (he S _ aj.symm xn.symm aG.symm aA.symm hS) (by omega) (P.rise,P.above,λj a Q=>?_) kc)
  let(x,y,e1,e2,e3):=P.pairs j a Q;have ab:=P.above a (u3 Q);exact(x,y,e1,e2,he a _ (ne oz ab) (ne aH ab) (ne o1 ab) (ne o2 ab) e3)
 | succ k ih =>
  intro i h tk c acc as hk hi ak ah V Hy hS kc K P ax;have aK:=Nat.lt_of_sub_eq_succ hk;have hm:=Nat.lt_min.mp (en▸aK);have hx:=Uy hm.1;have hy:=Uy hm.2;have hsz:acc.size=i:=by rw[<- Ts,kc,gV,K]
  refine codeAny_builtin PySem.F.entry_extend_loop ?_;refine cO (IQ (S:=S) D ak (kf hS) ah V hx hy λh' SH ht hz g=>?_)
  have aS:=g S _ aj.symm xn.symm aG.symm aA.symm hS;have up:∀ b o,b≠S->h'.get? b=Z o ->(h'.update S (Fs (·.push (B.ref h.objs.size)))).get? b=Z o:=λb o hb e=>(xO _ _ (Ne.symm hb)).trans e
  have aM:=kf hS;refine cO ?_;refine SO aS U (ot (UY PySem.F.plain_extend_loop _,ih (i+1) _ tk _ (acc.push (B.ref h.objs.size)) (as ++ [h.objs.size]) (by rw[Nat.sub_succ,hk];rfl) aK (SH.keep up aj Br xn aG aA)
   (ah.at λo e=>up _ o Bq (g _ o D.l1z D.l1TO D.l1i1 D.l1i2 e)) (V.at λo e=>up _ o Bp (g _ o D.l2z D.l2TO D.l2i1 D.l2i2 e))
   (λb o b1 b2 b3 b4 b5 e=>up b o b1 (g b o b2 b3 b4 b5 (Hy b o b1 b2 b3 b4 b5 e))) (xR _ aS U) (by rw[Array.toList_push,kc,tx];rfl) (by rw[px,K];rfl) (?_,?_,?_) ?_)) (by rw[hsz];omega) (by rw[Array.size_push,hsz];omega)
  ·refine List.pairwise_append.mpr (P.rise,List.pairwise_singleton _ _,λa ha b hb=>?_)
   rw[bB.mp hb];exact P.there ha
  ·intro a ha;rcases j1.mp ha with ha|ha
   ·exact P.above a ha
   ·rw[bB.mp ha];exact ax
  ·intro j b Q;rcases Nat.lt_trichotomy j as.length with h1|h1|h1
   ·rw[z9 h1]at Q;let(x',y',e1,e2,e3):=P.pairs j b Q;have ab:=P.above b (u3 Q);exact(x',y',e1,e2,up b _ (ne oS ab) (g b _ (ne oz ab) (ne aH ab) (ne o1 ab) (ne o2 ab) e3))
   ·subst h1;have hb:=by simpa using Q
    subst hb;exact(_,_,by rw[K];exact hx,by rw[K];exact hy,up _ _ (O2 aM) ht)
   ·have Q5:(as ++ [h.objs.size])[j]? = none:=So (by rw[px,UO];omega)
    rw[Q5]at Q;cases Q
  ·have e:=up _ _ (O2 aM) ht
   have:=kf e
   have SX:=ax;exact uj SX (rV this)
end
def Ac:typeLookup (.type "zip") "__len__" = pure none:=by kernel_rfl
def x6:typeLookup (.type "zip") "__length_hint__" = pure none:=by kernel_rfl
section
variable{w:World}
theorem Dc{R:Result->ϋ->Prop}{TI TO:J}(hh:A.handled=Y)(D:ZipApart z TI TO i1 i2 l1 l2)(q:z≠S)(Br:TI≠S)(xn:TO≠S)(ai:i1≠S)(ah:i2≠S)(Bq:l1≠S)(Bp:l2≠S)
  (hz:IsZip s.heap z TI TO .none) {ta tb:B} (V:IsPair s.heap TO ta tb) (aj:IsPair s.heap TI (.ref i1) (.ref i2)) (Q:aV s.heap t1 i1 l1 0) (P:aV s.heap t2 i2 l2 0) (ax:a9 s.heap t1 l1 xs) (ak:a9 s.heap t2 l2 ys)
  (en:n=min xs.size ys.size) (hn:n<=j5) (res:B) (c₀:Nat) (hS:s.heap.get? S=Z { cls:=.type "list",data:=.seq #[] c₀ })
  (hR:∀ h' tk acc c as,(∀ b o,b≠S->b≠z->b≠TO->b≠i1->b≠i2->s.heap.get? b=Z o->h'.get? b=Z o)->h'.get? S=Z { cls:=.type "list",dict:=Y,data:=.seq acc c,slots:=#[] }->as.length=n->ZG xs ys s.heap.objs.size h' as ->
   acc.toList=as.map B.ref->R (.ok (.ret res)) { s with heap:=h',toks:=tk }) :
  wpAny (model prog w) A.in1 (Builtin.List.listExtendWith (.ref S) (.ref z) res)
   (λfin s'=>match fin with | .done f=>R (.ok f) s' | .again c'=>c'.quiet=O/\codeAny (model prog w) A c' R s') (λe s'=>R (.error e) s') s:=by
 have hT:s.TypeIs (.ref z) "zip":=(_,hz,U);let(aG,g1,_):=Q.obj;let(aA,g2,_):=P.obj;refine cO (TU hT ?_);have e1:Builtin.List.listSameRef (.ref S) (.ref z)=false:=by simp[Builtin.List.listSameRef,q.symm]
 have e2:(B.type "zip" == B.type "list")=false:=by decide
 have e3:(B.type "zip" == B.type "tuple")=false:=by decide
 simp only[e1,e2,e3,if_false];refine cO (wpAny_pyIter_zip hz (cO (O0 ?_)));refine cO (T5 hT Ac ?_);refine cO (T5 hT x6 (ot ?_));refine cO (T9 (cO ?_));refine cO (SO hS U ?_);have g:=xR (Fs (·.push B.none)) hS U;refine SO g U ?_;have K:=xR (Fs (·.pop)) g U;have oth:∀ b o,b≠S->s.heap.get? b=Z o ->((s.heap.update S (Fs (·.push B.none))).update S (Fs (·.pop))).get? b=Z o :=
  λb o hb e=>(xO _ _ (Ne.symm hb)).trans ((xO _ _ (Ne.symm hb)).trans e)
 have hsz:((s.heap.update S (Fs (·.push B.none))).update S (Fs (·.pop))).objs.size=s.heap.objs.size:=by
  rw[(Heap.SameBut.update (a:=S) ..).1,(Heap.SameBut.update (a:=S) ..).1]
 refine ot (UY F.plain_extend_loop _,IT (s:=s) (n:=n) hh D q Br xn ai ah Bq Bp (kf hS) (kf hz) (kf V) (kf g1) (kf g2) en hn res hR n 0 _ _ _ _ [] (by omega) (Fq _)
  (oth _ _ Br aj,Q.at λo e=>oth _ o ai e,P.at λo e=>oth _ o ah e,.inl (oth _ _ q hz,ta,tb,oth _ _ xn V)) (ax.at λo e=>oth _ o Bq e) (ak.at λo e=>oth _ o Bp e) (λb o b1 _ _ _ _ e=>oth b o b1 e) K U U (List.Pairwise.nil,λ_ z=>(nomatch z),λj a hj=>by simp at hj) (by rw[hsz];exact lx _))
def IU{R:Result->ϋ->Prop}{TI TO:J}(hh:A.handled=Y)(D:ZipApart z TI TO i1 i2 l1 l2)(q:z≠S)(Br:TI≠S)(xn:TO≠S)(P:i1≠S)(K:i2≠S)(Bq:l1≠S)(Bp:l2≠S)
  (hz:IsZip s.heap z TI TO .none) {ta tb:B} (ah:IsPair s.heap TO ta tb) (ai:IsPair s.heap TI (.ref i1) (.ref i2)) (V:aV s.heap t1 i1 l1 0) (Q:aV s.heap t2 i2 l2 0) (ax:a9 s.heap t1 l1 xs) (ak:a9 s.heap t2 l2 ys)
  (en:n=min xs.size ys.size) (hn:n<=j5) (hS:s.heap.get? S=Z { cls:=.type "list",data:=.seq #[] })
  (hR:∀ h' tk acc c as,(∀ b o,b≠S->b≠z->b≠TO->b≠i1->b≠i2->s.heap.get? b=Z o->h'.get? b=Z o)->h'.get? S=Z { cls:=.type "list",dict:=Y,data:=.seq acc c,slots:=#[] }->as.length=n->ZG xs ys s.heap.objs.size h' as ->
   acc.toList=as.map B.ref->R (.ok (.ret .none)) { s with heap:=h',toks:=tk }) :
  wpAny (model prog w) A.in1 (Builtin.«list.__init__» ([.ref S,.ref z],[]))
   (λfin s'=>match fin with | .done f=>R (.ok f) s' | .again c'=>c'.quiet=O/\codeAny (model prog w) A c' R s') (λe s'=>R (.error e) s') s:=by
 refine cO ?_;refine cO (wpAny_seqItems hS U (ot ?_));refine cO (SO hS U ?_);have g:=xR (Fs (λ_=>(#[]))) hS U
 have oth:∀ b o,b≠S->s.heap.get? b=Z o ->(s.heap.update S (Fs (λ_=>(#[])))).get? b=Z o :=
  λb o hb e=>(xO _ _ (Ne.symm hb)).trans e
 have hsz:(s.heap.update S (Fs (λ_=>(#[])))).objs.size=s.heap.objs.size:=(Heap.SameBut.update (a:=S) ..).1
 refine Dc (xs:=xs) (ys:=ys) (n:=n) hh D q Br xn P K Bq Bp (oth _ _ q hz) (oth _ _ xn ah) (oth _ _ Br ai) (V.at λo e=>oth _ o P e) (Q.at λo e=>oth _ o K e) (ax.at λo e=>oth _ o Bq e) (ak.at λo e=>oth _ o Bp e) en hn .none _ g (λh' tk acc c as hk aj hl hG kc=>?_)
 rw[hsz]at hG;exact hR h' tk acc c as (λb o b1 b2 b3 b4 b5 e=>hk b o b1 b2 b3 b4 b5 (oth b o b1 e)) aj hl hG kc
def IV{E:B->ϋ->Prop}{Q:B->ϋ->Prop}{TI TO:J}(hh:A.handled=Y)(D:ZipApart z TI TO i1 i2 l1 l2)
  (hz:IsZip s.heap z TI TO .none) {ta tb:B} (V:IsPair s.heap TO ta tb) (ah:IsPair s.heap TI (.ref i1) (.ref i2)) (P:aV s.heap t1 i1 l1 0) (K:aV s.heap t2 i2 l2 0) (aj:a9 s.heap t1 l1 xs) (ai:a9 s.heap t2 l2 ys)
  (en:n=min xs.size ys.size) (hn:n<=j5)
  (hQ:∀ h' tk acc c as,(∀ b o,b≠z->b≠TO->b≠i1->b≠i2->s.heap.get? b=Z o->h'.get? b=Z o)->h'.get? s.heap.objs.size=Z { cls:=.type "list",dict:=Y,data:=.seq acc c,slots:=#[] }->as.length=n->ZG xs ys (s.heap.objs.size+1) h' as ->
   acc.toList=as.map B.ref->Q (.ref s.heap.objs.size) { s with heap:=h',toks:=tk }) :
  wpAny (model prog w) A (call (.type "list") [.ref z]) Q E s:=by
 refine callType_codes (Q₁:=λobj g=>obj = .ref s.heap.objs.size/\g ={ s with heap:=s.heap.push { cls:=.type "list",data:=.seq #[] } }) PySem.F.called_list (PySem.F.typeCall_list_1 _) PySem.F.entry_list_init
  (code_list_new _ (U,U)) λobj g q=>?_
 let(U,U):=q;have hS:(s.heap.push { cls:=.type "list",data:=.seq #[] }).get? s.heap.objs.size=Z { cls:=.type "list",data:=.seq #[] }:=oF _ U;let(aH,g1,_):=P.obj;let(aG,g2,_):=K.obj;let(aA,g3):=aj.obj;let(ax,g4):=ai.obj;have up:∀ b o,s.heap.get? b=Z o ->(s.heap.push { cls:=.type "list",data:=.seq #[] }).get? b=Z o:=λb o e=>fx _ e
 refine((_,hS,U),PySem.F.args_list_init_2 _ _,IU hh D (u4 (kf hz)) (u4 (kf ah)) (u4 (kf V)) (u4 (kf g1)) (u4 (kf g2)) (u4 (kf g3)) (u4 (kf g4))
  (up _ _ hz) (up _ _ V) (up _ _ ah) (P.at λo e=>up _ o e) (K.at λo e=>up _ o e) (aj.at λo e=>up _ o e) (ai.at λo e=>up _ o e) en hn hS (λh' tk acc c as hk ak hl hG kc=>?_))
 rw[z8]at hG;exact(U,hQ h' tk acc c as (λb o b2 b3 b4 b5 e=>hk b o (u4 (kf e)) b2 b3 b4 b5 (up b o e)) ak hl hG kc)
end
def ED(h:Heap)(m:Nat):Heap:={ h with objs:=h.objs.extract 0 m }
def n6{h:Heap}{m b:Nat}(g:b<m):(ED h m).get? b=h.get? b:=by
 unfold ED Heap.get?;have e:(h.objs.extract 0 m)[b]? = h.objs[b]?:=by
  rw[Array.getElem?_extract];by_cases q:b<h.objs.size
  ·rw[if_pos (by lia),Nat.zero_add]
  ·rw[if_neg (by lia),Ud (by lia)]
 simp only[e]
def um{h:Heap}{m:Nat}(hm:m<=h.objs.size):(ED h m).objs.size=m:=by
 unfold ED;rw[Array.size_extract]
 lia
def Lb{h:Heap}{m:Nat}{b:J}{u:Obj}(hm:m<=h.objs.size)(e:(ED h m).get? b=Z u):h.get? b=Z u:=by
 have:=kf e
 rw[um hm]at this;rw[<- n6 this];exact e
def oQ(H:Hp):List (J×HO)->Hp
 | []=>H
 | p::r=>oQ (upd H p.1 p.2) r
theorem oO:∀{os:List (J×HO)}{H:Hp}{c:J},c ∉ os.map (·.1)->oQ H os c=H c
 | [],_,_,_=>rfl
 | p::r,H,c,h=>by
  show oQ (upd H p.1 p.2) r c=H c;rw[oO (λz=>h (c5 _ z)),ao λz=>h (by rw[z];exact dZ)]
theorem oP:∀{os:List (J×HO)}{H:Hp}{p:J×HO},(os.map (·.1)).Nodup->p∈os->oQ H os p.1=Z p.2
 | q::r,H,p,hn,hp=>by
  have h':=rX.mp hn;show oQ (upd H q.1 q.2) r p.1=Z p.2;rcases i8.mp hp with rfl|hp
  ·rw[oO h'.1,aB]
  ·exact oP h'.2 hp
theorem yb:∀ as:List J,Vals (as.map V.ref) (as.map B.ref)
 | []=>.nil
 | a::r=>.cons U (yb r)
theorem Inv.Hk{X:Cx}{gd:List (J×Obj)}{σ:St}{s:ϋ}{h':Heap}:∀{os:List (J×HO)}{H:Hp}{m:Nat},Inv X gd σ H { s with heap:=ED h' m }->m<=h'.objs.size ->(os.map (·.1)).Pairwise (· < ·) ->(∀ p∈os,m<=p.1/\p.1<h'.objs.size) ->
  (∀ p∈os,∀(H2:Hp)(Q:Heap),Q.get? p.1=h'.get? p.1->cJ X.prog X.w H2 Q p.1 p.2)->Inv X gd σ (oQ H os) { s with heap:=h' }
 | [],H,m,I,hm,_,_,_=>I.kept λb u e=>Lb hm e
 | p::r,H,m,I,hm,hp,V,ho=>by
  have g:=U2.mp hp;let(b1,b2):=V p dZ;have P:=b2;have I2:=by
   refine I.laid (t':=s.toks) (λb u e=>?_) ?_ (ho p dZ _ _ (n6 (Tt _)))
   ·have lt:=kf e;rw[um hm]at lt;have K:=xP lt (uj b1 (Vh _));rw[n6 K,<- n6 lt];exact e
   ·rw[um hm];exact b1
  exact Inv.Hk (os:=r) I2 P g.2 (λq z=>(g.1 q.1 (O1.mpr (q,z,U)),(V q (c5 _ z)).2)) λq z=>ho q (c5 _ z)
def sG(K:W.Frag)(tl:TA):TE:=λσ H R=>tl σ H λvs H1=>Q4 λl1 l2 xs ys=>vs = [.ref l1,.ref l2]/\SqT K H1 l1 xs/\SqT K H1 l2 ys/\∀(H2:Hp)(L:J)(ps:List J),H1 L=Y->ps.length=min xs.length ys.length->ps.Nodup ->(∀ p∈ps,H1 p=Y/\p≠L) ->(∀ c,c ∉ ps->c≠L->H2 c=H1 c)->H2 L=Z (.lst (ps.map V.ref)) ->(∀(j:Nat) p x y,ps[j]? = Z p->xs[j]? = Z x->ys[j]? = Z y->H2 p=Z (.tup [x,y]))->R (.ref L) H2
section
variable{a b:Expr}{tl:TA}{pos p gF p2:Pos}
def AY(hg:Gl X "list")(hm:X.mg "list" = Y)(a4:Gl X "zip")(aM:X.mg "zip" = Y)(ha:PA X [a,b] tl)(hs:iS [a,b] X.env = [(ϊ,eval a X.env),(ϊ,eval b X.env)])(ax:iS [b] X.env = [(ϊ,eval b X.env)])
  (ak:iS [.Call (.Name "zip" p2) [a,b] [] gF] X.env =(ϊ,eval (.Call (.Name "zip" p2) [a,b] [] gF) X.env)::iS [] X.env) (hc:X.calm=O) :
  PE X (.Call (.Name "list" p) [.Call (.Name "zip" p2) [a,b] [] gF] [] pos) (sG X.K tl):=by
 intro gd s σ H R I h;refine Call_ (i6 I hg hm (by kernel_rfl) (PyProof.Rows.callWith_type1 (T:="list") ?_ ak (by rfl)))
 rw[ak];refine Calls.spliced_cons ?_;refine Call_ (i6 I a4 aM (by kernel_rfl) (PyProof.Rows.callWith_type1 (T:="zip") (thn (ha gF gd s σ H _ I h) λus s1 (vs,H1,P,r1,q1)=>?_) (by rw[hs,ax]) (by rw[ax];rfl)))
 let(l1,l2,xs,ys,e,q2,q3,q):=q1;subst e;let(u1,u2,U,aG,aA):=vals2 r1;cases aG;cases aA;let(SD,ah,o1,z1):=P.FO (tp:=O) q2;let(iw,Q,o2,z2):=P.FO (tp:=O) q3;let(bu,e1):=o1.obj;let(bt,e2):=o2.obj;have g1:l1<s1.heap.objs.size:=kf e1;have g2:l2<s1.heap.objs.size:=kf e2;refine xC o1 o2 λh1 hz bo a7 a0 aX hk=>?_
 refine Calls.spliced_nil ?_;have nz:s1.heap.objs.size+4<h1.objs.size:=kf hz;have aK:=ah.length;have aH:=Q.length;refine IV (t1:=O) (t2:=O) (xs:=SD.toArray) (ys:=iw.toArray) (n:=min xs.length ys.length) (P.ok.hd hc) (x8 g1 g2) hz a7 bo a0 aX (o1.at λo e=>hk _ o e) (o2.at λo e=>hk _ o e) (by simp[aK,aH]) (by omega) λh' tk acc c as aS hS hl g kc=>?_
 have fr:∀ b u,s1.heap.get? b=Z u->h'.get? b=Z u:=λb u e=>by
  have lt:b<s1.heap.objs.size:=kf e;have ne:∀ m:Nat,s1.heap.objs.size<=m->b≠m:=λm hm z=>absurd (z▸lt:m<s1.heap.objs.size) (by omega)
  exact aS b u (ne _ (by omega)) (ne _ (by omega)) (ne _ (lx _)) (ne _ (by omega)) (hk b u e)
 have I2:=P.kept (t':=tk) λb u e=>by rw[n6 (kf e)];exact fr b u e
 have lS:h1.objs.size<h'.objs.size:=kf hS;have keys:(((Prod.mk h1.objs.size (HO.lst (as.map V.ref))) ::(as.zip (xs.zip ys)).map λp=>(Prod.mk p.1 (HO.tup [p.2.1,p.2.2]))).map (·.1))=h1.objs.size::as:=by
  rw[OY,EU]
  congr 1
  have:((λx:J×HO=>x.1) ∘ λp:J×V×V=>(p.1,HO.tup [p.2.1,p.2.2]))=Prod.fst:=rfl
  rw[this,List.map_fst_zip (by rw[T4];omega)]
 have pw:(h1.objs.size::as).Pairwise (· < ·):=U2.mpr (λa ha=>g.above a ha,g.rise)
 have at':∀(j:Nat)(p:J×V×V),(as.zip (xs.zip ys))[j]? = Z p->as[j]? = Z p.1/\xs[j]? = Z p.2.1/\ys[j]? = Z p.2.2:=λj p hp=>by
  have h1:=Sz.mp hp;have h2:=Sz.mp h1.2;exact(h1.1,h2.1,h2.2)
 have I3:=Inv.Hk (X:=X) (s:={ s1 with toks:=tk }) (m:=s1.heap.objs.size) (h':=h') I2 (by omega) (by rw[keys];exact pw) (λp hp=>?_) (λp hp H2 hh e=>?_)
 ·have nd:(h1.objs.size::as).Nodup:=pw.imp λh=>u4 h
  have aj:=rX.mp nd;refine(.ref h1.objs.size,_,I3,U,q _ h1.objs.size as (P.hok.fresh (by omega)) hl aj.2 (λp hp=>(P.hok.fresh ?_,λz=>aj.1 (z▸hp))) (λc c1 c2=>?_) ?_ (λj p x y hp hx hy=>?_))
  ·have:=g.above p hp
   exact uj (show s1.heap.objs.size<=h1.objs.size+1 by omega) this
  ·exact oO (by rw[keys];exact λz=>(i8.mp z).elim c2 c1)
  ·exact oP (by rw[keys];exact nd) dZ
  ·have hz:(as.zip (xs.zip ys))[j]? = Z (p,x,y):=Sz.mpr (hp,Sz.mpr (hx,hy));exact oP (p:=(p,HO.tup [x,y])) (by rw[keys];exact nd) (c5 _ (O1.mpr (_,u3 hz,U)))
 ·have:p.1∈h1.objs.size::as:=by rw[<- keys];exact O1.mpr (p,hp,U)
  rcases i8.mp this with z|z
  ·rw[z];exact(by omega,lS)
  ·have ab:=g.above p.1 z;exact(uj (show s1.heap.objs.size<=h1.objs.size+1 by omega) ab,g.there z)
 ·rcases i8.mp hp with rfl|hp
  ·refine(by rw[gV];omega,acc.toList,c,by rw[kc];exact yb as,?_)
   rw[e];exact hS
  ·let(t,ht,U):=O1.mp hp;let(j,hj):=List.getElem?_of_mem ht;let(a1,a2,a3):=at' j t hj;let(x,y,x1,y1,pr):=g.pairs j t.1 a1;let(u1,w1,r1):=ah.get a2;let(u2,w2,r2):=Q.get a3;rw[UQ,w1]at x1;cases x1;rw[UQ,w2]at y1;cases y1;have ai:hh.get? t.1=_:=e.trans pr;exact(by show 2<=j5;decide,[x,y],.cons r1 (.cons r2 .nil),((_,ai,U,_,U),_,ai,U))
end
section
variable{w:World}
theorem Ey{e l:J}{x old:B}{Q:Option B->ϋ->Prop}
  (he:IsEnum s.heap e it i old) (hit:aV s.heap tp it l i) (hl:a9 s.heap tp l items) (hx:items[i]? = Z x) (K:e≠it)
  (hQ:∀ h',IsEnumOut h' e it ((i:Int)+1) x s.heap.objs.size->aV h' tp it l (i+1)->h'.get? s.heap.objs.size=Z { cls:=.type "tuple",data:=.seq #[.int i s.toks,x] }->h'.objs.size=s.heap.objs.size+1 ->
   (∀ b o,b≠e->b≠it->s.heap.get? b=Z o->h'.get? b=Z o)->Q (Z (.ref s.heap.objs.size)) { s with heap:=h',toks:=s.toks+1 }):wpAny (model prog w) A (pyNext (.ref e)) Q E s:=by
 have hT:s.TypeIs (.ref e) "enumerate":=(_,he,U);let(hp,g,d,tk,os):=s;refine cO (TY (wpAny_callSpecial?_slot hT F.slot_enumerate_next (C5 F.slot_enumerate_next hT F.entry_enumerate_next ?_ (F.args_enumerate_next_1 _))));show wpAny _ _ (field (.ref e) 2 >>= _) _ _ _;refine cO (wpAny_field he U U ?_);refine cO (next_item hit hl hx λh1 SQ ai=>?_)
 have aj:=(ai.2 e K).trans he;refine cO (wpAny_field aj U U ?_);refine cO (wpAny_field aj U U ?_);refine cO (wpAny_mkInt ?_);refine cO (wpAny_setField_rec aj (by simp) λh2 a7 ah=>?_)
 refine cO (wpAny_setField_rec a7 (by simp) λh3 a4 V=>?_)
 show wpAny _ _ (newTuple [.int i tk,x] >>= _) _ _ (h3,g,d,tk+1,os);refine cO (wpAny_newTuple ?_);have P:IsEnum (h3.push { cls:=.type "tuple",data:=.seq #[.int i tk,x] }) e it ((i)+1) old:=fx _ a4;have hsz:h3.objs.size=hp.objs.size:=by rw[V.1,ah.1,ai.1]
 have aS:=kf he;have aA:(h3.push { cls:=.type "tuple",data:=.seq #[.int i tk,x] }).get? hp.objs.size=Z { cls:=.type "tuple",data:=.seq #[.int i tk,x] }:=by rw[<- hsz];exact oF _ U
 have ax:(h3.push { cls:=.type "tuple",data:=.seq #[.int i tk,x] }).objs.size=hp.objs.size+1:=by rw[z8,hsz]
 have aM:∀ b o,b≠e->b≠it->hp.get? b=Z o ->(h3.push { cls:=.type "tuple",data:=.seq #[.int i tk,x] }).get? b=Z o:=λb o q ak hb=>fx _ (V.extBut b o q (ah.extBut b o q (ai.extBut b o ak hb)))
 have Q6:aV (h3.push { cls:=.type "tuple",data:=.seq #[.int i tk,x] }) tp it l (i+1):=SQ.at λo eo=>fx _ (V.extBut _ o K.symm (ah.extBut _ o K.symm eo))
 generalize h3.push { cls:=.type "tuple",data:=.seq #[.int i tk,x] }=h4 at P aA ax aM Q6
 rw[hsz];refine cO ?_;refine cO (wpAny_field P U U (ot ?_));refine cO (T9 (cO (wpAny_field P U (x:=old) U (cO (wpAny_setField_rec P (by simp) λh5 a3 aK=>?_)))))
 refine cO ?_;refine cO (wpAny_setField_rec a3 (by simp) λh6 a0 aH=>?_)
 refine wpAny_setField_rec a0 (by simp) λh7 aX aG=>?_
 have up:∀ c o,c≠e->h4.get? c=Z o->h7.get? c=Z o:=λc o hc z=>aG.extBut _ _ hc (aH.extBut _ _ hc (aK.extBut _ _ hc z))
 refine cO (wpAny_letGo (ot (_,U,ot (hQ h7 aX (Q6.at λo eo=>up _ o K.symm eo) (up _ _ (O2 aS) aA) ?_ λb o q ak hb=>up b o q (aM b o q ak hb)))))
 rw[aG.1,aH.1,aK.1,ax]
theorem HN{e l:J}{old:B}{Q:Option B->ϋ->Prop}(z:A.handled=Y)
  (he:IsEnum s.heap e it i old) (hit:aV s.heap tp it l i) (hl:a9 s.heap tp l items) (hx:items[i]? = Y) (P:∀ h',Vi it s.heap h'->Q Y { s with heap:=h' }):wpAny (model prog w) A (pyNext (.ref e)) Q E s:=by
 have hT:s.TypeIs (.ref e) "enumerate":=(_,he,U);refine cO (TY (wpAny_callSpecial?_slot hT F.slot_enumerate_next (C5 F.slot_enumerate_next hT F.entry_enumerate_next ?_ (F.args_enumerate_next_1 _))));show wpAny _ _ (field (.ref e) 2 >>= _) _ _ _;refine cO (wpAny_field he U U ?_);refine cO (next_end z hit hl hx λh' x q g=>?_)
 let(o,ho,K):=g;refine cO (Up (o,ho,K) isSubtype_stop ?_);exact ot (P _ q)
abbrev eH1(tp:Bool)(h:Heap)(l:J):Heap:=h.push { cls:=.type (itc tp),data:=.fields #[.ref l,.int 0 0] }
abbrev eH2(tp:Bool)(h:Heap)(l:J):Heap:=(eH1 tp h l).push { cls:=.type "enumerate",data:=.fields #[.none,.bool ϊ,.ref h.objs.size,rawInt 0,.none,.none] }
def tJ(tp:Bool)(l:J)(xs:Array B) :
  Meets (Builtin.«enumerate.__new__» ([.type "enumerate",.ref l],[])) (λ_ R s=>a9 s.heap tp l xs/\R (.ok (.ret (.ref (eH1 tp s.heap l).objs.size))) { s with heap:=eH2 tp s.heap l }) :=
 .of_wp λprog w A R s h=>by
  let(hl,h):=h;have q:=sub_enumerate;have g:=hl
  wp_walk
  refine wpAny_stack_any λst=>ot ?_
  split
  ·rename_i c _ _ _ _ _
   cases(c==B.type "enumerate")
   ·wp_walk using k6 g
    exact(_,U,h)
   ·wp_walk using k6 g
    exact(_,U,h)
  ·wp_walk using k6 g
   exact(_,U,h)
theorem va{l:J}(hl:a9 s.heap tp l xs)
  (h:∀ h',IsEnum h' (s.heap.objs.size+1) s.heap.objs.size 0 .none->aV h' tp s.heap.objs.size l 0 ->(∀ b o,s.heap.get? b=Z o->h'.get? b=Z o)->Q (.ref (s.heap.objs.size+1)) { s with heap:=h' }) :
  wpAny (model prog w) A (call (.type "enumerate") [.ref l]) Q E s:=by
 refine callType_new F.called_enumerate (by decide) (F.typeCall_enumerate_1 _) (F.newCall_enumerate_1 _) (λobj=>F.args_object_init_2 obj _) F.entry_enumerate_new (tJ tp l xs) (hl,?_)
 have g:(eH1 tp s.heap l).objs.size=s.heap.objs.size+1:=z8 ..;have g2:(eH2 tp s.heap l).get? (eH1 tp s.heap l).objs.size=Z _:=oF _ U;have g1:(eH2 tp s.heap l).get? s.heap.objs.size=Z _:=fx _ (oF _ U);rw[g]at g2 ⊢;exact((_,g2,U),h _ g2 (kC g1) λc o x=>fx _ (fx _ x))
end
def Ite(K:W.Frag)(tp:Bool)(l:J):It :=
 (λi H=>∃ xs x,SqB K tp H l xs/\xs[i]? = Z x,
   λi H v H'=>∃(p:J)(x:V),H p=Y/\v = .ref p/\H'=upd H p (.tup [.int i,x])/\∀ xs,SqB K tp H l xs->xs[i]? = Z x,
   λi H=>∃ xs,SqB K tp H l xs/\xs.length<=i)
variable{P:Program}{elts:List Expr}
theorem Dt{w:World}{K:W.Frag}{x1}{pos:Pos}(e it l:J)(Q:e≠it) :
  Turn P w K (.Tuple elts x1 pos) (Ite K tp l) [e,it] e (λi h=>(∃ old,IsEnum h e it i old)/\aV h tp it l i) where
 mem:=by simp
 obj:=by
  rintro i h ⟨⟨old,h1⟩,h2⟩ c q
  simp only[i8,BL,or_false]at q;rcases q with rfl|rfl
  ·exact(_,h1,λv e=>by cases e)
  ·exact h2.obj
 keep:=by
  rintro i h h' ⟨⟨old,h1⟩,h2⟩ k
  exact((old,k e (by simp) _ h1),h2.at λo z=>k it (by simp) o z)
 item:=by
  intro X hP hw hK q i gd s σ H E I hf st hg;subst hP hw hK;let((old,h1),h2):=st;let(xs,x,q1,e1):=hg;let(its,rv,o1,z1):=I.FO q1;let(u1,aj,ai):=rv.get e1;refine Ey h1 h2 o1 (x:=u1) (by simpa using aj) Q λh' ak aA aG Tj ax=>(_,U,(wpAny_letOwnedTupleGo_enum ak λah SS SJ=>?_))
  have hn:=I.hok.fresh (lx s.heap.objs.size);have le:=kf h1;let(oi,aH,_):=h2.obj;have li:=kf aH;have Sy:∀ b ∈ [e,it],b≠s.heap.objs.size:=λb g=>by
   simp only[i8,BL,or_false]at g;rcases g with rfl|rfl
   ·exact u4 le
   ·exact u4 li
  have up:∀ c o,c≠e->h'.get? c=Z o->ah.get? c=Z o:=λc o q z=>SJ.extBut _ _ q z
  have I1:Inv X gd σ (upd H s.heap.objs.size (.tup [.int i,x])) { s with heap:=s.heap.push { cls:=.type "tuple",data:=.seq #[.int i s.toks,u1] },toks:=s.toks+1 } :=
   I.laid (λb u z=>fx _ z) (lx _) (by show 2<=j5;decide,[.int i s.toks,u1],.cons (_,U) (.cons ai .nil),((_,oF _ U,U,_,U),_,oF _ U,U))
  have V:∀ b ∈ [e,it],vf X gd (upd H s.heap.objs.size (.tup [.int i,x])) b:=λb g=>by
   let(f0,r):=hf b g;exact(by rw[ao (Sy b g)];exact f0,r)
  have I2:=by
   refine I1.BR (h':=ah) (t':=s.toks+1) (λb o g z=>?_) V
   simp only[i8,BL,or_false,not_or]at g;let(b1,b2):=g;rcases Heap.get?_push_cases z with⟨rfl,rfl⟩|z'
   ·exact up _ _ b1 aG
   ·exact up _ _ b1 (ax b o b1 b2 z')
  exact(.ref s.heap.objs.size,upd H s.heap.objs.size (.tup [.int i,x]),I2,U,(_,x,hn,U,U,λzs hz=>by rw[I.FN hz q1];exact e1),(((_,by simpa using SS),aA.at λo z=>up _ _ Q.symm z)),λb g=>(V b g).1)
 done:=by
  intro X hP hw hK q i gd s σ H E I hf st hg;subst hP hw hK;let((old,h1),h2):=st;let(xs,q1,xl):=hg;let(its,rv,o1,z1):=I.FO q1;have g1:=rv.length;refine HN (I.ok.hd q) h1 h2 o1 (by simp;lia) λh' k=>(U,I.BR (λb o g z=>?_) hf)
  simp only[i8,BL,or_false,not_or]at g;exact k b o g.2 z
 self:=λ_ _ _ _ _ st h=>let((_,z),_):=st;wpAny_pyIter_enum z h
def Cz(K:W.Frag)(tp:Bool)(ta:TA):TI:=λσ H R=>ta σ H λvs H1=>∃ l,vs = [.ref l]/\(∃ xs,SqB K tp H1 l xs)/\R (Ite K tp l) H1
variable{pos':Pos}{p:Pos}
def J5{x1}{a:Expr}{ta:TA}{pos:Pos}(hg:Gl X "enumerate")(hm:X.mg "enumerate" = Y)(tZ:bootBuiltins "enumerate" = Z (.type "enumerate"))(ha:PA X [a] ta)(hs:iS [a] X.env = [(ϊ,eval a X.env)]:=by rfl) :
  PI X (.Tuple elts x1 pos') (.Call (.Name "enumerate" p) [a] [] pos) (Cz X.K tp ta):=by
 intro gd s σ H R I h;refine Call_ (i6 I hg hm tZ (PyProof.Rows.callWith_type1 (thn (ha pos gd s σ H _ I h) λus s1 (vs,H1,P,r1,q1)=>?_) hs U))
 let(l,e,(xs,q2),q):=q1;subst e;let(u1,U,Q):=vals1 r1;cases Q;let(its,rv,o1,z1):=P.FO q2;refine va o1 λh' he hi hk=>wpAny_pyIter_enum he ?_
 refine(_,[s1.heap.objs.size+1,s1.heap.objs.size],_,_,H1,U,P.kept hk,Dt _ _ l (λz=>absurd (show @Eq Nat _ _ from z) (by lia)),((_,he),hi),λc V=>?_,q)
 have g:s1.heap.objs.size<=c:=by
  simp only[i8,BL,or_false]at V;rcases V with rfl|rfl <;> first|exact Nat.le_add_right _ _|exact lx _
 exact P.Eu g (P.hok.fresh g)
end L2
namespace PySem
open Sem (wp)
end PySem
namespace L2
open PySem PySem.Spec PyProof.Rows
section
variable{X:Cx}{gd:List (J×Obj)}{σ:St}{H:Hp}{s:ϋ}{a:J}{u u':HO}
def Inv.Pk(I:Inv X gd σ H s)(ha:H a=Z u)(h1:∀ xs,u ≠ .tup xs)(h2:∀ c,u ≠ .own c)(h3:∀ ps,u ≠ .tbl ps)(P:∀ o v,X.H₀ a≠Z (.frz o v))(new:cJ X.prog X.w (upd H a u') s.heap a u'):Inv X gd σ (upd H a u') s:=by
 have ne:∀{b:J},H b=Y->b≠a:=λ{b} e z=>by rw[z,ha]at e;cases e
 refine(I.ok,I.os,I.bare,(I.base.keep,I.base.slot,λb o e n hx=>?_,I.base.there,λb xs e=>?_,λb o v e=>?_,λb ps e=>?_),I.loc,I.cell,?_,λx c e=>?_,λp hp=>?_,λb o e=>?_,I.len)
 ·have:=I.base.free b o e n hx
  rw[ao (ne this)];exact this
 ·have:=I.base.rg b xs e
  rw[ao λz=>by rw[z,ha]at this;exact h1 xs (Option.some.inj this)]
  exact this
 ·have:=I.base.nT b o v e
  rw[ao λz=>by rw[z]at e;exact P o v e]
  exact this
 ·let(more,this):=I.base.rh b ps e;refine(more,?_);rw[ao λz=>by rw[z,ha]at this;exact h3 _ (Option.some.inj this)]
  exact this
 ·rw[ao (ne I.free)];exact I.free
 ·rw[ao (ne (I.jW x c e))];exact I.jW x c e
 ·let(p1,p2,K):=I.pin p hp;exact(p1,by rw[ao (ne p2)];exact p2,K)
 ·by_cases g:b=a
  ·subst g;rw[aB]at e;cases e;exact new
  ·rw[ao g]at e;refine(I.hok b o e).c6 (λ_ _ _ q=>q) (λc q=>?_) λc xs q=>?_
   ·rw[ao λz=>by rw[z,ha]at q;exact h2 _ (Option.some.inj q)];exact q
   ·rw[ao λz=>by rw[z,ha]at q;exact h1 _ (Option.some.inj q)];exact q
end
end L2
namespace PySem
open Sem (wp)
section
variable{prog:Program}{w:World}{A:Around}{E:B->ϋ->Prop}{h:Heap}{g:Array GenState}{d:Drawn}{t:Nat}{os:OsState}
variable{nm q:Str}{C N:J}{bs bm bmB:List B}{xm:Bool}{sn:List Str}{sub:List B}{ab:Bool}{col:Option Bool}{dd:Option J}{k0 k1 k2 k3 k5:Option B}{Vm newId Hs:String}
theorem q9(F:ExcBaseFacts Vm newId Hs bmB)(T:OwnTail h bmB bm){mN:Str->Option B}{rest:List B}{fI:J}{oI:Obj}{Q:Fin->ϋ->Prop}
  (K:h.get? C=Z (excClassObj nm q C N bs bm xm sn sub ab col dd k0 k1 k2 k3 k5 newId)) (hn:h.Ns N mN) (hi:mN "__init__" = Z (.ref fI)) (ah:h.get? fI=Z oI) (V:oI.cls = .type "function")
  (hq:∀ h' e,TJ h h' e (.ref C) rest->wpAny (model prog w) A (call (.ref fI) (.ref e::rest)) (λr s'=>r = .none/\Q (.done (.ret (.ref e))) s') E (h',g,d,t,os)) (tY:rest.length<=j5) :
  wpAny (model prog w) A (Builtin.«type.__call__» (.ref C::rest,[])) Q E (h,g,d,t,os):=by
 repeat (first|with_reducible refine wpAny_loadPart_at K ?_|with_reducible refine wpAny_madeBy_exc K ?_|wp_step)
 refine codeAny_call_builtin_code (Code.quiet_builtin _ F.quiet) (wpAny_check_new_subT F T K ?_);refine codeAny_exc_new_subT F T K ?_ tY;show wpAny _ _ _ _ _ _;have z:=fx { cls:=.ref C,data:=.fields #[.ref h.objs.size,.none,.none,.none,.bool ϊ,.none] } (fx { cls:=.type "tuple",data:=.seq rest.toArray } K);have SR:=fx { cls:=.ref C,data:=.fields #[.ref h.objs.size,.none,.none,.none,.bool ϊ,.none] } (fx { cls:=.type "tuple",data:=.seq rest.toArray } ah);have P:((h.push { cls:=.type "tuple",data:=.seq rest.toArray }).push { cls:=.ref C,data:=.fields #[.ref h.objs.size,.none,.none,.none,.bool ϊ,.none] }).Ns N mN :=
  let(o,es,ep,e,r):=hn;(o,es,ep,fx _ (fx _ e),r)
 have Q7:((h.push { cls:=.type "tuple",data:=.seq rest.toArray }).push { cls:=.ref C,data:=.fields #[.ref h.objs.size,.none,.none,.none,.bool ϊ,.none] }).get? (h.objs.size+1)=Z { cls:=.ref C,data:=.fields #[.ref h.objs.size,.none,.none,.none,.bool ϊ,.none] }:=by heap_get
 have ai:(B.ref C::bm).contains (.ref C)=true:=by simp
 have T1:=T.keeps (h':=(h.push { cls:=.type "tuple",data:=.seq rest.toArray }).push { cls:=.ref C,data:=.fields #[.ref h.objs.size,.none,.none,.none,.bool ϊ,.none] }) λb o e=>fx _ (fx _ e)
 unfold isInstance
 repeat (first|with_reducible refine wpAny_loadPart_at Q7 ?_ |(with_reducible refine wpAny_isSubtype_exc z ?_;rw[ai])|wp_step)
 show wpAny _ _ (typeLookup (.ref C) _) _ _ _;refine wpAny_typeLookup_tail z P T1 F.mroIs F.init.lookup ?_;rw[hi];refine O0 (cO ?_);unfold bindSpecial;refine cO (TU (T:="function") (_,SR,V) ?_);rw[if_pos (by decide)]
 refine ot (cO (OZ (hq _ (h.objs.size+1) (λb o hb=>fx _ (fx _ hb),E3 (Vh _),h.objs.size,Q7,E3 (lx _),?_)) (λr s' hr=>?_) λ_ _ x=>x))
 ·exact fx _ (U8 U U)
 ·let(U,hQ):=hr
  wp_walk
  exact hQ
def By(F:ExcBaseFacts Vm newId Hs bmB)(T:OwnTail h bmB bm){mN:Str->Option B}{rest:List B}{V:J}{oI:Obj}{Q:B->ϋ->Prop}
  (z:h.get? C=Z (excClassObj nm q C N bs bm xm sn sub ab col dd k0 k1 k2 k3 k5 newId)) (hn:h.Ns N mN) (hi:mN "__init__" = Z (.ref V)) (P:h.get? V=Z oI) (K:oI.cls = .type "function")
  (hq:∀ h' e,TJ h h' e (.ref C) rest->wpAny (model prog w) (A.under (.builtin "type.__call__" (.ref C::rest,[]))) (call (.ref V) (.ref e::rest)) (λr s'=>r = .none/\Q (.ref e) s') E (h',g,d,t,os)) (tY:rest.length<=j5) :
  wpAny (model prog w) A (call (.ref C) rest) Q E (h,g,d,t,os):=by
 have f1:=tc_lookup;have f2:=tc_bind (.ref C);have hT:((h,g,d,t,os):ϋ).TypeIs (.ref C) "type":=(_,z,U);refine wpAny_call (codeAny_of_tree ?_);show wpAny _ _ (callAny (.ref C) _) _ _ _
 repeat (any_goals (first|assumption|with_reducible refine wpAny_loadPart_at z ?_|wp_step))
 refine(U,?_);refine codeAny_call_builtin_at (Code.quiet_builtin _ (by decide +kernel)) entry_typeCall (wpAny_check_type_call_sub z (q9 F T z hn hi P K (λh' e hm=>?_) tY))
 exact hq h' e hm
end
end PySem
namespace PySem
open Sem (wp)
open Builtin Builtin.ObjectAttr
inductive fG(h:Heap)(S:List Str)(bmB:List B):List B->Prop
 | base:fG h S bmB bmB
 | own{A:J}{c0:B}{dd:Option J}{cd:ClassData}{sl:Array (Option B)}{mA:Str->Option B}{tl:List B} :
   h.get? A=Z { cls:=c0,dict:=dd,data:=.cls cd,slots:=sl }->h.Ns cd.ns mA ->(∀ n∈S,mA n=Y)->fG h S bmB tl->fG h S bmB (.ref A::tl)
def fG.tail{h:Heap}{S:List Str}{bmB tl:List B}(q:("__init__":Str)∈S)(T:fG h S bmB tl):OwnTail h bmB tl:=by
 induction T with
 | base=>exact .base
 | own K z hn _ g=>exact .own K z (hn _ q) g
def fG.hasType{h:Heap}{S:List Str}{bmB tl:List B}(T:fG h S bmB tl){X:String}{b:Bool}(q:bmB.contains (.type X)=b):tl.contains (.type X)=b:=by
 induction T with
 | base=>exact q
 | own _ _ _ _ g=>rw[Ux,g];rfl
def fG.refuse{h:Heap}{S:List Str}{bmB tl:List B}(T:fG h S bmB tl)(self:B)(g:Str):refuseLoop self g tl=refuseLoop self g bmB:=by
 induction T with
 | base=>rfl
 | own _ _ _ _ q=>rw[refuseLoop_ref,q]
section
variable{M:Model}{prog:Program}{w:World}{A:Around}{E:B->ϋ->Prop}{h:Heap}{g:Array GenState}{d:Drawn}{t:Nat}{os:OsState}
variable{nm q:Str}{C N x:J}{bs bm bmB:List B}{sn:List Str}{sub:List B}{ab xm:Bool}{col:Option Bool}{dd:Option J}{k0 k1 k2 k3 k5:Option B}{Vm newId sa owner:String}
 {mN mA:Str->Option B} {name:Str} {v:B} {S:List Str}
def zT{y:Option B}{Q:Option B->ϋ->Prop}(hs:name∈S)(T:fG h S bmB bm)(q:lookupAlong bmB name=pure y)(K:Q y (h,g,d,t,os)):wpAny M A (lookupAlong bm name) Q E (h,g,d,t,os):=by
 induction T with
 | base=>rw[q];exact ot K
 | own V P hn _ z =>
  rw[lookupAlong_cons];refine cO (wpAny_classOwn_cls V P ?_);rw[hn _ hs];exact z
def nL{y:Option B}{Q:Option B->ϋ->Prop}(hs:name∈S)(P:h.get? C=Z (excClassObj nm q C N bs bm xm sn sub ab col dd k0 k1 k2 k3 k5 newId))(hn:h.Ns N mN)(T:fG h S bmB bm)(K:mroOf (.type Vm)=pure bmB)
  (V:typeLookup (.type Vm) name=pure y) (z:Q (match mN name with|some v=>Z v|none=>y) (h,g,d,t,os)):wpAny M A (typeLookup (.ref C) name) Q E (h,g,d,t,os):=by
 have tY:lookupAlong bmB name=pure y:=by rw[typeLookup_eq,K]at V;exact V
 rw[typeLookup_eq];refine cO (wpAny_mroOf_exc P ?_);rw[lookupAlong_cons];refine cO (wpAny_classOwn_exc P hn ?_);cases hv:mN name with
 | some v=>rw[hv]at z;exact ot z
 | none=>rw[hv]at z;exact zT hs T tY z
def EH{o:Obj}{K:B}{Q:Unit->ϋ->Prop}(z:StoreFacts Vm bmB sa owner)(T:fG h S bmB bm)
  (hC:h.get? C=Z (excClassObj nm q C N bs bm O sn sub ab col dd k0 k1 k2 k3 k5 newId)) (hx:h.get? x=Z o) (hc:o.cls = .ref C) (V:Q () (h,g,d,t,os)):wpAny M A (checkBuiltinCall sa ([.ref x,K,v],[])) Q E (h,g,d,t,os):=by
 have P:(B.ref C::bm).contains (.type owner)=true:=by rw[Ux,T.hasType z.hasOwner,Bool.or_true]
 have ha:=z.args (.ref x) K v;simp only[checkBuiltinCall,z.kind,z.split];refine cO ?_;unfold isInstance
 repeat (first |(with_reducible refine wpAny_loadPart_at hx ?_;rw[hc]) |(with_reducible refine wpAny_isSubtype_exc hC ?_;rw[P])|wp_step)
 cases SI:Manifest.signature? sa with
 | none=>exact ot V
 | some sig =>
  simp only[argsOk,SI]at ha;have h2:Bind.checkArgs sa sig ([.ref x,K,v],[])=pure ():=ha;show wpAny M A (Bind.checkArgs sa sig ([.ref x,K,v],[])) Q E _;rw[h2];exact ot V
def v8{tk:Tok}{Q:Fin->ϋ->Prop}{ns:List Str}(SF:StoreFacts Vm bmB sa owner)(T:fG h S bmB bm)(hs:name∈S)
  (hC:h.get? C=Z (excClassObj nm q C N bs bm O sn sub ab col dd k0 k1 k2 k3 k5 newId)) (hn:h.Ns N mN) (a7:mN name=Y) (hB:typeLookup (.type Vm) name=pure Y) (bD:x≠C) (I:h.Inst x C mA)
  (hq:∀ h' aX,h'.Inst x C (λy=>if y=name then Z v else mA y) ->(∀ b o,b≠x ->(∀ z dx,h.get? x=Z z->z.dict=Z dx->b≠dx)->h.get? b=Z o->h'.get? b=Z o) ->
   (∀ z,h.get? x=Z z->∃ K,h'.get? x=Z K/\K.cls=z.cls/\K.data=z.data/\K.slots=z.slots/\(∀ dx,z.dict=Z dx->K.dict=Z dx)/\(z.dict=Y->K.dict=Z h.objs.size))->Q (.done (.ret .none)) (h',g,d,aX,os)) (hw:Within mA ns) (hsz:ns.length+1<=j5) :
  wpAny (model prog w) A (Builtin.«object.__setattr__» ([.ref x,.str name tk,v],[])) Q E (h,g,d,t,os):=by
 let(o,hx,hc,ax,hd):=I;have Q0:=(T.refuse (.ref x) "__setattr__").trans (SF.passes (.ref x));unfold Builtin.«object.__setattr__»
 repeat (first|rw[refuse_eq] |(rw[refuseLoop_ref,Q0]) |(with_reducible refine wpAny_loadPart_at hx ?_;rw[hc])|with_reducible refine wpAny_mroOf_exc hC ?_ |(with_reducible refine nL hs hC hn T SF.mro hB ?_;rw[a7])|wp_step)
 rcases hd with⟨aS,bo⟩ |⟨dx,ah,ak,a3⟩
 ·rw[aS,if_neg (by simp[typeHasDict])]
  split
  ·rename_i aG;cases aG
  split
  ·rename_i c aG;exact absurd aG (ax c)
  ·have aK:(h.push { cls:=.type "dict",data:=.dict #[] }).get? x=Z o:=fx _ hx;have ai:x≠h.objs.size:=u4 (kf hx);refine cO (wpAny_alloc' ?_);refine cO (wpAny_update' aK ?_);refine ot ?_;have bt:((h.push { cls:=.type "dict",data:=.dict #[] }).update x λo=>{ cls:=o.cls,dict:=Z h.objs.size,data:=o.data,slots:=o.slots }).get? h.objs.size=Z { cls:=.type "dict",data:=.dict #[] } :=
    (UW _ _ _ _ ai.symm).trans (U8 U U)
   have a4:((h.push { cls:=.type "dict",data:=.dict #[] }).update x λo=>{ cls:=o.cls,dict:=Z h.objs.size,data:=o.data,slots:=o.slots }).Ns h.objs.size (λ_=>Y) :=
    (_,#[],_,bt,U,λe he=>absurd he (by simp),λ_=>rfl)
   show wpAny _ _ (storeInDict h.objs.size (.str name tk) name v) _ _ _;unfold storeInDict newKeyGuard;refine cO (ot (cO (wpAny_nsSet1 (Heap.Ns1.of_empty a4) λh' V P=>?_)))
   let(oD,bz,bA,aj,aA,aH):=V.count (Within.cons name v Within.nil);refine cO (wpAny_lookBehind aj (by rw[aA];exact pastItsLine_dict (uj aH (by rw[mu,T2,Tx];omega))) ?_)
   wp_walk
   have aM:h'.get? x=Z { cls:=o.cls,dict:=Z h.objs.size,data:=o.data,slots:=o.slots }:=?_;refine hq h' _ ({ cls:=o.cls,dict:=Z h.objs.size,data:=o.data,slots:=o.slots },aM,hc,ax,.inr (h.objs.size,U,ai.symm,?_)) (λb ob bw _ hb=>?_)
    (λz h₀=>by obtain rfl:o=z:=Option.some.inj (hx.symm.trans h₀);exact(_,aM,U,U,U,λdx e=>(by rw[aS]at e;cases e),λ_=>rfl))
   ·let(o',es,ep,e1,e2,e3,eu,e4):=V;exact(o',es,ep,e1,e2,e3,eu,λy=>by rw[e4 y];by_cases hy:y=name <;> simp[hy,bo])
   ·exact(P.2 b (u4 (kf hb))).trans ((UW _ _ _ _ bw).trans (fx _ hb))
   ·refine(P.2 x ai).trans (xR _ aK ?_);have bu:=(Heap.get?_some_iff.mp hx).2;let(oc,od,a0,osl):=o;cases a0 <;> first|rfl|exact bu
 ·rw[ah];refine ot ?_;show wpAny _ _ (storeInDict dx (.str name tk) name v) _ _ _;unfold storeInDict newKeyGuard;refine cO (ot (cO (wpAny_nsSet1 a3 λh' V P=>?_)))
  let(oD,bz,bA,aj,aA,aH):=V.count (Within.cons name v hw);refine cO (wpAny_lookBehind aj (by rw[aA];exact pastItsLine_dict (uj aH (by rw[mu];omega))) ?_)
  wp_walk
  refine hq h' _ (o,(P.2 x ak.symm).trans hx,hc,ax,.inr (dx,ah,ak,V)) (λb ob _ bx hb=>?_) (λz h₀=>(z,(P.2 x ak.symm).trans h₀,U,U,U,λ_ e=>e,λe=>(by obtain rfl:o=z:=Option.some.inj (hx.symm.trans h₀);rw[ah]at e;cases e)))
  exact(P.2 b (bx o dx hx ah)).trans hb
def qm{Q:Unit->ϋ->Prop}{ns:List Str}(V:StoreFacts Vm bmB sa owner)(T:fG h S bmB bm)(hs:name∈S)(ai:("__setattr__":Str)∈S)
  (hC:h.get? C=Z (excClassObj nm q C N bs bm O sn sub ab col dd k0 k1 k2 k3 k5 newId)) (hn:h.Ns N mN) (aj:mN "__setattr__" = Y) (ak:mN name=Y) (hB:typeLookup (.type Vm) name=pure Y) (ah:x≠C) (I:h.Inst x C mA)
  (hq:∀ h' P,h'.Inst x C (λy=>if y=name then Z v else mA y) ->(∀ b o,b≠x ->(∀ z dx,h.get? x=Z z->z.dict=Z dx->b≠dx)->h.get? b=Z o->h'.get? b=Z o) ->
   (∀ z,h.get? x=Z z->∃ K,h'.get? x=Z K/\K.cls=z.cls/\K.data=z.data/\K.slots=z.slots/\(∀ dx,z.dict=Z dx->K.dict=Z dx)/\(z.dict=Y->K.dict=Z h.objs.size))->Q () (h',g,d,P,os)) (hw:Within mA ns) (hsz:ns.length+1<=j5) :
  wpAny (model prog w) A (setAttr (.ref x) name v) Q E (h,g,d,t,os):=by
 let(o,hx,hc,_):=id I;have f3:=V.slot.bind (.ref x);unfold setAttr callSpecial? specialOf
 repeat (any_goals (first|assumption |(with_reducible refine wpAny_loadPart_at hx ?_;rw[hc]) |(with_reducible refine nL ai hC hn T V.mro V.slot.lookup ?_;rw[aj])|wp_step))
 refine codeAny_call_builtin V.slot.plain V.entry (EH V T hC hx hc (v8 V T hs hC hn ak hB ah I (λh' P I' hk qI=>?_) hw hsz))
 repeat (any_goals (first|assumption|wp_step))
 exact hq h' P I' hk qI
end
end PySem
namespace PySem
open Sem (wp)
open Builtin Builtin.ObjectAttr
section
variable{nm q:Str}{C N x:J}{bs bm bmB:List B}{sn:List Str}{sub:List B}{ab xm:Bool}{col:Option Bool}{dd:Option J}{k0 k1 k2 k3 k5:Option B}{Vm newId:String}
 {mN mA:Str->Option B} {name:Str} {v:B} {S:List Str} {o:Obj}
end
end PySem
namespace PySem
open Sem (wp)
def uF(h:Heap)(e:J)(cls:B)(dx:Option J)(y:B):Prop :=
 ∃ o vs g,h.get? e=Z o/\o.cls=cls/\o.dict=dx/\o.data = .fields vs/\vs[0]? = Z g/\vs[1]? = Z y
def j9(h:Heap)(e:J)(cls:B)(dx:Option J)(T:J)(fl:B):Prop :=
 T≠e/\uF h e cls dx (.ref T)/\∃ oT ts,h.get? T=Z oT/\oT.data = .fields ts/\ts[3]? = Z fl
structure gg(fr ex:List J)(h h':Heap):Prop where
 keep:∀ b o,h.get? b=Z o->b ∉ fr->b ∉ ex->h'.get? b=Z o
 slot:∀ b o,h.get? b=Z o->b ∉ ex->∃ sl,h'.get? b=Z { o with slots:=sl }
 there:∀ b o,h.get? b=Z o->∃ o',h'.get? b=Z o'
def gg.trans{fr ex g:List J}{h h1 h2:Heap}(a:gg fr ex h h1)(b:gg fr g h1 h2)(hs:∀ b o,h.get? b=Z o->b∈g->b∈ex):gg fr ex h h2 where
 keep:=λc o e hf hx=>b.keep c o (a.keep c o e hf hx) hf λz=>hx (hs c o e z)
 slot:=λc o e hx=>by
  let(sl,K):=a.slot c o e hx;let(q,P):=b.slot c _ K λz=>hx (hs c o e z)
  exact(q,P)
 there:=λc o e=>let(o',K):=a.there c o e;b.there c o' K
def gg.mono{fr fr' ex ex':List J}{h h1:Heap}(a:gg fr ex h h1)(hf:∀ b∈fr,b∈fr')(hx:∀ b∈ex,b∈ex'):gg fr' ex' h h1 :=
 (λb o e n m=>a.keep b o e (λz=>n (hf b z)) λz=>m (hx b z),λb o e m=>a.slot b o e λz=>m (hx b z),a.there)
def gg.nS{fr ex:List J}{h h1 base:Heap}{l:List Env}(a:gg fr ex h h1)(hx:∀ b o,b∈ex->h.get? b=Z o->∃ vs,o.data = .fields vs)(hl:h.FunFrames base l):h1.FunFrames base l :=
 hl.of_keeps λb o e hn=>by
  let(sl,q):=a.slot b o e λz=>by let(vs,q):=hx b o z e;exact hn vs q
  exact(_,q,U)
def kB{h:Heap}{T i:Nat}{x:B}{oT:Obj}{ts:Array B}(hT:h.get? T=Z oT)(hd:oT.data = .fields ts):gg [] [T] h (h.update T (Ur (·.setIfInBounds i x))):=by
 have q:∀ b,b≠T ->(h.update T (Ur (·.setIfInBounds i x))).get? b=h.get? b:=λb g=>xO _ _ (Ne.symm g)
 refine(λb o e _ n=>(q b λz=>n (by simp[z])).trans e,λb o e n=>(o.slots,(q b λz=>n (by simp[z])).trans e),λb o e=>?_)
 by_cases g:b=T
 ·rw[g];exact(_,xR _ hT (TC (Q9 hd _)))
 ·exact(o,(q b g).trans e)
section
variable{M:Model}{A:Around}{E:B->ϋ->Prop}{s:ϋ}
variable{base:Heap}{env:Env}{outer:List Env}{L e T:J}{cls:B}{dx:Option J}{Q:Unit->ϋ->Prop}
def HQ{y head:B}{KZ:Bool}(ai:A.frames=Z (env::outer))(hl:s.heap.FunFrames base (env::outer))(hf:env.frame=Z L)(hx:uF s.heap e cls dx y)
  (hq:∀ h' T',s.heap.objs.size<=T'->j9 h' e cls dx T' (rawInt L)->gg ((env::outer).filterMap (·.frame)) [e] s.heap h'->Q () { s with heap:=h' }) :
  wpAny M A (do let a <- frameOf env;let pl <- entryPlaceOf L KZ;let b <- EntryCells.newEntry head a .none (rawInt L) .none pl;setField (.ref e) 1 b) Q E s:=by
 let(o,vs,a0,ho,hc,aj,hd,h0,h1):=hx;have hsz:1<vs.size:=(TK.mp h1).1;have ah:e ∉ (env::outer).filterMap (·.frame):=λz=>by
  let(_,o',P,hn):=hl.mem z;rw[ho]at P;cases P;exact hn vs hd
 refine cO (wpAny_frameOf_fun ai hl hf λg hg=>?_)
 refine cO (wpAny_entryPlaceOf λpl K=>?_)
 unfold EntryCells.newEntry newFields;refine cO (TH ?_ (K.sizeOk5 _ _ _ _ _));have e1:g.get? e=Z o:=(hg.2.1 e ah).trans ho;have e2:=fx (h:=g) { cls:=.type "traceback",dict:=Y,data:=.fields ([head,.ref L,.none,rawInt L,.none]++(if pl.isEmpty then uA 6 B.none else pl)).toArray } e1
 have V:g.objs.size≠e:=O2 (kf e1);have d3:=Q9 hd (·.setIfInBounds 1 (B.ref g.objs.size));have e3:=xR (Ur (·.setIfInBounds 1 (B.ref g.objs.size))) e2 (TC d3);refine Ui e2 hd hsz (hq _ g.objs.size (UI hg.1.symm) (V,(_,_,a0,e3,(U7 _ _).trans hc,?_,d3,by rw[Array.getElem?_setIfInBounds_ne (by decide)];exact h0,by simp[hsz]),?_) ?_)
 ·rw[<- aj];let(_,_,dt,_):=o;cases dt <;> rfl
 ·exact(_,_,(xO _ _ (Ne.symm V)).trans (oF g U),U,by first |(simp;done) |(rcases K with rfl |⟨_,_,_,_,_,_,_,rfl⟩ <;> simp))
 ·have kp:∀ b ob,b≠e->g.get? b=Z ob ->((g.push { cls:=.type "traceback",dict:=Y,data:=.fields ([head,.ref L,.none,rawInt L,.none]++(if pl.isEmpty then uA 6 B.none else pl)).toArray }).update e (Ur (·.setIfInBounds 1 (B.ref g.objs.size)))).get? b=Z ob :=
   λb ob hb q=>(xO _ _ (Ne.symm hb)).trans (fx _ q)
  refine(λb ob q n m=>kp b ob (λz=>m (by simp[z])) ((hg.2.1 b n).trans q),λb ob q m=>?_,λb ob q=>?_)
  ·let(sl,q2):=hg.2.2 b ob q;exact(sl,kp b _ (λz=>m (by simp[z])) q2)
  ·by_cases hb:b=e
   ·rw[hb];exact(_,e3)
   ·let(sl,q2):=hg.2.2 b ob q;exact(_,kp b _ hb q2)
def sP{fl:B}(hx:j9 s.heap e cls dx T fl)(P:∀ h',j9 h' e cls dx T .none->gg [] [T] s.heap h'->Q () { s with heap:=h' }):wpAny M A (setFlight (.ref e) Y) Q E s:=by
 let(z,(o,vs,a0,ho,V,K,hd,h0,h1),oT,ts,hT,g,h3):=hx;have q:3<ts.size:=(TK.mp h3).1;unfold setFlight;refine cO (wpAny_field ho hd h1 ?_);rw[if_pos (show(B.ref T != B.none)=O from by simp)]
 refine Ui hT g q (P _ (z,(o,vs,a0,(xO _ _ z).trans ho,V,K,hd,h0,h1),_,_,xR _ hT (TC (Q9 g _)),Q9 g _,by simp[q]) (kB hT g))
def ze(g:A.frames=Z (env::outer))(hl:s.heap.FunFrames base (env::outer))(hf:env.frame=Z L)(hx:uF s.heap e cls dx .none)
  (z:∀ h' q,s.heap.objs.size<=q->j9 h' e cls dx q (rawInt L)->gg ((env::outer).filterMap (·.frame)) [e] s.heap h'->Q () { s with heap:=h' }):wpAny M A (noteFrame (.ref e) env) Q E s:=by
 let(o,vs,V,ho,P,K,hd,h0,h1):=id hx;unfold noteFrame;simp only[hf];refine cO (wpAny_field ho hd h1 ?_);rw[if_neg (by decide)]
 exact HQ g hl hf hx z
def A5(V:A.frames=Z (env::outer))(hl:s.heap.FunFrames base (env::outer))(hf:env.frame=Z L)(hx:j9 s.heap e cls dx T .none)
  (hq:∀ h' K,s.heap.objs.size<=K->j9 h' e cls dx K (rawInt L)->gg ((env::outer).filterMap (·.frame)) [e,T] s.heap h'->Q () { s with heap:=h' }):wpAny M A (noteFrame (.ref e) env) Q E s:=by
 let(aj,(o,vs,a0,ho,hc,ah,hd,h0,h1),oT,ts,hT,g,h3):=hx;unfold noteFrame;simp only[hf];refine cO (wpAny_field ho hd h1 ?_);rw[if_pos (show(B.ref T != B.none)=O from by simp)]
 refine cO (wpAny_field hT g h3 ?_);rw[if_neg (show ¬((B.none==rawInt L)=O)from by simp[rawInt])]
 refine cO (Ui hT g (TK.mp h3).1 ?_);have k1:=kB (i:=3) (x:=B.none) hT g;have P:∀ b ob,b ∈ [T]->s.heap.get? b=Z ob->∃ ws,ob.data = .fields ws:=λb ob hb q=>by
  have ai:b=T:=by simpa using hb
  subst ai;rw[hT]at q;cases q;exact(ts,g)
 refine HQ (y:=.ref T) V (k1.nS P hl) hf (o,vs,a0,(xO _ _ aj).trans ho,hc,ah,hd,h0,h1) λh' K sz al k2=>hq h' K ?_ al ?_
 ·have:(s.heap.update T (Ur (·.setIfInBounds 3 B.none))).objs.size=s.heap.objs.size:=by simp[Heap.update]
  exact uj (UI this.symm) sz
 ·exact(k1.mono (fr':=(env::outer).filterMap (·.frame)) (ex':=[e,T]) (λ_ z=>nomatch z) (λb z=>by simp at z;simp[z])).trans k2 λb ob _ z=>by simp at z;simp[z]
def tQ(g:A.frames=Z (env::outer))(hl:s.heap.FunFrames base (env::outer))(hf:env.frame=Z L)(hx:uF s.heap e cls dx .none)
  (hq:∀ h' T',s.heap.objs.size<=T'->j9 h' e cls dx T' .none->gg ((env::outer).filterMap (·.frame)) [e] s.heap h'->Q () { s with heap:=h' }):wpAny M A (leaving env (.ref e)) Q E s:=by
 unfold leaving;refine cO (ze g hl hf hx λh1 V sz al k1=>sP al λh2 P k2=>hq h2 V sz P ?_)
 exact k1.trans (k2.mono (λ_ z=>nomatch z) λb z=>z) λb ob q z=>by
  have K:b=V:=by simpa using z
  subst K;exact absurd (xP (kf q) sz) (Ti _)
def u0(g:A.frames=Z (env::outer))(hl:s.heap.FunFrames base (env::outer))(hf:env.frame=Z L)(hx:j9 s.heap e cls dx T .none)
  (hq:∀ h' T',s.heap.objs.size<=T'->j9 h' e cls dx T' .none->gg ((env::outer).filterMap (·.frame)) [e,T] s.heap h'->Q () { s with heap:=h' }):wpAny M A (leaving env (.ref e)) Q E s:=by
 unfold leaving;refine cO (A5 g hl hf hx λh1 V sz al k1=>sP al λh2 P k2=>hq h2 V sz P ?_)
 exact k1.trans (k2.mono (λ_ z=>nomatch z) λb z=>z) λb ob q z=>by
  have K:b=V:=by simpa using z
  subst K;exact absurd (xP (kf q) sz) (Ti _)
end
end PySem
namespace L2
open PySem PySem.Spec PyProof.Rows
abbrev bmV:List Value:=[.type "ValueError",.type "Exception",.type "BaseException",.type "object"]
abbrev xS(fn:List Str):List Str:="__setattr__" :: "__getattribute__" :: "__getattr__" :: "__class__" :: fn
structure pZ(K:W.Frag)(fn:List Str)(C:J)(bm:List B)(ini:Option J):Prop where
 all:∀ h:Heap,K.In h->∃ nm q N bs sn sub ab col dd k0 k1 k2 k3 k5 mN,h.get? C=Z (excClassObj nm q C N bs bm O sn sub ab col dd k0 k1 k2 k3 k5 "ValueError.__new__")/\h.Ns N mN /\
  (∀ n∈xS fn,mN n=Y)/\mN "__init__" = ini.map B.ref/\fG h ("__init__" :: xS fn) bmV bm
 cl:∃ cd,W.clsIn K C=Z cd/\cd.mro = .ref C::bm
 ty:W.typeIn K (.ref C)=Z (.type "type")
def rZ(K:W.Frag)(S:List Str)(bmB:List B):List B->Bool
 | []=>bmB == []
 | v::r=>(v::r)==bmB||match v with
  | .ref A=>(match K.lookup A with
   | some (_,_,.cls cd,_)=>W.nsOkIn K cd.ns&&S.all (λn=>W.nsIn K cd.ns n==Z Y)&&rZ K S bmB r
   | _=>ϊ)
  | _=>ϊ
theorem ye{K:W.Frag}{h:Heap}{S:List Str}{bmB:List B}(X:K.In h):∀{l:List B},rZ K S bmB l=O->fG h S bmB l
 | [],e=>by rw[<- beq_iff_eq.mp e];exact .base
 | v::r,e=>by
  unfold rZ at e;rcases Bool.or_eq_true_iff.mp e with q|q
  ·rw[beq_iff_eq.mp q];exact .base
  ·split at q
   ·split at q
    ·rename_i ho;rw[qp,qp]at q;exact .own (X _ _ ho) (.of_isNs (W.isNs_of_in X q.1.1)) (λn hn=>W.nsMap_none_of_in X q.1.1 (beq_iff_eq.mp (z7.mp q.1.2 n hn))) (ye X q.2)
    ·cases q
   ·cases q
def Rr:Data->Option ClassData
 | .cls cd=>Z cd
 | _=>Y
def EG{d:Data}{cd:ClassData}(h:Rr d=Z cd):d = .cls cd:=by
 cases d <;> first|exact congrArg Data.cls (Option.some.inj h)|cases h
def EX(K:W.Frag)(fn:List Str)(C:J)(bm:List B)(ini:Option J)(sl:Array (Option B))(cd:ClassData):Bool :=
 cd.mro == .ref C::bm&&sl.size==6&&sl[4]? == Z (Z (.builtin "ValueError.__new__")) && !cd.hasDel&&cd.hasDict&&rZ K ("__init__" :: xS fn) bmV bm&&W.nsOkIn K cd.ns &&
  (xS fn).all (λn=>W.nsIn K cd.ns n==Z Y)&&W.nsIn K cd.ns "__init__" == Z (ini.map B.ref)
def vV(K:W.Frag)(fn:List Str)(C:J)(bm:List B)(ini:Option J):Bool:=(K.lookup C).any λo=>o.cls == .type "type" && (Rr o.data).any (EX K fn C bm ini o.slots)
def any_some{α:Type}{o:Option α}{f:α->Bool}(h:o.any f=O):∃ a,o=Z a/\f a=true:=by
 cases o with
 | none=>cases h
 | some a=>exact(a,U,h)
def six{α:Type}{l:List α}(h:l.length=6):∃ a b c d e f,l = [a,b,c,d,e,f]:=by
 cases l with
 | nil=>cases h
 | cons a l=>cases l with
  | nil=>cases h
  | cons b l=>cases l with
   | nil=>cases h
   | cons c l=>cases l with
    | nil=>cases h
    | cons d l=>cases l with
     | nil=>cases h
     | cons e l=>cases l with
      | nil=>cases h
      | cons f l=>exact(a,b,c,d,e,f,by rw[Co.mp (show l.length=0 by simpa using h)])
variable{mg:Str->Option B}
theorem A4{K:W.Frag}{h:Heap}{N:J}{n:Str}{v:B}(X:K.In h)(G:h.Ns N mg)(e:W.nsIn K N n=Z (Z v)):mg n=Z v:=by
 let(o,es,P,ho,hd,_,hf):=G;unfold W.nsIn at e
 split at e
 ·rename_i c d g z sl q
  have:=X _ _ q
  rw[ho]at this;cases this;cases hd
  split at e
  ·rename_i Q he;cases e;rw[<- hf];unfold nsFind findBy;rw[<- UZ,he];rfl
  ·split at e <;> cases e
 ·cases e
variable{C:J}{bm:List B}{ini:Option J}
theorem BP{K:W.Frag}{fn:List Str}(q:vV K fn C bm ini=O):pZ K fn C bm ini:=by
 unfold vV at q;let((cl,dd,da,sl),ho,q):=any_some q;rw[qp]at q;let(q0,q):=q;let(cd,z,q):=any_some q;have e0:cl = .type "type":=eq_of_beq q0;have e1:da = .cls cd:=EG z;subst e0 e1;unfold EX at q;simp only[qp,beq_iff_eq,Bool.not_eq_true']at q;let((((((((hm,h6),h4),Q),V),ht),hok),P),g):=q;let(nm,bs,mro,ns,qn,hd,sn,sub,ab,col,del):=cd;dsimp only at hm Q hok g V P;subst hm Q V;let⟨l⟩:=sl;let(k0,k1,k2,k3,k4,k5,U):=six (l:=l) h6;obtain rfl:k4=Z (.builtin "ValueError.__new__"):=Option.some.inj h4;refine(λh X=>?_,(_,by unfold W.clsIn;rw[ho],U),by show(K.lookup _).map (·.cls)=_;rw[ho];rfl)
 refine(nm,qn,ns,bs,sn,sub,ab,col,dd,k0,k1,k2,k3,k5,_,X _ _ ho,.of_isNs (W.isNs_of_in X hok),λn hn=>W.nsMap_none_of_in X hok (by simpa using z7.mp P n hn),?_,ye X ht)
 cases ini with
 | none=>exact W.nsMap_none_of_in X hok g
 | some f=>exact A4 X (.of_isNs (W.isNs_of_in X hok)) g
def _root_.PySem.fG.sub{h:Heap}{S g:List Str}{bmB tl:List B}(T:fG h S bmB tl)(hs:∀ n∈g,n∈S):fG h g bmB tl:=by
 induction T with
 | base=>exact .base
 | own a b c _ q=>exact .own a b (λn hn=>c n (hs n hn)) q
def XAt(a C:J)(dx:Option J)(b:Bool)(h:Heap):Prop:=∃ y,uF h a (.ref C) dx y/\(b=O->y = .none)
def XD(dx:J)(fs:List (Str×V))(h:Heap):Prop:=∃ mA,h.Ns1 dx mA/\(∀ f,ki (fs.lookup f) (mA f))/\PySem.Within mA (fs.map (·.1))
def ExH(H:Hp)(a C:J)(b:Bool)(fs:List (Str×V)):Prop:=(fs = []/\H a=Z (.ext (XAt a C Y b)))\/∃ dx,dx≠a/\H a=Z (.ext (XAt a C (Z dx) b))/\H dx=Z (.ext (XD dx fs))
variable{ex:List J}{φ:Heap->Prop}{o1:HO}{o2:HO}
section
variable{P:Program}{w:World}{H:Hp}{h h':Heap}{a d:J}{dx:Option J}{b:Bool}{fs:List (Str×V)}
def XAt.ok(x:XAt a C dx b h):cJ P w H h a (.ext (XAt a C dx b)):=by
 refine(x,?_,λh1 h2 (y,(o,vs,g,e,r),z) k=>(y,(o,vs,g,k o e,r),z))
 let(y,(o,vs,g,e,r),z):=x;exact(o,e)
def XD.ok(x:XD d fs h):cJ P w H h d (.ext (XD d fs)):=by
 refine(x,?_,λh1 h2 (mA,(o,es,g,e,r),z) k=>(mA,(o,es,g,k o e,r),z))
 let(mA,(o,es,g,e,r),z):=x;exact(o,e)
def cJ.at{o:HO}(x:cJ P w H h a o):∃ u,h.get? a=Z u:=by
 cases o with
 | lst xs=>let(_,_,_,_,e):=x;exact(_,e)
 | tup xs=>let(_,_,_,p):=x;let(o,e,_):=p.1;exact(o,e)
 | dK kvs=>let(_,_,_,_,o,_,_,e,_):=x;exact(o,e)
 | dT kvs=>let(_,_,_,_,o,_,_,e,_):=x;exact(o,e)
 | set S n=>let(o,_,_,_,e,_):=x;exact(o,e)
 | ins C dx fs=>let(_,_,_,e,_):=x;exact(_,e)
 | own y=>exact x
 | xd fs=>let(_,(o,_,_,e,_),_):=x;exact(o,e)
 | room g=>let(_,_,_,e):=x;exact(_,e)
 | rng lo hi=>let(_,_,_,e):=x;exact(_,e)
 | frz ob u=>let(e,_):=x;exact(_,e)
 | tbl ps=>exact(_,(show h.get? a=Z _ from x))
 | met f y=>exact(_,(show h.get? a=Z _ from x))
 | ext φ=>exact x.2.1
def HOk.no(x:HOk P w H h)(e:h.get? a=Y):H a=none:=by
 cases q:H a with
 | none=>rfl
 | some u =>
  let(v,z):=(x a u q).at;rw[e]at z;cases z
def HOk.zr{o:HO}(x:HOk P w H h)(k:∀ b u,h.get? b=Z u->h'.get? b=Z u)(hp:h.get? a=Y)(new:cJ P w (upd H a o) h' a o):HOk P w (upd H a o) h':=λb u e=>by
 have hn:=x.no hp;by_cases g:b=a
 ·subst g;rw[aB]at e;cases e;exact new
 ·rw[ao g]at e;exact(x b u e).c6 (λc v _ q=>k c v q) (λc q=>by rw[ao (aQ q hn)];exact q) λc xs q=>by rw[ao (aQ q hn)];exact q
def Un.zr{fs:List J}{o:HO}(k:∀ b u,h.get? b=Z u->h'.get? b=Z u)(hp:h.get? a=Y)(hn:H a=Y):Un fs ex H (upd H a o) h h' where
 keep:=λb u q _ _ _=>k b u q
 slot:=λb u q _ _ _=>(u.slots,k b u q)
 free:=λb u q n _=>by rw[ao (λz=>by rw[z,hp]at q;cases q)];exact n
 there:=λb u q _=>(u,k b u q)
 rg:=λb xs q=>by rw[ao (aQ q hn)];exact q
 nT:=λb u xs q=>by rw[ao (aQ q hn)];exact q
 rh:=λb ps q=>(#[],by rw[ao (aQ q hn),q];simp)
theorem Inv.zr{X:Cx}{gd:List (J×Obj)}{σ:St}{s:ϋ}{o:HO}{t':Nat}(I:Inv X gd σ H s)(k:∀ b u,s.heap.get? b=Z u->h'.get? b=Z u)(hp:s.heap.get? a=Y)(new:cJ X.prog X.w (upd H a o) h' a o) :
  Inv X gd σ (upd H a o) { s with heap:=h',toks:=t' }:=I.un (Un.zr k hp (I.hok.no hp)) (I.hok.zr k hp new)
def Me(x:HOk P w H h)(ha:H a=Z (.ext φ))(hd:h.get? d=Y)(k:∀ b u,b≠a->h.get? b=Z u->h'.get? b=Z u)
  (V:cJ P w (upd (upd H d o1) a o2) h' d o1) (Q:cJ P w (upd (upd H d o1) a o2) h' a o2):HOk P w (upd (upd H d o1) a o2) h':=λb u e=>by
 have hn:=x.no hd;have st:∀ c v,H c=Z v->v ≠ .ext φ->upd (upd H d o1) a o2 c=Z v:=λc v q nv=>by
  rw[ao (λz=>by rw[z,ha]at q;cases q;exact nv U),ao (aQ q hn)];exact q
 by_cases K:b=a
 ·subst K;rw[aB]at e;cases e;exact Q
 ·rw[ao K]at e;by_cases g:b=d
  ·subst g;rw[aB]at e;cases e;exact V
  ·rw[ao g]at e;refine(x b u e).c6 (λc v hc q=>k c v ?_ q) (λc q=>st c _ q λz=>nomatch z) λc xs q=>st c _ q λz=>nomatch z
   rcases hc with z|z
   ·rw[z];exact K
   ·exact fR z ha λz=>nomatch z
def Md{l:List J}(x:HOk P w H h)(ha:H a=Z (.ext φ))(hd:h.get? d=Y)(k:∀ b u,b≠a->h.get? b=Z u->h'.get? b=Z u)(g:∃ u,h'.get? a=Z u):Un l ex H (upd (upd H d o1) a o2) h h':=by
 have hn:=x.no hd;have na:∀ b,H b=Y->b≠a:=λb n z=>by rw[z,ha]at n;cases n
 have st:∀ c v,H c=Z v->v ≠ .ext φ->upd (upd H d o1) a o2 c=Z v:=λc v q nv=>by
  rw[ao (λz=>by rw[z,ha]at q;cases q;exact nv U),ao (aQ q hn)];exact q
 refine(λb u q n _ _=>k b u (na b n) q,λb u q n _ _=>(u.slots,k b u (na b n) q),λb u q n _=>?_,λb u q _=>?_,λb xs q=>st b _ q (λz=>nomatch z),λb u xs q=>st b _ q (λz=>nomatch z),λb ps q=>(#[],by rw[st b _ q (λz=>nomatch z)];simp))
 ·rw[ao (na b n),ao (λz=>by rw[z,hd]at q;cases q)];exact n
 ·by_cases K:b=a
  ·rw[K];exact g
  ·exact(u,k b u K q)
end
variable{mA:Str->Option B}{y:V}{u:B}
section
variable{X:Cx}{gd:List (J×Obj)}{σ:St}{H:Hp}{s:ϋ}{a d:J}{fn:List Str}{dx:Option J}{b:Bool}{fs:List (Str×V)}{f:Str}{A:Around}{E:B->ϋ->Prop}
def XAt.QN{h:Heap}(x:XAt a C Y b h):h.Inst a C (λ_=>Y):=by
 let(y,(o,vs,K,e,q,hd,g,_),_):=x;exact(o,e,q,λc z=>(by rw[g]at z;cases z),.inl (hd,λ_=>rfl))
def XAt.QM{h:Heap}(x:XAt a C (Z d) b h)(ne:d≠a)(n:h.Ns1 d mA):h.Inst a C mA:=by
 let(y,(o,vs,K,e,q,hd,g,_),_):=x;exact(o,e,q,λc z=>(by rw[g]at z;cases z),.inr (d,hd,ne,n))
def FOk(f:Str):Prop:=typeLookup (.type "ValueError") f=pure Y
def pZ.ne{h:Heap}(c:pZ X.K fn C bm ini)(I:Inv X gd σ H s)(e:H a=Z (.ext φ))(P:∀ h,φ h->∃ o vs,h.get? a=Z o/\o.data = .fields vs):a≠C:=by
 intro z;let(nm,q,N,bs,sn,sub,ab,col,dd,k0,k1,k2,k3,k5,mN,Q,_):=c.all s.heap I.kIn;let(o,vs,g,V):=P _ (I.hok a _ e).1;rw[z,Q]at g;cases g;cases V
def XAt.rec{h:Heap}(x:XAt a C dx b h):∃ o vs,h.get? a=Z o/\o.data = .fields vs:=let(_,(o,vs,_,e,_,_,hd,_),_):=x;(o,vs,e,hd)
def yq{fs:List (Str×V)}(r:∀ g,ki (fs.lookup g) (mA g))(z:RelV y u)(g:Str):ki ((dR f y fs).lookup g) (if g=f then Z u else mA g):=by
 rw[kX];by_cases q:g=f
 ·rw[if_pos q,if_pos q];exact z
 ·rw[if_neg q,if_neg q];exact r g
def sC{fs:List (Str×V)}(wi:PySem.Within mA (fs.map (·.1))):PySem.Within (λg=>if g=f then Z u else mA g) ((dR f y fs).map (·.1)):=λg hg=>by
 by_cases q:g=f
 ·rw[q];exact(jh f y fs).1
 ·refine(jh f y fs).2 g (wi g λz=>hg ?_)
  show(if g=f then Z u else mA g)=Y
  rw[if_neg q];exact z
theorem FL{Q:Unit->ϋ->Prop}(I:Inv X gd σ H s)(e:H a=Z (.ext (XAt a C Y b)))(c:pZ X.K fn C bm ini)(hf:f∈fn)(fo:FOk f)(ry:RelV y u)
  (h:∀ s' d,H d=Y->d≠a->Inv X gd σ (upd (upd H d (.ext (XD d [(f,y)]))) a (.ext (XAt a C (Z d) b))) s'->Q () s'):wpAny (model X.prog X.w) A (setAttr (.ref a) f u) Q E s:=by
 have hx:XAt a C Y b s.heap:=(I.hok a _ e).1;have ah:=c.ne (h:=s.heap) I e λh x=>x.rec
 let(nm,q,N,bs,sn,sub,ab,col,dd,k0,k1,k2,k3,k5,mN,hC,hN,hS,_,T):=c.all s.heap I.kIn;let(P,g,dr,t,os):=s;have hp:P.get? P.objs.size=none:=E3 (lx _);have mem:∀ n∈xS fn,n∈("__init__":Str)::xS fn:=λn hn=>c5 _ hn
 refine qm (ns:=[]) F.store_ValueError (T.sub mem) (by simp[hf]) (by simp) hC hN (hS _ (by simp)) (hS f (by simp[hf])) fo ah hx.QN (λh' aA I' kp same=>?_) (λy hy=>absurd U hy) (by decide)
 let(y0,(o,vs,a0,e0,hc,hd,aj,z0,z1),zb):=hx;let(o1,e1,c1,ak,_,_,d1):=same o e0;have d1:=d1 hd;let(o',e',_,_,HB):=I'
 have:o'=o1:=Option.some.inj (e'.symm.trans e1)
 subst this;have ai:h'.Ns1 P.objs.size (λy=>if y=f then Z u else Y):=by
  rcases HB with⟨z,_⟩ |⟨d2,z,_,n2⟩
  ·rw[d1]at z;cases z
  ·rw[d1]at z;cases z;exact n2
 have SU:P.objs.size≠a:=λz=>by rw[<- z,hp]at e0;cases e0
 have V:∀ b ob,b≠a->P.get? b=Z ob->h'.get? b=Z ob:=λb ob hb q=>kp b ob hb (λax dx h1 h2=>by rw[e0]at h1;cases h1;rw[hd]at h2;cases h2) q
 have wi:=sC (f:=f) (y:=y) (u:=u) (fs:=[]) (mA:=λ_=>Y) (λg hg=>absurd U hg)
 have nX:XAt a C (Z P.objs.size) b h':=(y0,(o',vs,a0,e1,c1.trans hc,d1,ak.trans aj,z0,z1),zb);have nD:XD P.objs.size [(f,y)] h':=(_,ai,yq (fs:=[]) (λ_=>True.intro) ry,wi)
 exact h _ P.objs.size (I.hok.no hp) SU (I.un (Md I.hok e hp V (_,e1)) (Me I.hok e hp V nD.ok nX.ok))
theorem FK{Q:Unit->ϋ->Prop}(I:Inv X gd σ H s)(e:H a=Z (.ext (XAt a C (Z d) b)))(ne:d≠a)(ed:H d=Z (.ext (XD d fs)))(c:pZ X.K fn C bm ini)(hf:f∈fn)(fo:FOk f)(hl:fs.length<1000)(ry:RelV y u)
  (h:∀ s',Inv X gd σ (upd H d (.ext (XD d (dR f y fs)))) s'->Q () s'):wpAny (model X.prog X.w) A (setAttr (.ref a) f u) Q E s:=by
 have hx:XAt a C (Z d) b s.heap:=(I.hok a _ e).1;obtain⟨mA,hn,r,wi⟩:XD d fs s.heap:=(I.hok d _ ed).1;have ak:=c.ne (h:=s.heap) I e λh x=>x.rec
 let(nm,q,N,bs,sn,sub,ab,col,dd,k0,k1,k2,k3,k5,mN,hC,hN,hS,_,T):=c.all s.heap I.kIn;let(hh,g,dr,t,os):=s;have mem:∀ n∈xS fn,n∈("__init__":Str)::xS fn:=λn hn=>c5 _ hn
 refine qm (ns:=fs.map (·.1)) F.store_ValueError (T.sub mem) (by simp[hf]) (by simp) hC hN (hS _ (by simp)) (hS f (by simp[hf])) fo ak (hx.QM ne hn) (λh' ai I' kp same=>?_) wi (by rw[gV,Tx];omega)
 let(y0,(o,vs,a0,e0,hc,hd,aG,z0,z1),zb):=hx;let(o1,e1,c1,ah,P,d0,_):=same o e0;have d1:=d0 d hd;clear d0;have oe:o1=o:=by
  let(q1,q2,q3,q4):=o1;let(p1,p2,p3,p4):=o;dsimp only at c1 ah P d1 hd;subst c1 ah P d1 hd;rfl
 subst oe;let(o',e',_,_,HB):=I'
 have:o'=o1:=Option.some.inj (e'.symm.trans e1)
 subst this;have ax:h'.Ns1 d (λy=>if y=f then Z u else mA y):=by
  rcases HB with⟨z,_⟩ |⟨d2,z,_,n2⟩
  ·rw[d1]at z;cases z
  ·rw[d1]at z;cases z;exact n2
 have aj:∀ b ob,b≠d->hh.get? b=Z ob->h'.get? b=Z ob:=λb ob hb q=>by
  by_cases V:b=a
  ·subst V;have q':hh.get? b=Z ob:=q;rw[e0]at q';cases q';exact e1
  ·exact kp b ob V (λaA dx h1 h2=>by rw[e0]at h1;cases h1;rw[hd]at h2;cases h2;exact hb) q
 have nD:XD d (dR f y fs) h':=(_,ax,yq r ry,sC wi);exact h _ (I.write (x:=d) (e:=d) (t':=ai) (by rw[ed];exact True.intro) (.inl U) aj (let(_,(o,_,_,e,_),_):=nD;(o,e)) nD.ok)
end
def Ph(K:W.Frag)(fn:List Str)(ta tv:TE)(f:Str):TS:=λD σ H=>tv σ H λy H1=>ta σ H1 λx H2=>∃ a C b bm ini,x = .ref a/\pZ K fn C bm ini/\f∈fn/\FOk f /\
 ((H2 a=Z (.ext (XAt a C Y b))/\∀ d,H2 d=Y->d≠a->D.nx σ (upd (upd H2 d (.ext (XD d [(f,y)]))) a (.ext (XAt a C (Z d) b)))) \/
  ∃ d fs,d≠a/\H2 a=Z (.ext (XAt a C (Z d) b))/\H2 d=Z (.ext (XD d fs))/\fs.length<1000/\D.nx σ (upd H2 d (.ext (XD d (dR f y fs)))))
section
variable{X:Cx}{o value:Expr}{f:Str}{pos pos':Pos}{ta tv:TE}{fn:List Str}
def JO(ha:PE X o ta)(hv:PE X value tv)(hs:swapsWith value (Z (.Attribute o f pos')) pos.line X.env=pure false:=by rfl):PS X (.Assign [.Attribute o f pos'] value pos) (Ph X.K fn ta tv f):=by
 intro gd s σ H D I h;refine plainObj_wpAny_Assign_Attribute (thn (hv gd s σ H _ I h) λu s1 (y,H1,I1,ry,q)=>thn (ha gd s1 σ H1 _ I1 q) λov s2 P=>?_) hs
 let(x,H2,I2,rx,a,C,b,bm,ini,ex,c,hf,fo,g):=P;subst ex;obtain rfl:ov=B.ref a:=rx;rcases g with⟨Q,g⟩ |⟨d,fs,ne,Q,e1,hl,g⟩
 ·exact FL I2 Q c hf fo ry λs3 d z ne V=>(σ,_,V,g d z ne)
 ·exact FK I2 Q ne e1 c hf fo hl ry λs3 V=>(σ,_,V,g)
end
inductive yi(C:J)(fsN:List Str)(vs:List V)(H:Hp)(Q:VK)(_:XK):Prop
 | mk(a ys:_)(h1:vs = .ref a::ys)(h2:ys.length=fsN.length)(h3:H a=Z (.ext (XAt a C Y O)))(h4:∀ d,H d=Y->d≠a->Q .non (upd (upd H d (.ext (XD d (fsN.zip ys)))) a (.ext (XAt a C (Z d) O))))
def Aj(C:J)(fsN:List Str)(t:TA):TE:=λσ H Q=>t σ H λvs H1=>vs.length=fsN.length/\vs.length<=1000/\∀ a d,H1 a=Y->H1 d=Y->d≠a->Q (.ref a) (upd (upd H1 d (.ext (XD d (fsN.zip vs)))) a (.ext (XAt a C (Z d) O)))
variable{h':Heap}{a:J}{d:J}{us:List B}
section
variable{X:Cx}{gd:List (J×Obj)}{σ:St}{H:Hp}{s:ϋ}{f:J}{k:Nat}{fd:FuncData}{ps fn fsN:List Str}{x:Str}{p pos:Pos}{e:Expr}{es:List Expr}{t:TA}
def Ky{args:List B}{h:Heap}{e:J}(m:TJ h h' e (.ref C) args):XAt e C Y O h':=by
 let(t,he,_,_):=m.there;exact(.none,(_,_,_,he,U,U,U,U,U),λ_=>rfl)
def RS{o:HO}(ne:d≠a):upd (upd (upd H a o) d o1) a o2=upd (upd H d o1) a o2:=by
 funext b
 by_cases h1:b=a
 ·rw[h1,aB,aB]
 ·rw[ao h1,ao h1];by_cases h2:b=d
  ·rw[h2,aB,aB]
  ·rw[ao h2,ao h2,ao h1]
theorem DJ{Q:VK}{vs:List V}(M:pZ X.K fn C bm (Z f))(aA:W.isFn X.K (.ref f)=O)(F:aR X.prog X.w X.K X.mg X.base CX0 k f fd ps (yi C fsN))(hr:bM (k+1) X.A)(hb:Binds X.K fd ps [])
  (I:Inv X gd σ H s) (r:Vals vs us) (hl:vs.length=fsN.length) (hz:vs.length<=1000) (h:∀ a d,H a=Y->H d=Y->d≠a->Q (.ref a) (upd (upd H d (.ext (XD d (fsN.zip vs)))) a (.ext (XAt a C (Z d) O)))) :
  wpAny (model X.prog X.w) X.A (call (.ref C) us) (EP X gd σ Q) X.xe s:=by
 let(nm,q,N,bs,sn,sub,ab,col,dd,k0,k1,k2,k3,k5,mN,hC,hN,hS,hi,T):=M.all s.heap I.kIn;let(oI,ak,aH):=j3.mp (show(X.K.lookup f).map (·.cls)=Z (.type "function")from beq_iff_eq.mp aA);have aG:=I.kIn f oI ak;have aK:us.length<=1000:=by rw[<- r.length];exact hz
 have mk:∀ h' e,TJ s.heap h' e (.ref C) us->Inv X gd σ (upd H e (.ext (XAt e C Y O))) { s with heap:=h' }:=λh' e m=>I.zr (t':=s.toks) m.keeps m.new (Ky m).ok
 have hn:∀ h' e,TJ s.heap h' e (.ref C) us->H e=none:=λh' e m=>I.hok.no m.new
 have aj:=hr.make C us [];have e1:∀ h' e,TJ s.heap h' e (.ref C) us->Aa X.prog X.w X.K X.mg X.base (X.A.under (.builtin "type.__call__" (.ref C::us,[]))) X.stack { s with heap:=h' } (upd H e (.ext (XAt e C Y O))):=λh' e m=>(mk h' e m).HM.make C us []
 let(hh,g,dr,tk,os):=s;refine By PySem.F.excBase_ValueError (fG.tail (by simp) T) hC hN hi aG aH (λh' e m=>?_) (by rw[Tx];omega)
 have ah:yi C fsN (.ref e::vs) (upd H e (.ext (XAt e C Y O))) (λv H2=>v = .non/\Q (.ref e) H2) E0:=(e,vs,U,hl,aB,λd z ne=>(U,by
  rw[RS ne];have z':H d=none:=by rw[ao ne]at z;exact z
  exact h e d (hn h' e m) z' ne))
 have r2:Vals (V.ref e::vs) (B.ref e::us):=.cons U r;have ax:(B.ref e::us ++ []).length=ps.length:=by
  rw[ko,<- r2.length];exact F.len _ _ _ _ ah
 have ai:=hb (h',g,dr,tk,os) (B.ref e::us) (mk h' e m).kIn ax;rw[ko]at ai;refine wpAny_call (codeAny_mono (F.run _ X.stack _ _ (B.ref e::us,[]) (B.ref e::us) _ _ E0 aj (e1 h' e m) ai r2 ah) λr s' P=>?_)
 cases r with
 | error e=>exact False.elim P
 | ok fl =>
  cases fl with
  | ret u =>
   let(v,H',I3,rv,ev,q3):=(mk h' e m).after P;subst ev;exact(rv,(V.ref e,H',I3,U,q3))
  | next=>exact False.elim P
  | brk=>exact False.elim P
  | cont=>exact False.elim P
theorem GP(M:pZ X.K fn C bm (Z f))(z:W.isFn X.K (.ref f)=O)(kp:W.keepIn X.K (.ref C)=O)(F:aR X.prog X.w X.K X.mg X.base CX0 k f fd ps (yi C fsN))(hr:bM (k+1) X.A)(hg:Gl X x)(hm:X.mg x=Z (.ref C))(hb:Binds X.K fd ps [])
  (ha:PA X (e::es) t) (P:(x ==("__debug__":Str))=false:=by decide) (he:iS (e::es) X.env =(ϊ,eval e X.env)::iS es X.env:=by rfl) (g:(backTo pos (iS es X.env)).any (·.1)=false:=by rfl) :
  PE X (.Call (.Name x p) (e::es) [] pos) (Aj C fsN t):=by
 intro gd s σ H Q I h;refine Ob (nQ I hg hm ?_ P);refine W.callWith_K (h₀:=X.base) I.ok.mod.kin kp (thn (ha pos gd s σ H _ I h) λus s1 (vs,H1,V,r,hl,hz,q)=>(V.kIn,?_)) he g
 exact DJ M z F hr hb V r hl hz q
end
end L2
namespace PySem
open Sem (wp)
section
variable{M:Model}{A:Around}{E:B->ϋ->Prop}{env:Env}
variable{nm q:Str}{C N:J}{bs bm:List B}{xm:Bool}{sn:List Str}{sub:List B}{ab:Bool}{col:Option Bool}{dd:Option J}{k0 k1 k2 k3 k5:Option B}{newId:String}
def MA{s:ϋ}{x:Sem B}{Q:Flow->ϋ->Prop}(hh:A.handled=Y)
  (h:wpAny M A x (λv z=>∃ e K C nm q N bs bm xm sn sub ab col dd k0 k1 k2 k3 k5 newId,v = .ref e/\z.heap.get? C=Z (excClassObj nm q C N bs bm xm sn sub ab col dd k0 k1 k2 k3 k5 newId)/\bm.contains (.type "BaseException")=O /\
   z.heap.get? e=Z K/\K.cls = .ref C/\(∃ vs,K.data = .fields vs/\vs[1]? = Z .none)/\E (.ref e) z) E s):wpAny M A (raiseStmt env (Z x) Y) Q E s:=by
 unfold raiseStmt;refine cO (OZ h (λv z P=>?_) λ_ _ x=>x)
 let(e,K,C,nm,q,N,bs,bm,xm,sn,sub,ab,col,dd,k0,k1,k2,k3,k5,newId,U,hC,hb,he,KY,(vs,hd,h1),hE):=P;have V:(B.ref C::bm).contains (.type "BaseException")=true:=by rw[Ux,hb,Bool.or_true]
 let(hp,g,d,tk,os):=z;let(c0,d0,da,sl):=K;dsimp only at KY hd;subst KY hd
 repeat (first|with_reducible refine wpAny_loadPart_at he ?_|with_reducible refine wpAny_loadPart_at hC ?_ |(with_reducible refine wpAny_isSubtype_exc hC ?_;rw[V])|wp_step)
 rw[h1]
 repeat (first|with_reducible refine wpAny_raiseNew_none hh hE|wp_step)
end
end PySem
namespace L2
open PySem PySem.Spec PyProof.Rows
def CX1(P:Program)(w:World):CXT:=λouter H s E e s'=>∃ a C dx T H',e = .ref a/\s'.os=s.os/\AllBare s'.gens/\Un (frs outer) [] H H' s.heap s'.heap/\HOk P w H' s'.heap /\
 H' a=Z (.ext (XAt a C dx ϊ))/\j9 s'.heap a (.ref C) dx T .none/\H' T=Y/\s.heap.get? T=Y/\E (.ref C) (Z a) H'
variable{φ:Heap->Prop}
section
variable{P:Program}{w:World}{H₀ H H':Hp}{h₀ h h':Heap}{fs fr ex:List J}{a C T:J}{dx:Option J}{fl:B}
def Un.zy(u:Un fs [] H₀ H h₀ h)(k:gg fr ex h h')(hex:∀ b∈ex,(∃ φ,H b=Z (.ext φ))\/h₀.get? b=Y)(Q:∀ b∈fr,b∈fs\/h₀.get? b=Y)(hH:∀ b,H' b=H b\/∃ φ K,H b=Z (.ext φ)/\H' b=Z (.ext K)):Un fs [] H₀ H' h₀ h':=by
 have nx:∀ b o,h₀.get? b=Z o->H b=Y->b ∉ ex:=λb o e n z=>by
  rcases hex b z with⟨φ,y⟩|y
  ·rw[n]at y;cases y
  ·rw[e]at y;cases y
 have st:∀ b o,H b=Z o ->(∀ φ,o ≠ .ext φ)->H' b=Z o:=λb o e n=>by
  rcases hH b with z |⟨φ,K,z,_⟩
  ·rw[z];exact e
  ·rw[e]at z;cases z;exact absurd U (n φ)
 refine(λb o e n q hx=>?_,λb o e n q hx=>?_,λb o e n hx=>?_,λb o e hx=>?_,λb xs e=>st b _ (u.rg b xs e) (λ_ z=>nomatch z),λb o xs e=>st b _ (u.nT b o xs e) (λ_ z=>nomatch z),λb ps e=>?_)
 ·refine k.keep b o (u.keep b o e n q hx) (λz=>?_) (nx b o e (u.free b o e n hx))
  rcases Q b z with y|y
  ·exact q y
  ·rw[e]at y;cases y
 ·let(sl,g):=u.slot b o e n q hx;let(P,e2):=k.slot b _ g (nx b o e (u.free b o e n hx));exact(P,e2)
 ·have V:=u.free b o e n hx;rcases hH b with z |⟨φ,K,z,_⟩
  ·rw[z];exact V
  ·rw[V]at z;cases z
 ·let(o',g):=u.there b o e hx;exact k.there b o' g
 ·let(more,g):=u.rh b ps e;exact(more,st b _ g (λ_ z=>nomatch z))
def HOk.zy(ok:HOk P w H h)(k:gg fr ex h h')(g:∀ b∈fr,H b=Y)(hex:∀ b∈ex,b=a\/H b=Y)(ha:H a=Z (.ext φ))(Q:∀ b,b≠a->H' b=H b)(new:∀ o,H' a=Z o->cJ P w H' h' a o)
  (ah:∃ V,H' a=Z (.ext V)):HOk P w H' h':=λc o e=>by
 by_cases K:c=a
 ·subst K;exact new o e
 ·rw[Q c K]at e;have st:∀ b v,H b=Z v ->(∀ φ,v ≠ .ext φ)->H' b=Z v:=λb v q n=>by
   rw[Q b (λz=>by rw[z,ha]at q;cases q;exact n φ U)];exact q
  have go:∀ b u v,H b=Z v->b≠a->h.get? b=Z u->h'.get? b=Z u:=λb u v q na r=>k.keep b u r (λz=>by rw[g b z]at q;cases q) λz=>by
   rcases hex b z with y|y
   ·exact na y
   ·rw[y]at q;cases q
  refine(ok c o e).c6 (λb u hb r=>?_) (λb q=>st b _ q (λ_ z=>nomatch z)) λb xs q=>st b _ q (λ_ z=>nomatch z)
  rcases hb with y|y
  ·rw[y]at r ⊢;exact go c u o e K r
  ·exact go b u _ y (fR y ha λz=>nomatch z) r
def _root_.PySem.j9.at(x:j9 h a (.ref C) dx T fl):XAt a C dx ϊ h:=(_,x.2.1,λz=>nomatch z)
end
variable{P:Program}{mg:Str->Option B}{base:Heap}{N:List Str}{qual:Str}{scope:Scope}{A:Around}{outer:List Env}{H₀:Hp}{e:Expr}{te:TE}
section
variable{X:Cx}{gd:List (J×Obj)}{σ:St}{H:Hp}{s:ϋ}{a C T:J}{dx:Option J}{E:XK}{fn:List Str}
def sy(X:Cx)(Es:St->XK):Prop:=∀(gd:List (J×Obj))(σ:St)(H:Hp)(s:ϋ)(a C:J)(dx:Option J),Inv X gd σ H s->H a=Z (.ext (XAt a C dx O))->Es σ (.ref C) (Z a) (upd H a (.ext (XAt a C dx ϊ)))->X.xe (.ref a) s
def gY(CX:CXT)(X:Cx)(Es:St->XK):Prop:=∀(gd:List (J×Obj))(σ:St)(H:Hp)(s:ϋ)(e:B)(s':ϋ),Inv X gd σ H s->CX X.stack H s (Es σ) e s'->X.xe e s'
def L8{q:Heap->Prop}(e:H a=Z (.ext φ))(b:J):upd H a (.ext q) b=H b\/∃ φ g,H b=Z (.ext φ)/\upd H a (.ext q) b=Z (.ext g):=by
 by_cases z:b=a
 ·rw[z];exact .inr (φ,q,e,aB)
 ·exact .inl (ao z)
theorem sT{w:World}{K:W.Frag}{f:J}{cd:B}{s₀:ϋ}:sy (mK (CX1 P w) P w K mg base N qual scope f cd A outer s₀ H₀ E) (λ_=>E):=by
 intro gd σ H s a C dx I e hE;obtain⟨y,hx,V⟩:XAt a C dx O s.heap:=(I.hok a _ e).1;rw[V rfl]at hx;refine tQ (A:=A.deeper (envOfC qual scope s₀.heap.objs.size f cd)) (env:=envOfC qual scope s₀.heap.objs.size f cd) (outer:=outer) (base:=base) I.ok.frames I.stack U hx λh' T sz al Q=>?_
 have lt:∀ b o,s₀.heap.get? b=Z o->b<s₀.heap.objs.size:=λb o q=>kf q
 refine(a,C,dx,T,upd H a (.ext (XAt a C dx ϊ)),U,I.os,I.bare,?_,?_,aB,al,?_,E3 (uj I.sz sz),hE)
 ·refine Un.zy (fr:=frs (envOfC qual scope s₀.heap.objs.size f cd::outer)) I.base Q (λb g=>?_) (λb g=>?_) (L8 e)
  ·rw[bB.mp g];exact .inl (_,e)
  ·rcases i8.mp (I.oW b g)with z|z
   ·exact .inr (by rw[z];exact E3 (lx _))
   ·exact .inl z
 ·exact HOk.zy (a:=a) I.hok Q (λb g=>I.r8 b g) (λb g=>.inl (bB.mp g)) e (λb g=>ao g) (λo q=>by rw[aB]at q;cases q;exact al.at.ok) (_,aB)
 ·rw[ao al.1];exact I.hok.fresh sz
theorem tG{w:World}{K:W.Frag}{f:J}{cd:B}{s₀:ϋ}:gY (CX1 P w) (mK (CX1 P w) P w K mg base N qual scope f cd A outer s₀ H₀ E) (λ_=>E):=by
 intro gd σ H s e s' I hx;let(a,C,dx,T,H',U,ai,hg,un,hok,V,al,hT,aj,hE):=hx;have g:=I.LY (ch:=[]) ai un hok hg (λb z=>nomatch z)
 refine u0 (A:=A.deeper (envOfC qual scope s₀.heap.objs.size f cd)) (env:=envOfC qual scope s₀.heap.objs.size f cd) (outer:=outer) (base:=base) g.ok.frames g.stack U al λh' T' sz ah kx=>?_
 have ak:s₀.heap.get? T=none:=by
  cases q:s₀.heap.get? T with
  | none=>rfl
  | some o =>
   let(o',z):=I.base.there T o q (λz=>nomatch z)
   rw[aj]at z;cases z
 refine(a,C,dx,T',H',U,g.os,g.bare,?_,?_,V,ah,g.hok.fresh sz,E3 (uj g.sz sz),hE)
 ·refine Un.zy (fr:=frs (envOfC qual scope s₀.heap.objs.size f cd::outer)) g.base kx (λb Q=>?_) (λb Q=>?_) (λb=>.inl U)
  ·rcases i8.mp Q with z|z
   ·rw[z];exact .inl (_,V)
   ·rw[bB.mp z];exact .inr ak
  ·rcases i8.mp (g.oW b Q)with z|z
   ·exact .inr (by rw[z];exact E3 (lx _))
   ·exact .inl z
 ·refine HOk.zy (a:=a) g.hok kx (λb Q=>g.r8 b Q) (λb Q=>?_) V (λb Q=>rfl) (λo q=>by rw[V]at q;cases q;exact ah.at.ok) (_,V)
  rcases i8.mp Q with z|z
  ·exact .inl z
  ·rw[bB.mp z];exact .inr hT
def Ah(K:W.Frag)(fn:List Str)(Es:St->XK)(te:TE):TS:=λ_ σ H=>te σ H λv H1=>∃ a C bm ini dx,v = .ref a/\pZ K fn C bm ini/\H1 a=Z (.ext (XAt a C dx O))/\Es σ (.ref C) (Z a) (upd H1 a (.ext (XAt a C dx ϊ)))
def GG{Es:St->XK}{pos:Pos}(hc:X.calm=O)(hx:sy X Es)(he:PE X e te):PS X (.Raise (Z e) Y pos) (Ah X.K fn Es te):=by
 intro gd s σ H D I h;rw[arm_exec_Raise];refine cO (wpAny_standAt (MA (I.ok.hd hc) (cO (thn (he gd s σ H _ I h) λv s1 Q=>?_))))
 let(x,H1,V,rx,a,C,bm,ini,dx,ex,c,ea,q):=Q;refine cO (wpAny_standAt (ot ?_));subst ex;obtain rfl:v=B.ref a:=rx;let(nm,q',N,bs,sn,sub,ab,col,dd,k0,k1,k2,k3,k5,mN,hC,hN,hS,hi,T):=c.all s1.heap V.kIn;let(y,(o,vs,a0,e1,P,ah,z,_,hy),g):=(V.hok a _ ea).1;rw[g rfl]at hy;exact(a,o,C,nm,q',N,bs,bm,O,sn,sub,ab,col,dd,k0,k1,k2,k3,k5,_,U,hC,T.hasType (by decide),e1,P,(vs,z,hy),hx gd σ H1 s1 a C dx V ea q)
end
def v5(sp:Sp)(Es:St->XK)(t:TA):TE:=λσ H Q=>t σ H λvs H1=>sp vs H1 Q (Es σ)
variable{st:Stmt}
section
variable{X:Cx}{CX:CXT}{k:Nat}{f:J}{fd:FuncData}{ps:List Str}{sp:Sp}{Es:St->XK}{x:Str}{p pos:Pos}{es:List Expr}{t:TA}
theorem tD(F:aR X.prog X.w X.K X.mg X.base CX k f fd ps sp)(hr:bM k X.A)(hg:Gl X x)(hm:X.mg x=Z (.ref f))(hk:W.keepIn X.K (.ref f)=O)(hb:Binds X.K fd ps [])(hx:gY CX X Es)
  (ha:PA X (e::es) t) (ah:(x ==("__debug__":Str))=false:=by decide) (he:iS (e::es) X.env =(ϊ,eval e X.env)::iS es X.env:=by rfl) (V:(backTo pos (iS es X.env)).any (·.1)=false:=by rfl) :
  PE X (.Call (.Name x p) (e::es) [] pos) (v5 sp Es t):=by
 intro gd s σ H Q I h;refine Ob (nQ I hg hm ?_ ah);refine W.callWith_K (h₀:=X.base) I.ok.mod.kin hk (thn (ha pos gd s σ H _ I h) λus s1 (vs,H1,P,r,q)=>(P.kIn,?_)) he V
 have hl:(us ++ []).length=ps.length:=by rw[ko,<- r.length];exact F.len _ _ _ _ q
 have z:=hb s1 us P.kIn hl;rw[ko]at z;refine wpAny_call (codeAny_mono (F.run X.A X.stack s1 H1 (us,[]) us vs Q (Es σ) hr P.HM z r q) λr s' g=>?_)
 cases r with
 | error e=>exact hx gd σ H1 s1 e s' P g
 | ok fl =>
  cases fl with
  | ret u=>exact P.after g
  | next=>exact False.elim g
  | brk=>exact False.elim g
  | cont=>exact False.elim g
theorem Fun.okX{w:World}{K:W.Frag}{f:J}{k:Nat}(F:Fun K x qual st f fd)(S:aE N ps (aq st))(len:∀ vs H Q E,sp vs H Q E->vs.length=ps.length)
  (z:∀(cdv:B)(A:Around)(outer:List Env)(s:ϋ)(H:Hp)(vs:List V)(Q:VK)(E:XK),bM k (A.deeper (envOfC qual (aq st) s.heap.objs.size f cdv))->sp vs H Q E ->
   ∃ t,PSs (mK (CX1 P w) P w K mg base N qual (aq st) f cdv A outer s H E) (cc st) t/\t { nx:=λ_ H'=>Q .non H',rt:=Q } (start N vs) H):aR P w K mg base (CX1 P w) (k+1) f fd ps sp:=by
 let(oc,od,kV,doc,pm,an,cdv,ct,osl,U,lk,q):=F.ex;exact LS lk q S len λA outer s H vs Q E hr g=>z cdv A outer s H vs Q E hr g
end
def len0{P:List B->Prop}(h:P [])(us:List B)(e:us.length=0):P us:=by rw[Co.mp e];exact h
def Qv{P:List B->Prop}(h:∀ a,P [a])(us:List B)(e:us.length=1):P us:=by
 cases us with
 | nil=>cases e
 | cons a r=>exact len0 (P:=λr=>P (a::r)) (h a) r (Nat.succ.inj e)
def Qu{P:List B->Prop}(h:∀ a b,P [a,b])(us:List B)(e:us.length=2):P us:=by
 cases us with
 | nil=>cases e
 | cons a r=>exact Qv (P:=λr=>P (a::r)) (h a) r (Nat.succ.inj e)
def Qt{P:List B->Prop}(h:∀ a b c,P [a,b,c])(us:List B)(e:us.length=3):P us:=by
 cases us with
 | nil=>cases e
 | cons a r=>exact Qu (P:=λr=>P (a::r)) (h a) r (Nat.succ.inj e)
def Sw{P:List B->Prop}(h:∀ a b c d,P [a,b,c,d])(us:List B)(e:us.length=4):P us:=by
 cases us with
 | nil=>cases e
 | cons a r=>exact Qt (P:=λr=>P (a::r)) (h a) r (Nat.succ.inj e)
def Sv{P:List B->Prop}(h:∀ a b c d e,P [a,b,c,d,e])(us:List B)(e:us.length=5):P us:=by
 cases us with
 | nil=>cases e
 | cons a r=>exact Sw (P:=λr=>P (a::r)) (h a) r (Nat.succ.inj e)
inductive T where
 | n|b (x:Bool)|i (x:Int)|s (x:Str)|t (xs:List T)|l (xs:List T)|d (ks:List (Key×T))|jS|z (ns:List Int)|ty (x:String)|k (ws:List Str)|q|fd (o:Obj) (vs:List (Key×V)) (ks:List (Key×T))|xc (C:J) (ns:List Str) (ts:List T)|rm (u:Int)|ob (C:J) (ns:List Str) (ts:List T)|dp (a:J) (ks:List (Key×T))|lp (a:J) (xs:List T)|zl (xs:List T)|rf (a:J)|om (a C:J) (ns:List Str) (ts:List T)
abbrev Dl:=List (J×J)
def FzL(K:W.Frag)(H:Hp)(a:J)(xs:List V):Prop:=(∃ o,H a=Z (.frz o (.lst xs))) \/
  ∃(o:Obj)(its:Array B)(n:Nat),K.lookup a=Z o/\o.cls = .type "list" /\ o.dict=Y/\o.data = .seq its n/\its.size<=j5/\Vals xs its.toList
variable{H:Hp}{a:J}
theorem FzL.sq{K:W.Frag}{xs:List V}(h:FzL K H a xs):SqL K H a xs:=by
 rcases h with h|h
 ·exact .inl (.inr h)
 ·exact .inr h
def S8(a C dx:J)(h:Heap):Prop:=h.get? a=Z (W.instObj C dx)
inductive ObH(H:Hp)(a C:J)(fs:List (Str×V)):Prop
 | mk(dx:_)(h1:dx≠a)(h2:H a=Z (.ext (S8 a C dx)))(h3:H dx=Z (.ext (XD dx fs)))
mutual
inductive aJ(K:W.Frag)(dl:Dl)(H:Hp):V->T->List J->Prop where
 | n:aJ K dl H .non .n []
 | b(x:Bool):aJ K dl H (.bl x) (.b x) []
 | i(x:Int):aJ K dl H (.int x) (.i x) []
 | s(x:Str):aJ K dl H (.str x) (.s x) []
 | ty(x:String):aJ K dl H (.ty x) (.ty x) []
 | t{a:J}{vs:List V}{ts:List T}{F:List J}:H a=Z (.tup vs)->au K dl H vs ts F->aJ K dl H (.ref a) (.t ts) F
 | l{a:J}{vs:List V}{ts:List T}{F:List J}:H a=Z (.lst vs)->au K dl H vs ts F->aJ K dl H (.ref a) (.l ts) (a::F)
 | d{a:J}{vs:List (Key×V)}{ts:List (Key×T)}{F:List J}:H a=Z (.dK vs)->fW K dl H vs ts F->aJ K dl H (.ref a) (.d ts) (a::F)
 | x{a l:J}:(a,l)∈dl->aJ K dl H (.ref a) .jS []
 | z{a:J}{ns:List Int}:FzL K H a (ns.map V.int)->aJ K dl H (.ref a) (.z ns) []
 | q{a:J}{xs:List V}:H a=Z (.lst xs)->aJ K dl H (.ref a) .q []
 | fd{a:J}{o:Obj}{vs:List (Key×V)}{ts:List (Key×T)}:H a=Z (.frz o (.dK vs))->fW K dl H vs ts []->aJ K dl H (.ref a) (.fd o vs ts) []
 | k{a:J}{ws:List Str}:(∀ H':Hp,SqT K H' a (ws.map V.str))->aJ K dl H (.ref a) (.k ws) []
 | e{a C:J}{b:Bool}{ns:List Str}{vs:List V}{ts:List T}:ExH H a C b (ns.zip vs)->au K dl H vs ts []->aJ K dl H (.ref a) (.xc C ns ts) []
 | rm{a:J}{x u:Int}:H a=Z (.room x)->x<=u->aJ K dl H (.ref a) (.rm u) []
 | ob{a C:J}{ns:List Str}{vs:List V}{ts:List T}:ObH H a C (ns.zip vs)->au K dl H vs ts []->aJ K dl H (.ref a) (.ob C ns ts) []
 | dp{a:J}{vs:List (Key×V)}{ts:List (Key×T)}{F:List J}:H a=Z (.dK vs)->fW K dl H vs ts F->aJ K dl H (.ref a) (.dp a ts) (a::F)
 | lp{a:J}{vs:List V}{ts:List T}{F:List J}:H a=Z (.lst vs)->au K dl H vs ts F->aJ K dl H (.ref a) (.lp a ts) (a::F)
 | zl{a:J}{o:Obj}{vs:List V}{ts:List T}:H a=Z (.frz o (.lst vs))->au K dl H vs ts []->aJ K dl H (.ref a) (.zl ts) []
 | rf(a:J):aJ K dl H (.ref a) (.rf a) []
 | om{a C dx:J}{ns:List Str}{vs:List V}{ts:List T}{F:List J}:H a=Z (.ins C dx (ns.zip vs))->H dx=Z (.own a)->ns.length=ts.length->au K dl H vs ts F->aJ K dl H (.ref a) (.om a C ns ts) (a::dx::F)
inductive au(K:W.Frag)(dl:Dl)(H:Hp):List V->List T->List J->Prop where
 | nil:au K dl H [] [] []
 | cons{v:V}{x:T}{vs:List V}{ts:List T}{F G:List J}:aJ K dl H v x F->au K dl H vs ts G->au K dl H (v::vs) (x::ts) (F++G)
inductive fW(K:W.Frag)(dl:Dl)(H:Hp):List (Key×V)->List (Key×T)->List J->Prop where
 | nil:fW K dl H [] [] []
 | cons{k:Key}{v:V}{x:T}{vs:List (Key×V)}{ts:List (Key×T)}{F G:List J}:aJ K dl H v x F->fW K dl H vs ts G->fW K dl H ((k,v)::vs) ((k,x)::ts) (F++G)
end
def HO.mt:HO->Bool
 | .lst _=>O
 | .dK _=>O
 | .ins _ _ _=>O
 | .own _=>O
 | _=>ϊ
inductive fF(H:Hp)(b:J):Prop
 | mk(o:_)(h1:H b=Z o)(h2:o.mt=O)
def fF.no{b:J}(h:fF H b)(e:H b=Y):False:=by
 let(_,h,_):=h;rw[e]at h;cases h
structure TF(H H':Hp):Prop where
 t:∀ a vs,H a=Z (.tup vs)->H' a=Z (.tup vs)
 f:∀ a o u,H a=Z (.frz o u)->H' a=Z (.frz o u)
 x:∀ a φ,H a=Z (.ext φ)->H' a=Z (.ext φ)
 q:∀ a xs,H a=Z (.lst xs)->∃ ys,H' a=Z (.lst ys)
 r:∀ a x,H a=Z (.room x)->∃ y,y<=x/\H' a=Z (.room y)
variable{H':Hp}{C:J}
def ObH.tf{fs:List (Str×V)}(h:ObH H a C fs)(k:TF H H'):ObH H' a C fs:=by
 let(d,h1,h2,h3):=h;exact(d,h1,k.x _ _ h2,k.x _ _ h3)
def ExH.tf{b:Bool}{fs:List (Str×V)}(h:ExH H a C b fs)(k:TF H H'):ExH H' a C b fs:=by
 rcases h with⟨h1,h2⟩ |⟨d,h1,h2,h3⟩
 ·exact .inl (h1,k.x _ _ h2)
 ·exact .inr (d,h1,k.x _ _ h2,k.x _ _ h3)
theorem FzL.tf{K:W.Frag}{vs:List V}(h:FzL K H a vs)(k:TF H H'):FzL K H' a vs:=by
 rcases h with⟨o,h⟩|h
 ·exact .inl (o,k.f _ _ _ h)
 ·exact .inr h
def cz{α:Type}{p:α->Prop}:∀ b∈([]:List α),p b:=λ_ h=>absurd h BL
variable{dl:Dl}
theorem aJ.c6{K:W.Frag}{Q:Dl}(k:TF H H')(hd:∀ p∈dl,p∈Q){v:V}{t:T}{F:List J}(h:aJ K dl H v t F):(∀ b∈F,∀ o,H b=Z o->H' b=Z o)->aJ K Q H' v t F :=
 aJ.rec (motive_2:=λv t F _=>(∀ b∈F,∀ o,H b=Z o->H' b=Z o)->au K Q H' v t F) (motive_3:=λv t F _=>(∀ b∈F,∀ o,H b=Z o->H' b=Z o)->fW K Q H' v t F)
  (λ_=>.n) (λx _=>.b x) (λx _=>.i x) (λx _=>.s x) (λx _=>.ty x) (λh _ g q=>.t (k.t _ _ h) (g q))
  (λh _ g q=>.l (q _ dZ _ h) (g λb P=>q b (c5 _ P))) (λh _ g q=>.d (q _ dZ _ h) (g λb P=>q b (c5 _ P)))
  (λh _=>.x (hd _ h)) (λh _=>.z (h.tf k)) (λh _=>Exists.elim (k.q _ _ h) λ_ e=>.q e) (λh _ g _=>.fd (k.f _ _ _ h) (g cz)) (λh _=>.k h) (λh _ g _=>.e (h.tf k) (g cz))
  (λh hx _=>Exists.elim (k.r _ _ h) λ_ e=>.rm e.2 (Tz e.1 hx)) (λh _ g _=>.ob (h.tf k) (g cz)) (λh _ g q=>.dp (q _ dZ _ h) (g λb P=>q b (c5 _ P))) (λh _ g q=>.lp (q _ dZ _ h) (g λb P=>q b (c5 _ P))) (λh _ g _=>.zl (k.f _ _ _ h) (g cz)) (λa _=>.rf a) (λh1 h2 h3 _ g q=>.om (q _ dZ _ h1) (q _ (c5 _ dZ) _ h2) h3 (g λb P=>q b (c5 _ (c5 _ P))))
  (λ_=>.nil) (λ_ _ i1 i2 q=>.cons (i1 λb P=>q b (oE _ P)) (i2 λb P=>q b (j0 _ P)))
  (λ_=>.nil) (λ_ _ i1 i2 q=>.cons (i1 λb P=>q b (oE _ P)) (i2 λb P=>q b (j0 _ P))) h
@[elab_as_elim]
theorem au.ind{K:W.Frag}{M:List V->List T->List J->Prop}(nil:M [] [] [])(cons:∀ v x vs ts F G,aJ K dl H v x F->au K dl H vs ts G->M vs ts G->M (v::vs) (x::ts) (F++G)){vs:List V}{ts:List T}{F:List J}(h:au K dl H vs ts F):M vs ts F :=
 au.rec (motive_1:=λ_ _ _ _=>True) (motive_3:=λ_ _ _ _=>True) trivial (λ_=>trivial) (λ_=>trivial) (λ_=>trivial) (λ_=>trivial) (λ_ _ _=>trivial) (λ_ _ _=>trivial) (λ_ _ _=>trivial)
  (λ_=>trivial) (λ_=>trivial) (λ_=>trivial) (λ_ _ _=>trivial) (λ_=>trivial) (λ_ _ _=>trivial) (λ_ _=>trivial) (λ_ _ _=>trivial) (λ_ _ _=>trivial) (λ_ _ _=>trivial) (λ_ _ _=>trivial) (λ_=>trivial) (λ_ _ _ _ _=>trivial) nil (λh r _ g=>cons _ _ _ _ _ _ h r g) trivial (λ_ _ _ _=>trivial) h
@[elab_as_elim]
theorem fW.ind{K:W.Frag}{M:List (Key×V)->List (Key×T)->List J->Prop}(nil:M [] [] [])(cons:∀ k v x vs ts F G,aJ K dl H v x F->fW K dl H vs ts G->M vs ts G->M ((k,v)::vs) ((k,x)::ts) (F++G)){vs:List (Key×V)}{ts:List (Key×T)}{F:List J}(h:fW K dl H vs ts F):M vs ts F :=
 fW.rec (motive_1:=λ_ _ _ _=>True) (motive_2:=λ_ _ _ _=>True) trivial (λ_=>trivial) (λ_=>trivial) (λ_=>trivial) (λ_=>trivial) (λ_ _ _=>trivial) (λ_ _ _=>trivial) (λ_ _ _=>trivial)
  (λ_=>trivial) (λ_=>trivial) (λ_=>trivial) (λ_ _ _=>trivial) (λ_=>trivial) (λ_ _ _=>trivial) (λ_ _=>trivial) (λ_ _ _=>trivial) (λ_ _ _=>trivial) (λ_ _ _=>trivial) (λ_ _ _=>trivial) (λ_=>trivial) (λ_ _ _ _ _=>trivial) trivial (λ_ _ _ _=>trivial) nil (λh r _ g=>cons _ _ _ _ _ _ _ h r g) h
theorem au.c6{K:W.Frag}{dl g:Dl}{H H':Hp}(k:TF H H')(hd:∀ p∈dl,p∈g){vs:List V}{ts:List T}{F:List J}(h:au K dl H vs ts F):(∀ b∈F,∀ o,H b=Z o->H' b=Z o)->au K g H' vs ts F :=
 h.ind (λ_=>.nil) (λ_ _ _ _ _ _ h _ P q=>.cons (h.c6 k hd λb z=>q b (oE _ z)) (P λb z=>q b (j0 _ z)))
variable{G:List J}
def oU{F:List J}(h:∀ b∈F,fF H b)(r:∀ b∈G,fF H b):∀ b∈F++G,fF H b:=λb g=>(j1.mp g).elim (h b) (r b)
theorem aJ.there{K:W.Frag}{v:V}{t:T}{F:List J}(h:aJ K dl H v t F):∀ b∈F,fF H b :=
 aJ.rec
  cz (λ_=>cz) (λ_=>cz) (λ_=>cz) (λ_=>cz) (λ_ _ g=>g)
  (λh _ g b q=>(i8.mp q).elim (λe=>by rw[e];exact(_,h,U)) (g b)) (λh _ g b q=>(i8.mp q).elim (λe=>by rw[e];exact(_,h,U)) (g b))
  (λ_=>cz) (λ_=>cz) (λ_=>cz) (λ_ _ _=>cz) (λ_=>cz) (λ_ _ _=>cz)
  (λ_ _=>cz) (λ_ _ _=>cz) (λh _ g b q=>(i8.mp q).elim (λe=>by rw[e];exact(_,h,U)) (g b)) (λh _ g b q=>(i8.mp q).elim (λe=>by rw[e];exact(_,h,U)) (g b)) (λ_ _ _=>cz) (λ_=>cz) (λh1 h2 _ _ g b q=>(i8.mp q).elim (λe=>by rw[e];exact(_,h1,U)) λq=>(i8.mp q).elim (λe=>by rw[e];exact(_,h2,U)) (g b))
  cz (λ_ _ i1 i2=>oU i1 i2) cz (λ_ _ i1 i2=>oU i1 i2) h
theorem au.there{K:W.Frag}{dl:Dl}{H:Hp}{vs:List V}{ts:List T}{F:List J}(h:au K dl H vs ts F):∀ b∈F,fF H b:=h.ind cz (λ_ _ _ _ _ _ h _ g=>oU h.there g)
def Nd(dl:Dl)(b:J):Prop:=∀ p∈dl,b≠p.1/\b≠p.2
def Dls(dl:Dl)(H:Hp):Prop:=∀ p∈dl,oK H p.1 p.2
def Dls.nd(D:Dls dl H){b:J}{o:HO}(h:H b=Z o)(h1:∀ xs,o ≠ .lst xs)(h2:∀ ks,o ≠ .dK ks):Nd dl b:=λp hp=>by
 let(s,n,ls,Q):=D p hp;exact(fR h Q.hd (h2 _),fR h Q.hl (h1 _))
def Dls.nd0(D:Dls dl H){b:J}(h:H b=Y):Nd dl b:=λp hp=>by
 let(s,n,ls,Q):=D p hp;exact((aQ Q.hd h).symm,(aQ Q.hl h).symm)
def NR(o:HO):Prop:=∀ x,o ≠ .room x
structure Evo(dl:Dl)(H H':Hp):Prop where
 k:∀ b o,H b=Z o->Nd dl b->NR o->H' b=Z o
 d:Dls dl H'
 r:∀ a x,H a=Z (.room x)->∃ y,y<=x/\H' a=Z (.room y)
def NR.of{b:J}{o:HO}(h:fF H b)(e:H b=Z o):NR o:=λx z=>by
 let(_,h,m):=h;rw[e,z]at h;cases h;cases m
def Evo.refl(D:Dls dl H):Evo dl H H:=(λ_ _ h _ _=>h,D,λ_ x h=>(x,Tf _,h))
variable{H1:Hp}{H2:Hp}
def Evo.trans(a:Evo dl H H1)(b:Evo dl H1 H2):Evo dl H H2:=(λc o h n r=>b.k c o (a.k c o h n r) n r,b.d,λc x h=>let(y,q,e):=a.r c x h;let(z,g,K):=b.r c y e;(z,Tz g q,K))
def Evo.tf(e:Evo dl H H')(D:Dls dl H):TF H H' :=
 (λa vs h=>e.k a _ h (D.nd h (λ_ z=>nomatch z) λ_ z=>nomatch z) (λ_ z=>nomatch z),λa o u h=>e.k a _ h (D.nd h (λ_ z=>nomatch z) λ_ z=>nomatch z) (λ_ z=>nomatch z),λa φ h=>e.k a _ h (D.nd h (λ_ z=>nomatch z) λ_ z=>nomatch z) (λ_ z=>nomatch z),λa xs h=>(by
  by_cases hn:Nd dl a
  ·exact(xs,e.k a _ h hn (λ_ z=>nomatch z))
  ·obtain⟨p,hp,z⟩:∃ p∈dl,¬(a≠p.1/\a≠p.2):=Classical.byContradiction λc=>hn λp hp=>Classical.byContradiction λz=>c (p,hp,z)
   let(s,n,ls,Q):=D p hp;let(s',K,ls',q):=e.d p hp;have h1:=fR h Q.hd (λz=>nomatch z)
   have h2:=Classical.byContradiction λg=>z (h1,g)
   exact(_,by rw[h2];exact q.hl)),e.r)
theorem Evo.new{p:J}{o:HO}(e:Evo dl H H1)(hp:H1 p=Y):Evo dl H (upd H1 p o) :=
 (λc u h n r=>by rw[ao (aQ (e.k c u h n r) hp)];exact e.k c u h n r,λq K=>(e.d q K).new hp,λc x h=>let(y,z,g):=e.r c x h;(y,z,by rw[ao (aQ g hp)];exact g))
def Evo.free(e:Evo dl H H'){p:J}(hp:H' p=Y):H p=none:=by
 cases q:H p with
 | none=>rfl
 | some o =>
  by_cases hn:NR o
  ·rw[e.k p o q (e.d.nd0 hp) hn]at hp;cases hp
  ·obtain⟨x,hx⟩:∃ x,o = .room x:=Classical.byContradiction λc=>hn λx z=>c (x,z)
   subst hx;let(y,_,g):=e.r p x q;rw[g]at hp;cases hp
structure Rp(K:W.Frag)(dl:Dl)(H:Hp)(v:V)(t:T)(F:List J):Prop where
 r:aJ K dl H v t F
 n:∀ b∈F,Nd dl b
structure Rps(K:W.Frag)(dl:Dl)(H:Hp)(vs:List V)(ts:List T)(F:List J):Prop where
 r:au K dl H vs ts F
 n:∀ b∈F,Nd dl b
theorem Rp.evo{K:W.Frag}{v:V}{t:T}{F:List J}(h:Rp K dl H v t F)(D:Dls dl H)(e:Evo dl H H'):Rp K dl H' v t F :=
 (h.r.c6 (e.tf D) (λ_ q=>q) λb g o q=>e.k b o q (h.n b g) (.of (h.r.there b g) q),h.n)
theorem Rps.evo{K:W.Frag}{v:List V}{t:List T}{F:List J}(h:Rps K dl H v t F)(D:Dls dl H)(e:Evo dl H H'):Rps K dl H' v t F :=
 (h.r.c6 (e.tf D) (λ_ q=>q) λb g o q=>e.k b o q (h.n b g) (.of (h.r.there b g) q),h.n)
inductive Sl where
 | no|o (t:T)|r (t:T)
abbrev Sq:=List Sl
def Sl.get:Sl->Option T
 | .no=>Y
 | .o t=>Z t
 | .r t=>Z t
structure RdR(K:W.Frag)(dl:Dl)(H:Hp)(σ:St)(q:Sq):Prop where
 d:Dls dl H
 g:∀(i:Nat)(x:Sl)(t:T),q[i]? = Z x->x.get=Z t->∃ v F,σ[i]? = Z (Z v)/\Rp K dl H v t F
theorem RdR.evo{K:W.Frag}{dl:Dl}{H H':Hp}{σ:St}{q:Sq}(h:RdR K dl H σ q)(e:Evo dl H H'):RdR K dl H' σ q :=
 (e.d,λi x t h1 h2=>let(v,F,h3,h4):=h.g i x t h1 h2;(v,F,h3,h4.evo h.d e))
abbrev QE:=Sq ->(T->Prop)->Prop
abbrev QT:=Sq ->(Bool->Prop)->Prop
abbrev QA:=Sq ->(List T->Prop)->Prop
def mQ(K:W.Frag)(te:TE)(tq:QE):Prop:=∀(dl:Dl)(H:Hp)(σ:St)(q:Sq)(Q:T->Prop)(R:V->Hp->Prop),RdR K dl H σ q->tq q Q ->
 (∀ v t F H',Evo dl H H'->Rp K dl H' v t F->Q t->R v H')->te σ H R
def lQ(K:W.Frag)(te:TE)(tq:QE):Prop:=∀(dl:Dl)(H:Hp)(σ:St)(q:Sq)(Q:T->Prop)(R:V->Hp->Prop),RdR K dl H σ q->tq q Q ->
 (∀ v t F H',Evo dl H H'->Rp K dl H' v t F ->(∀ b∈F,H b=Y)->F.Nodup->Q t->R v H')->te σ H R
def mP(K:W.Frag)(te:TT)(tq:QT):Prop:=∀(dl:Dl)(H:Hp)(σ:St)(q:Sq)(Q:Bool->Prop)(R:Bool->Hp->Prop),RdR K dl H σ q->tq q Q ->
 (∀ b H',Evo dl H H'->Q b->R b H')->te σ H R
def vd(K:W.Frag)(n:Nat)(te:TA)(tq:QA):Prop:=∀(dl:Dl)(H:Hp)(σ:St)(q:Sq)(Q:List T->Prop)(R:List V->Hp->Prop),RdR K dl H σ q->tq q Q ->
 (∀ vs ts F H',Evo dl H H'->Rps K dl H' vs ts F->vs.length=n->Q ts->R vs H')->te σ H R
def RK(K:W.Frag)(n:Nat)(te:TA)(tq:QA):Prop:=∀(dl:Dl)(H:Hp)(σ:St)(q:Sq)(Q:List T->Prop)(R:List V->Hp->Prop),RdR K dl H σ q->tq q Q ->
 (∀ vs ts F H',Evo dl H H'->Rps K dl H' vs ts F->vs.length=n ->(∀ b∈F,H b=Y)->F.Nodup->Q ts->R vs H')->te σ H R
structure QPE(X:Cx)(K:W.Frag)(e:Expr)(te:TE)(tq:QE):Prop where
 h:PE X e te
 s:mQ K te tq
structure QPF(X:Cx)(K:W.Frag)(e:Expr)(te:TE)(tq:QE):Prop where
 h:PE X e te
 s:lQ K te tq
structure QPT(X:Cx)(K:W.Frag)(e:Expr)(te:TT)(tq:QT):Prop where
 h:PT X e te
 s:mP K te tq
structure QPW(X:Cx)(K:W.Frag)(e:Expr)(te:TT)(tq:QT):Prop where
 h:PW X e te
 s:mP K te tq
structure QPA(X:Cx)(K:W.Frag)(es:List Expr)(te:TA)(tq:QA):Prop where
 h:PA X es te
 s:vd K es.length te tq
structure xN(X:Cx)(K:W.Frag)(es:List Expr)(te:TA)(tq:QA):Prop where
 h:PA X es te
 s:RK K es.length te tq
variable{x:Str}
section
variable{X:Cx}{K:W.Frag}{a b:Expr}{ta tb:TE}{qa qb qe:QE}{pos:Pos}
def QPF.w(h:QPF X K e te qe):QPE X K e te qe:=(h.h,λdl H σ q Q R rd g k=>h.s dl H σ q Q R rd g λv t F H' e r _ _ z=>k v t F H' e r z)
mutual
def T.im:T->Bool
 | .t xs=>T.ims xs
 | .l _=>ϊ
 | .d _=>ϊ
 | .dp _ _=>ϊ
 | .lp _ _=>ϊ
 | .om _ _ _ _=>ϊ
 | _=>O
def T.ims:List T->Bool
 | []=>O
 | x::r=>x.im&&T.ims r
end
def xi{F:List J}{x y:Bool}(h:x=O->F = [])(r:y=O->G = [])(q:(x&&y)=O):F++G = []:=by rw[h (qp _ _▸q).1,r (qp _ _▸q).2];rfl
theorem aJ.im{dl:Dl}{H:Hp}{v:V}{t:T}{F:List J}(h:aJ K dl H v t F):t.im=O->F = [] :=
 aJ.rec (motive_3:=λ_ _ _ _=>True)
  (λ_=>rfl) (λ_ _=>rfl) (λ_ _=>rfl) (λ_ _=>rfl) (λ_ _=>rfl) (λ_ _ g=>g) (λ_ _ _ h=>absurd h qd) (λ_ _ _ h=>absurd h qd)
  (λ_ _=>rfl) (λ_ _=>rfl) (λ_ _=>rfl) (λ_ _ _ _=>rfl) (λ_ _=>rfl) (λ_ _ _ _=>rfl) (λ_ _ _=>rfl) (λ_ _ _ _=>rfl) (λ_ _ _ h=>absurd h qd) (λ_ _ _ h=>absurd h qd) (λ_ _ _ _=>rfl) (λ_ _=>rfl) (λ_ _ _ _ _ h=>absurd h qd) (λ_=>rfl) (λ_ _ i1 i2=>xi i1 i2) trivial (λ_ _ _ _=>trivial) h
theorem au.im{dl:Dl}{H:Hp}{v:List V}{t:List T}{F:List J}(h:au K dl H v t F):T.ims t=O->F = []:=h.ind (λ_=>rfl) (λ_ _ _ _ _ _ h _ g=>xi h.im g)
inductive Ex2{α:Type}(p:α->Prop)(Q:α->Prop):Prop
 | mk(x:α)(h:p x)(k:Q x)
inductive Ex3{α β:Type}(p:α->Prop)(g:α->β)(Q:β->Prop):Prop
 | mk(x:α)(h:p x)(k:Q (g x))
inductive Ex4{α β:Type}(p r:α->Prop)(g:α->β)(Q:β->Prop):Prop
 | mk(x:α)(h:p x)(h2:r x)(k:Q (g x))
def on1(ts:List T)(P:T->Prop):Prop:=match ts with | [t]=>P t | _=>False
def on1.inv{ts:List T}{P:T->Prop}(h:on1 ts P):∃ t,ts = [t]/\P t:=by
 cases ts with
 | nil=>exact h.elim
 | cons t r=>cases r with
  | nil=>exact(t,U,h)
  | cons=>exact h.elim
def on2(ts:List T)(P:T->T->Prop):Prop:=match ts with | [t,u]=>P t u | _=>False
def on2.inv{ts:List T}{P:T->T->Prop}(h:on2 ts P):∃ t u,ts = [t,u]/\P t u:=by
 cases ts with
 | nil=>exact h.elim
 | cons t r=>cases r with
  | nil=>exact h.elim
  | cons u r=>cases r with
   | nil=>exact(t,u,U,h)
   | cons=>exact h.elim
def qIm(qe:QE):QE:=λq Q=>qe q λt=>t.im=O/\Q t
theorem QPE.f(h:QPE X K e te qe):QPF X K e te (qIm qe):=(h.h,λdl H σ q Q R rd V k=>h.s dl H σ q _ R rd V λv t F H' e r (P,g)=>by
 have f:=r.r.im P;subst f;exact k v t [] H' e r (λ_ z=>nomatch z) kr g)
def lN(i:Nat):QE:=λq Q=>match q[i]? with
 | some (.o t)=>Q t
 | some (.r t)=>Q t
 | _=>False
def Jk(i:Nat):mQ K (bP i) (lN i):=by
 intro dl H σ q Q R rd z k;unfold lN at z
 split at z
 ·rename_i t e;let(v,F,h1,h2):=rd.g i _ t e U;exact(v,h1,k v t F H (.refl rd.d) h2 z)
 ·rename_i t e;let(v,F,h1,h2):=rd.g i _ t e U;exact(v,h1,k v t F H (.refl rd.d) h2 z)
 ·exact z.elim
def qv(i:Nat){pos:Pos}(q:X.N[i]? = Z x:=by rfl)(hv:Vis X.env.scope x:=by first|exact Or.inl rfl|exact Or.inr (Or.inl U)|exact Or.inr (Or.inr U))(hd:(x ==("__debug__":Str))=false:=by decide)
  (g:(x ==("__classdict__":Str))=false:=by decide):QPE X K (.Name x pos) (bP i) (lN i):=(wG q hv hd g,Jk i)
def qC(t:T):QE:=λ_ Q=>Q t
def qq{v:V}{t:T}(h:∀ dl H,aJ K dl H v t []):lQ K (tC v) (qC t):=λdl H σ q Q R rd g k=>k v t [] H (.refl rd.d) (h dl H,λ_ z=>nomatch z) (λ_ z=>nomatch z) kr g
def bN{i j pos}:QPF X K (.Constant (.int i) j pos) (tC (.int i)) (qC (.i i)):=(bS,qq λ_ _=>.i i)
def sY{b j pos}:QPF X K (.Constant (.bool b) j pos) (tC (.bl b)) (qC (.b b)):=(P8,qq λ_ _=>.b b)
def Gk{j pos}:QPF X K (.Constant .none j pos) (tC .non) (qC .n):=(Nu,qq λ_ _=>.n)
def aw{x j pos}:QPF X K (.Constant (.str x) j pos) (tC (.str x)) (qC (.s x)):=(fB,qq λ_ _=>.s x)
def qD{n:String}{pos:Pos}(hg:Gl X x)(hm:X.mg x=Y)(hv:bootBuiltins x=Z (.type n))(hn:x ≠ "__name__":=by decide)(hd:(x ==("__debug__":Str))=false:=by decide):QPF X K (.Name x pos) (tC (.ty n)) (qC (.ty n)) :=
 (Ka hg hm hv U hn hd,qq λ_ _=>.ty n)
def yB{y:Str}{pos:Pos}(hg:Gl X x)(hm:∃ t,X.mg x=Z (.str y t))(hd:(x ==("__debug__":Str))=false:=by decide):QPF X K (.Name x pos) (tC (.str y)) (qC (.s y)):=(GS hg hm hd,qq λ_ _=>.s y)
def yC{y:Int}{pos:Pos}(hg:Gl X x)(hm:∃ t,X.mg x=Z (.int y t))(hd:(x ==("__debug__":Str))=false:=by decide):QPF X K (.Name x pos) (tC (.int y)) (qC (.i y)):=(GV hg hm hd,qq λ_ _=>.i y)
theorem mm{dl:Dl}{H:Hp}:∀(ws:List Str),au K dl H (ws.map V.str) (ws.map T.s) []
 | []=>.nil
 | w::r=>.cons (.s w) (mm r)
theorem sS{dl:Dl}{H:Hp}:∀(ws:List Int),au K dl H (ws.map V.int) (ws.map T.i) []
 | []=>.nil
 | w::r=>.cons (.i w) (sS r)
def Gp{y:J}{ws:List Str}{pos:Pos}(hg:Gl X x)(hm:X.mg x=Z (.ref y))(g:∀ H,SqT K H y (ws.map V.str))(hd:(x ==("__debug__":Str))=false:=by decide):QPF X K (.Name x pos) (tC (.ref y)) (qC (.k ws)) :=
 (GU hg hm hd,qq λdl H=>.k g)
abbrev Q2:=T->T ->(T->Prop)->Prop
def OU(K:W.Frag)(r:R2)(rq:Q2):Prop:=∀(dl:Dl)(H:Hp)(x y:V)(t u:T)(F G:List J)(Q:T->Prop)(R:V->Hp->Prop),Dls dl H->Rp K dl H x t F->Rp K dl H y u G->rq t u Q ->
 (∀ v z F' H',Evo dl H H'->Rp K dl H' v z F'->Q z->R v H')->r x y H R
def gf(K:W.Frag)(r:R2)(rq:Q2):Prop:=∀(dl:Dl)(H:Hp)(x y:V)(t u:T)(F G:List J)(Q:T->Prop)(R:V->Hp->Prop),Dls dl H->Rp K dl H x t F->Rp K dl H y u G->rq t u Q ->
 (∀ v z F' H',Evo dl H H'->Rp K dl H' v z F' ->(∀ b∈F',H b=Y)->F'.Nodup->Q z->R v H')->r x y H R
variable{rq:Q2}
def gf.w{r:R2}(h:gf K r rq):OU K r rq:=λdl H x y t u F G Q R d a b q k=>h dl H x y t u F G Q R d a b q λv z F' H' e r _ _ g=>k v z F' H' e r g
def qOp(rq:Q2)(qa qb:QE):QE:=λq Q=>qa q λt=>qb q λu=>rq t u Q
def FE{r:R2}(ho:OU K r rq)(ha:mQ K ta qa)(hb:mQ K tb qb):mQ K (tOp r ta tb) (qOp rq qa qb):=by
 intro dl H σ q Q R rd hq k;exact ha dl H σ q _ _ rd hq λv t F H1 e1 r1 P=>(hb dl H1 σ q _ _ (rd.evo e1) P λw u G H2 V r2 g=>(ho dl H2 v w t u F G Q R V.d (r1.evo e1.d V) r2 g λv' z F' H3 e3 r3 hz=>k v' z F' H3 ((e1.trans V).trans e3) r3 hz))
def B3{r:R2}(ho:gf K r rq)(ha:mQ K ta qa)(hb:mQ K tb qb):lQ K (tOp r ta tb) (qOp rq qa qb):=by
 intro dl H σ q Q R rd hq k;exact ha dl H σ q _ _ rd hq λv t F H1 P r1 ah=>(hb dl H1 σ q _ _ (rd.evo P) ah λw u G H2 g r2 V=>(ho dl H2 v w t u F G Q R g.d (r1.evo P.d g) r2 V λv' z F' H3 e3 r3 f3 n3 hz=>k v' z F' H3 ((P.trans g).trans e3) r3 (λb hb=>(P.trans g).free (f3 b hb)) n3 hz))
def AK{op:Operator}{r:R2}(ho:OpR X (binaryOp op) r)(hs:gf K r rq)(ha:QPE X K a ta qa)(g:QPE X K b tb qb):QPF X K (.BinOp a op b pos) (tOp r ta tb) (qOp rq qa qb):=(dS ho ha.h g.h,B3 hs ha.s g.s)
end
end L2
namespace L2
open PySem PySem.Spec PyProof.Rows
variable{x:Str}{a:J}{C:J}{ns:List Int}{i:Nat}{G:List J}
section
variable{X:Cx}{K:W.Frag}{dl:Dl}{H:Hp}{v:V}{F:List J}
def S9(K:W.Frag)(dl:Dl)(H:Hp)(v:V)(F:List J):T->Prop
 | .n=>v = .non/\F = []
 | .b x=>v = .bl x/\F = []
 | .i x=>v = .int x/\F = []
 | .s x=>v = .str x/\F = []
 | .ty x=>v = .ty x
 | .t ts=>∃ a vs,v = .ref a/\H a=Z (.tup vs)/\au K dl H vs ts F
 | .l ts=>∃ a vs G,v = .ref a/\F=a::G/\H a=Z (.lst vs)/\au K dl H vs ts G
 | .d ts=>∃ a vs G,v = .ref a/\F=a::G/\H a=Z (.dK vs)/\fW K dl H vs ts G
 | .jS=>∃ a l,v = .ref a/\(a,l)∈dl/\F = []
 | .z ns=>∃ a,v = .ref a/\FzL K H a (ns.map V.int)/\F = []
 | .k ws=>∃ a,v = .ref a/\(∀ H',SqT K H' a (ws.map V.str))/\F = []
 | .xc C ns ts=>∃ a b vs,v = .ref a/\F = []/\ExH H a C b (ns.zip vs)/\au K dl H vs ts []
 | .q=>True
 | .fd _ _ _=>True
 | .rm u=>∃ a x,v = .ref a/\H a=Z (.room x)/\x<=u/\F = []
 | .ob C ns ts=>∃ a vs,v = .ref a/\F = []/\ObH H a C (ns.zip vs)/\au K dl H vs ts []
 | .dp a ts=>∃ vs G,v = .ref a/\F=a::G/\H a=Z (.dK vs)/\fW K dl H vs ts G
 | .lp a ts=>∃ vs G,v = .ref a/\F=a::G/\H a=Z (.lst vs)/\au K dl H vs ts G
 | .zl ts=>∃ a o vs,v = .ref a/\F = []/\H a=Z (.frz o (.lst vs))/\au K dl H vs ts []
 | .rf a=>v = .ref a/\F = []
 | .om a C ns ts=>∃ dx vs G,v = .ref a/\F=a::dx::G/\H a=Z (.ins C dx (ns.zip vs))/\H dx=Z (.own a)/\ns.length=ts.length/\au K dl H vs ts G
def aJ.inv{t:T}(h:aJ K dl H v t F):S9 K dl H v F t :=
 aJ.rec (motive_2:=λ_ _ _ _=>True) (motive_3:=λ_ _ _ _=>True) (U,U) (λ_=>(U,U)) (λ_=>(U,U)) (λ_=>(U,U)) (λ_=>rfl)
  (λh r _=>(_,_,U,h,r)) (λh r _=>(_,_,_,U,U,h,r)) (λh r _=>(_,_,_,U,U,h,r)) (λh=>(_,_,U,h,U)) (λh=>(_,U,h,U)) (λ_=>trivial) (λ_ _ _=>trivial) (λh=>(_,U,h,U)) (λh r _=>(_,_,_,U,U,h,r)) (λh hx=>(_,_,U,h,hx,U)) (λh r _=>(_,_,U,U,h,r)) (λh r _=>(_,_,U,U,h,r)) (λh r _=>(_,_,U,U,h,r)) (λh r _=>(_,_,_,U,U,h,r)) (λ_=>(U,U)) (λh1 h2 h3 r _=>(_,_,_,U,U,h1,h2,h3,r))
  trivial (λ_ _ _ _=>trivial) trivial (λ_ _ _ _=>trivial) h
theorem aJ.int{x:Int}(h:aJ K dl H v (.i x) F):v = .int x/\F = []:=h.inv
theorem aJ.str(h:aJ K dl H v (.s x) F):v = .str x/\F = []:=h.inv
theorem aJ.bl{x:Bool}(h:aJ K dl H v (.b x) F):v = .bl x/\F = []:=h.inv
theorem aJ.non(h:aJ K dl H v .n F):v = .non/\F = []:=h.inv
def aJ.tyy{x:String}(h:aJ K dl H v (.ty x) F):v = .ty x:=h.inv
theorem aJ.tup{ts:List T}(h:aJ K dl H v (.t ts) F):∃ a vs,v = .ref a/\H a=Z (.tup vs)/\au K dl H vs ts F:=h.inv
theorem aJ.lst{ts:List T}(h:aJ K dl H v (.l ts) F):∃ a vs G,v = .ref a/\F=a::G/\H a=Z (.lst vs)/\au K dl H vs ts G:=h.inv
def aJ.dic{ts:List (Key×T)}(h:aJ K dl H v (.d ts) F):∃ a vs G,v = .ref a/\F=a::G/\H a=Z (.dK vs)/\fW K dl H vs ts G:=h.inv
def aJ.dpp{ts:List (Key×T)}(h:aJ K dl H v (.dp a ts) F):∃ vs G,v = .ref a/\F=a::G/\H a=Z (.dK vs)/\fW K dl H vs ts G:=h.inv
def aJ.lpp{ts:List T}(h:aJ K dl H v (.lp a ts) F):∃ vs G,v = .ref a/\F=a::G/\H a=Z (.lst vs)/\au K dl H vs ts G:=h.inv
def aJ.zls{ts:List T}(h:aJ K dl H v (.zl ts) F):∃ a o vs,v = .ref a/\F = []/\H a=Z (.frz o (.lst vs))/\au K dl H vs ts []:=h.inv
def aJ.omm{ns:List Str}{ts:List T}(h:aJ K dl H v (.om a C ns ts) F):∃ dx vs G,v = .ref a/\F=a::dx::G/\H a=Z (.ins C dx (ns.zip vs))/\H dx=Z (.own a)/\ns.length=ts.length/\au K dl H vs ts G:=h.inv
def aJ.dea(h:aJ K dl H v .jS F):∃ a l,v = .ref a/\(a,l)∈dl/\F = []:=h.inv
def aJ.scr(h:aJ K dl H v (.z ns) F):∃ a,v = .ref a/\FzL K H a (ns.map V.int)/\F = []:=h.inv
def aJ.kst{ws:List Str}(h:aJ K dl H v (.k ws) F):∃ a,v = .ref a/\(∀ H',SqT K H' a (ws.map V.str))/\F = []:=h.inv
def au.len{vs:List V}{ts:List T}{F:List J}(h:au K dl H vs ts F):vs.length=ts.length:=h.ind U λ_ _ _ _ _ _ _ _ g=>congrArg (· + 1) g
def fW.len{vs:List (Key×V)}{ts:List (Key×T)}{F:List J}(h:fW K dl H vs ts F):vs.length=ts.length:=h.ind U λ_ _ _ _ _ _ _ _ _ g=>congrArg (· + 1) g
def au.Ow{vs:List V}{ts:List T}{F:List J}{t:T}(h:au K dl H vs ts F)(e:ts[i]? = Z t):∃ v G,vs[i]? = Z v/\aJ K dl H v t G/\G.Sublist F :=
 h.ind (λ_ _ e=>nomatch e) (λv x vs ts F G h _ g i t e=>by
  cases i with
  | zero=>cases e;exact(v,F,U,h,List.sublist_append_left _ _)
  | succ i =>
   let(w,q,h1,h2,h3):=g i t e;exact(w,q,h1,h2,h3.trans (Uz _ _))) i t e
def au.get{vs:List V}{ts:List T}{F:List J}{t:T}(h:au K dl H vs ts F)(e:ts[i]? = Z t):∃ v G,vs[i]? = Z v/\aJ K dl H v t G/\∀ b∈G,b∈F :=
 Exists.elim (h.Ow e) λv z=>Exists.elim z λG z=>(v,G,z.1,z.2.1,λ_ g=>z.2.2.subset g)
def au.append{vs ws:List V}{ts us:List T}{F:List J}(h:au K dl H vs ts F)(h2:au K dl H ws us G):au K dl H (vs++ws) (ts++us) (F++G) :=
 h.ind h2 λ_ _ _ _ _ _ h _ g=>by rw[BI];exact .cons h g
def au.jI{vs:List V}{ts:List T}(h:au K dl H vs ts F):vs = [] ↔ ts = []:=by
 cases h with
 | nil=>simp
 | cons _ _=>simp
theorem au.drop:∀{vs:List V}{ts:List T}{F:List J}(n:Nat),au K dl H vs ts F->∃ G,au K dl H (vs.drop n) (ts.drop n) G/\G.Sublist F
 | _,_,F,0,h=>(F,h,List.Sublist.refl _)
 | _,_,_,_+1,.nil=>([],.nil,List.Sublist.refl _)
 | _,_,_,n+1,.cons h r=>by
  let(G,h1,h2):=au.drop n r;exact(G,h1,h2.trans (Uz _ _))
theorem au.take:∀{vs:List V}{ts:List T}{F:List J}(n:Nat),au K dl H vs ts F->∃ G,au K dl H (vs.take n) (ts.take n) G/\G.Sublist F
 | _,_,F,0,h=>([],.nil,List.nil_sublist _)
 | _,_,_,_+1,.nil=>([],.nil,List.Sublist.refl _)
 | _,_,_,n+1,.cons h r=>by
  let(G,h1,h2):=au.take n r;exact(_,.cons h h1,h2.append_left _)
def Rp.sub{t:T}{F:List J}(r:aJ K dl H v t G)(n:∀ b∈F,Nd dl b)(h:∀ b∈G,b∈F):Rp K dl H v t G:=(r,λb g=>n b (h b g))
def Rp.c{t:T}(r:aJ K dl H v t []):Rp K dl H v t []:=(r,λ_ z=>nomatch z)
theorem Rps.tup{vs:List V}{ts:List T}{p:J}(h:Rps K dl H vs ts F)(D:Dls dl H)(hp:H p=Y):Rp K dl (upd H p (.tup vs)) (.ref p) (.t ts) F :=
 have h2:=h.evo D ((Evo.refl D).new hp)
 (.t aB h2.r,h2.n)
theorem Rps.lst{vs:List V}{ts:List T}{p:J}(h:Rps K dl H vs ts F)(D:Dls dl H)(hp:H p=Y):Rp K dl (upd H p (.lst vs)) (.ref p) (.l ts) (p::F) :=
 have h2:=h.evo D ((Evo.refl D).new hp)
 (.l aB h2.r,λb g=>by
  rcases i8.mp g with e|g
  ·rw[e];exact D.nd0 hp
  ·exact h2.n b g)
theorem Rps.fresh{vs:List V}{ts:List T}{p:J}(h:Rps K dl H vs ts F)(hp:H p=Y)(hn:F.Nodup):(p::F).Nodup:=rX.mpr (λz=>(h.r.there p z).no hp,hn)
def qI0(g:Int->Int->T):Q2:=λt u Q=>match t with
 | .i a=>match u with | .i b=>Q (g a b) | _=>False
 | _=>False
def oX{g:Int->Int->V}{g':Int->Int->T}(hg:∀ a b dl H,aJ K dl H (g a b) (g' a b) []):gf K (rI0 g) (qI0 g'):=by
 intro dl H x y t u F G Q R D r1 P q k;unfold qI0 at q
 split at q
 ·split at q
  ·let(U,U):=r1.r.int;let(U,U):=P.r.int;exact(_,_,U,U,k _ _ [] H (.refl D) (.c (hg _ _ _ _)) (λ_ z=>nomatch z) kr q)
  ·exact q.elim
 ·exact q.elim
def Kg:OpR X (binaryOp .Add) (λx y H Q=>∃ a b xs ys,x = .ref a/\y = .ref b/\SqT X.K H a xs/\SqT X.K H b ys/\xs.length+ys.length<=j5 /\
  (xs = []->Q (.ref b) H)/\(xs ≠ []->ys = []->Q (.ref a) H)/\(xs ≠ []->ys ≠ []->∀ p,H p=Y->Q (.ref p) (upd H p (.tup (xs++ys))))):=by
 intro gd s σ H x y v u Q I rx V h;let(a,b,xs,ys,U,U,ha,hb,hz,q0,q1,q2):=h;by_cases hx:xs = []
 ·cases rx;cases V;let(its,r1,p1,_):=I.tuple ha;let(iw,r2,p2,_):=I.tuple hb;have e:=r1.jI.mpr hx;subst e;let((cls,dd,data,sl),ho,hc,n,hd):=id p1;let((S1,P,data2,q),g,z,n2,hd2):=id p2;subst hc hd z hd2;exact concat_meets (_,ho,U) (_,g,U) noFill_tuple_add seq_tuple_add PySem.F.slot_tuple_add PySem.F.entry_tuple_add (PySem.F.args_tuple_add_2 _ _)
   (tuple_addW0 a b ([]).toArray iw.toArray n n2 dd P sl q (by simp)) (ho,g,(.ref b,H,I,U,q0 hx))
 ·exact Kh gd s σ H _ _ v u Q I rx V (a,b,xs,ys,U,U,ha,hb,hx,hz,q1 hx,q2 hx)
def Ga(K:W.Frag):R2:=λx y H Q=>rI0 (λi j=>.int (i+j)) x y H Q\/(∃ i j,x = .str i/\y = .str j/\i.length+j.length<=j5/\Q (.str (i++j)) H)\/Px x y H Q \/
 (∃ a b xs ys,x = .ref a/\y = .ref b/\SqT K H a xs/\SqT K H b ys/\xs.length+ys.length<=j5 /\
  (xs = []->Q (.ref b) H)/\(xs ≠ []->ys = []->Q (.ref a) H)/\(xs ≠ []->ys ≠ []->∀ p,H p=Y->Q (.ref p) (upd H p (.tup (xs++ys)))))
def Ki(g:X.K=K):OpR X (binaryOp .Add) (Ga K):=by subst g;exact pI.or (A1.or (Ny.or Kg))
def DR:Q2:=λt u Q=>match t with
 | .i a=>match u with | .i b=>Q (.i (a+b)) | _=>False
 | .s a=>match u with | .s b=>a.length+b.length<=j5/\Q (.s (a++b)) | _=>False
 | .l a=>match u with | .l b=>a.length+b.length<=j5/\T.ims a=O/\T.ims b=O/\Q (.l (a++b)) | _=>False
 | .t a=>match u with | .t b=>a.length+b.length<=j5/\T.ims a=O/\T.ims b=O/\Q (.t (a++b)) | _=>False
 | _=>False
def Js:gf K (Ga K) DR:=by
 intro dl H x y t u F G Q R D P q g k;have no:∀ b,b∈([])->H b=none:=λ_ z=>nomatch z
 cases t with
 | i a =>
  dsimp only[DR]at g
  split at g
  ·let(U,U):=P.r.int;let(U,U):=q.r.int;exact .inl (_,_,U,U,k _ _ [] H (.refl D) (.c (.i _)) no kr g)
  ·exact g.elim
 | s a =>
  dsimp only[DR]at g
  split at g
  ·let(U,U):=P.r.str;let(U,U):=q.r.str;exact .inr (.inl (_,_,U,U,g.1,k _ _ [] H (.refl D) (.c (.s _)) no kr g.2))
  ·exact g.elim
 | l a =>
  dsimp only[DR]at g
  split at g
  ·let(a,vs,F1,U,U,h1,s1):=P.r.lst;let(b,ws,G1,U,U,h2,s2):=q.r.lst;obtain rfl:=s1.im g.2.1;obtain rfl:=s2.im g.2.2.1;refine .inr (.inr (.inl (a,b,vs,ws,U,U,h1,h2,by rw[s1.len,s2.len];exact g.1,λp hp=>?_)))
   have rs:Rps K dl H (vs++ws) _ ([] ++ []):=(s1.append s2,λc hc=>nomatch hc)
   exact k _ _ _ _ ((Evo.refl D).new hp) (rs.lst D hp) (λb hb=>by rw[bB.mp hb];exact hp) (by simp) g.2.2.2
  ·exact g.elim
 | t a =>
  dsimp only[DR]at g
  split at g
  ·let(a,vs,U,h1,s1):=P.r.tup;let(b,ws,U,h2,s2):=q.r.tup;obtain rfl:=s1.im g.2.1;obtain rfl:=s2.im g.2.2.1;refine .inr (.inr (.inr (a,b,vs,ws,U,U,SqT.of h1,SqT.of h2,by rw[s1.len,s2.len];exact g.1,λe=>?_,λe1 e2=>?_,λ_ _ p hp=>?_)))
   ·refine k _ _ [] H (.refl D) q no kr ?_;have z:=s1.jI.mp e;subst z;exact g.2.2.2
   ·refine k _ _ [] H (.refl D) P no kr ?_;have z:=s2.jI.mp e2;subst z;have V:=g.2.2.2;rw[ko]at V;exact V
   ·have rs:Rps K dl H (vs++ws) _ ([] ++ []):=(s1.append s2,λc hc=>nomatch hc)
    exact k _ _ _ _ ((Evo.refl D).new hp) (rs.tup D hp) no kr g.2.2.2
  ·exact g.elim
 | _=>exact g.elim
def JK:Q2:=λt u Q=>match t with
 | .i a=>match u with | .i b=>IL a b/\Q (.i (a*b)) | _=>False
 | .s a=>match u with | .i b=>0<=b/\b<=1000/\a.length<=1000/\Q (.s (mj a b.toNat)) | _=>False
 | _=>False
def F7:R2:=λx y H Q=>rI IL (λi j=>.int (i*j)) x y H Q\/(∃ z n,x = .str z/\y = .int n/\0<=n/\n<=1000/\z.length<=1000/\Q (.str (mj z n.toNat)) H)
def Kf:OpR X (binaryOp .Mult) F7:=my.or A0
def Jp:gf K F7 JK:=by
 intro dl H x y t u F G Q R D P q g k;cases t with
 | i a =>
  dsimp only[JK]at g
  split at g
  ·let(U,U):=P.r.int;let(U,U):=q.r.int;exact .inl (_,_,U,U,g.1,k _ _ [] H (.refl D) (.c (.i _)) (λ_ z=>nomatch z) kr g.2)
  ·exact g.elim
 | s a =>
  dsimp only[JK]at g
  split at g
  ·let(U,U):=P.r.str;let(U,U):=q.r.int;exact .inr (_,_,U,U,g.1,g.2.1,g.2.2.1,k _ _ [] H (.refl D) (.c (.s _)) (λ_ z=>nomatch z) kr g.2.2.2)
  ·exact g.elim
 | _=>exact g.elim
end
section
variable{X:Cx}{K:W.Frag}{a b:Expr}{ta tb:TE}{qa qb:QE}{pos:Pos}
def aO(ha:QPE X K a ta qa)(g:QPE X K b tb qb)(q:X.K=K:=by rfl):QPF X K (.BinOp a .Add b pos) (tOp (Ga K) ta tb) (qOp DR qa qb):=AK (Ki q) Js ha g
def AJ(ha:QPE X K a ta qa)(g:QPE X K b tb qb):QPF X K (.BinOp a .Sub b pos) (tOp (rI0 λi j=>.int (i - j)) ta tb) (qOp (qI0 λi j=>.i (i - j)) qa qb):=AK GZ (oX λ_ _ _ _=>.i _) ha g
def MJ(ha:QPE X K a ta qa)(g:QPE X K b tb qb):QPF X K (.BinOp a .Mult b pos) (tOp F7 ta tb) (qOp JK qa qb):=AK Kf Jp ha g
end
variable{dl:Dl}{H:Hp}{op:CmpOp}{rq:Q2}{j:Nat}
section
variable{X:Cx}{K:W.Frag}{a b c e:Expr}{es rest:List Expr}{ta tb te:TE}{qa qb qe:QE}{tA tB:TT}{qA qB:QT}{tl:TA}{ql:QA}{pos:Pos}
def T.v:T->V
 | .n=>.non | .b x=>.bl x | .i x=>.int x | .s x=>.str x | _=>.ty ""
def T.fl:T->Bool
 | .n=>O | .b _=>O | .i _=>O | .s _=>O | _=>ϊ
theorem aJ.v{dl:Dl}{H:Hp}{v:V}{t:T}{F:List J}(h:aJ K dl H v t F)(f:t.fl=O):v=t.v/\F = []:=by
 cases h <;> first|exact(U,U)|exact absurd (f) qd
def qEq:Q2:=λt u Q=>(t.fl&&u.fl&&Ju t.v u.v)=O/\Q (.b (decide (t.v=u.v)))
def qNe:Q2:=λt u Q=>(t.fl&&u.fl&&Ju t.v u.v)=O/\Q (.b (!decide (t.v=u.v)))
def Mx:gf K rEq qEq:=by
 intro dl H x y t u F G Q R D P q g k;let(h,g):=g;rw[qp,qp]at h;let(U,U):=P.r.v h.1.1;let(U,U):=q.r.v h.1.2;exact(h.2,k _ _ [] H (.refl D) (.c (.b _)) (λ_ z=>nomatch z) kr g)
def fK:gf K rNe qNe:=by
 intro dl H x y t u F G Q R D P q g k;let(h,g):=g;rw[qp,qp]at h;let(U,U):=P.r.v h.1.1;let(U,U):=q.r.v h.1.2;exact(h.2,k _ _ [] H (.refl D) (.c (.b _)) (λ_ z=>nomatch z) kr g)
def PN(neg:Bool):Q2:=λt u Q=>match u with
 | .n=>Q (.b (match t with | .n=>!neg | _=>neg))
 | _=>False
def aJ.Sm{v:V}{t:T}{F:List J}(h:aJ K dl H v t F):(!decide (v = .non))=match(generalizing:=false) t with | .n=>!true | _=>true:=by cases h <;> rfl
def FF:gf K (λx y H Q=>y = .non/\Q (.bl (!decide (x = .non))) H) (PN O):=by
 intro dl H x y t u F G Q R D P q g k;unfold PN at g
 split at g
 ·let(U,U):=q.r.non;refine(U,k _ _ [] H (.refl D) (.c (.b _)) (λ_ z=>nomatch z) kr ?_)
  rw[P.r.Sm];exact g
 ·exact g.elim
def inT(x:T)(xs:List T):Bool:=xs.any λy=>eqV y.v x.v
def fls(xs:List T):Bool:=xs.all T.fl
theorem au.vs{dl:Dl}{H:Hp}{vs:List V}{ts:List T}{F:List J}(h:au K dl H vs ts F):fls ts=O->vs=ts.map T.v/\F = [] :=
 h.ind (λ_=>(U,U)) λ_ _ _ _ _ _ h _ g f=>by
  have f:(_&&_)=true:=f;rw[qp]at f;let(U,U):=h.v f.1;let(U,U):=g f.2;exact(U,U)
def t9{ts:List T}(f:fls ts=O):(ts.map T.v).all iM=true:=by
 rw[z7];intro x hx;let(t,g,U):=O1.mp hx
 have:=z7.mp f t g
 cases t <;> first|rfl|exact absurd this qd
def K6{t:T}(f:t.fl=O):iM t.v=true:=by cases t <;> first|rfl|exact absurd f qd
def Jy(K:W.Frag)(neg:Bool):R2:=λx y H Q=>rIn K neg x y H Q\/∃ i j,x = .str i/\y = .str j/\Q (.bl (if neg then !(!(Builtin.Str.occurrences j i 0 j.length 1).isEmpty)else !(Builtin.Str.occurrences j i 0 j.length 1).isEmpty)) H
def tI(g:X.K=K):OpR X (compareOp .In) (Jy K ϊ):=by subst g;exact D5.or D4
def vt(g:X.K=K):OpR X (compareOp .NotIn) (Jy K O):=by subst g;exact wL.or wK
def qIn(neg:Bool):Q2:=λt u Q=>match u with
 | .l xs=>(t.fl&&fls xs)=O/\Q (.b (if neg then !inT t xs else inT t xs))
 | .t xs=>(t.fl&&fls xs)=O/\Q (.b (if neg then !inT t xs else inT t xs))
 | .k ws=>match t with
  | .s y=>Q (.b (if neg then !inT (.s y) (ws.map T.s)else inT (.s y) (ws.map T.s)))
  | _=>False
 | .s z=>match t with
  | .s y=>Q (.b (if neg then !(!(Builtin.Str.occurrences z y 0 z.length 1).isEmpty)else !(Builtin.Str.occurrences z y 0 z.length 1).isEmpty))
  | _=>False
 | _=>False
def lY{neg:Bool}:gf K (Jy K neg) (qIn neg):=by
 intro dl H x y t u F G Q R D P q g k;have go:∀ xs p vs,y = .ref p ->(SqL K H p vs\/SqT K H p vs) ->(∃ G,au K dl H vs xs G) ->(t.fl&&fls xs)=O/\Q (.b (if neg then !inT t xs else inT t xs))->Jy K neg x y H R:=by
  rintro xs p vs rfl hs ⟨G,rs⟩ ⟨f,g⟩
  rw[qp]at f;let(U,U):=P.r.v f.1;let(U,_):=rs.vs f.2;refine .inl (p,_,U,hs,K6 f.1,t9 f.2,k _ (.b _) [] H (.refl D) (.c (.b _)) (λ_ z=>nomatch z) kr ?_)
  have e:inV t.v (xs.map T.v)=inT t xs:=by unfold inV inT;rw[U9];rfl
  rw[e];exact g
 cases u with
 | l xs =>
  let(p,vs,G,U,_,h1,h2):=q.r.lst;exact go _ p vs U (.inl (SqL.of h1)) (_,h2) g
 | t xs =>
  let(p,vs,U,h1,h2):=q.r.tup;exact go _ p vs U (.inr (SqT.of h1)) (_,h2) g
 | k ws =>
  dsimp only[qIn]at g
  split at g
  ·let(p,U,h1,_):=q.r.kst;refine go _ p _ U (.inr (h1 H)) (_,mm _) (?_,g);rw[qp];refine(U,?_);unfold fls;rw[UK,z7];exact λ_ _=>rfl
  ·exact g.elim
 | s z =>
  dsimp only[qIn]at g
  split at g
  ·let(U,U):=P.r.str;let(U,U):=q.r.str;exact .inr (_,_,U,U,k _ _ [] H (.refl D) (.c (.b _)) (λ_ z=>nomatch z) kr g)
  ·exact g.elim
 | _=>exact g.elim
def gE{r:R2}(ho:OpR X (compareOp op) r)(hs:gf K r rq)(hm:behindInMarks op b=ϊ)(ha:QPE X K a ta qa)(g:QPE X K b tb qb):QPF X K (.Compare a [op] [b] pos) (tOp r ta tb) (qOp rq qa qb) :=
 (J9 ho ha.h g.h hm,B3 hs ha.s g.s)
def jU(qe:QE):QT:=λq Q=>qe q λt=>match t with
 | .b x=>Q x
 | _=>False
def FD(h:mQ K te qe):mP K (yf te) (jU qe):=by
 intro dl H σ q Q R rd z k;refine h dl H σ q _ _ rd z λv t F H' e r g=>?_
 split at g
 ·let(U,U):=r.r.bl;exact(_,U,k _ H' e g)
 ·exact g.elim
def cS{r:R2}(ho:OpR X (compareOp op) r)(hs:gf K r rq)(hm:behindInMarks op b=ϊ)(ha:QPE X K a ta qa)(g:QPE X K b tb qb):QPT X K (.Compare a [op] [b] pos) (yf (tOp r ta tb)) (jU (qOp rq qa qb)) :=
 (lI ho ha.h g.h hm,FD (FE hs.w ha.s g.s))
def DP(qe:QE):QT:=λq Q=>qe q λt=>match t with
 | .b x=>Q x
 | .n=>Q ϊ
 | .i x=>Q (x != 0)
 | .s x=>x.length<=j5/\Q ((x.length:Int) != 0)
 | .l xs=>Q (!xs.isEmpty)
 | .t xs=>Q (!xs.isEmpty)
 | .d xs=>Q (!xs.isEmpty)
 | _=>False
def Jl(h:mQ K te qe):mP K (λσ H Q=>te σ H λx H'=>∃ k,Lm K x H' k/\Q k H') (DP qe):=by
 intro dl H σ q Q R rd z k;refine h dl H σ q _ _ rd z λv t F H' e r g=>?_
 have emp:∀{α β:Type}{xs:List α}{ys:List β},xs.length=ys.length ->(!xs.isEmpty) = !ys.isEmpty:=λ{α β xs ys} h=>by
  cases xs <;> cases ys <;> first|rfl |(simp at h)
 cases t with
 | b x =>
  let(U,U):=r.r.bl;exact(_,U,k _ H' e g)
 | n =>
  let(U,U):=r.r.non;exact(_,U,k _ H' e g)
 | i x =>
  let(U,U):=r.r.int;exact(_,U,k _ H' e g)
 | s x =>
  let(U,U):=r.r.str;exact(_,(g.1,U),k _ H' e g.2)
 | l xs =>
  let(p,vs,G,U,_,h1,h2):=r.r.lst;exact(_,.inl (vs,SqL.of h1,U),k _ H' e (by rw[emp h2.len];exact g))
 | t xs =>
  let(p,vs,U,h1,h2):=r.r.tup;exact(_,.inr (.inl (vs,SqT.of h1,U)),k _ H' e (by rw[emp h2.len];exact g))
 | d xs =>
  let(p,vs,G,U,_,h1,h2):=r.r.dic;exact(_,.inr (.inr (vs,h1,U)),k _ H' e (by rw[emp h2.len];exact g))
 | _=>exact g.elim
def bE(h:QPE X K e te qe)(he:∀ whole,isTrue e X.env whole =(do let v <- whole;standAt e.pos;holding [v] (truthy v)):=by intro _;rfl)(g:X.K=K:=by rfl) :
  QPT X K e (λσ H Q=>te σ H λx H'=>∃ k,Lm K x H' k/\Q k H') (DP qe):=(by subst g;exact GF h.h he,Jl h.s)
def DQ(t:QT):QT:=λq Q=>t q λc=>Q (!c)
def AQ(t u:QT):QT:=λq Q=>t q λc=>if c=O then u q Q else Q ϊ
def qOr(t u:QT):QT:=λq Q=>t q λc=>if c=O then Q O else u q Q
def Jo(h:mP K tA qA):mP K (Ml tA) (DQ qA):=λdl H σ q _ R rd z k=>h dl H σ q _ _ rd z λb H' e g=>k _ H' e g
def Jr(h:mP K tA qA)(h2:mP K tB qB):mP K (Mq tA tB) (AQ qA qB):=λdl H σ q Q R rd P k=>h dl H σ q _ _ rd P λb H' e g=>by
 cases b with
 | false=>exact k _ H' e g
 | true=>exact h2 dl H' σ q Q R (rd.evo e) g λc H2 V z=>k c H2 (e.trans V) z
def Mv(h:mP K tA qA)(h2:mP K tB qB):mP K (tOr tA tB) (qOr qA qB):=λdl H σ q Q R rd P k=>h dl H σ q _ _ rd P λb H' e g=>by
 cases b with
 | true=>exact k _ H' e g
 | false=>exact h2 dl H' σ q Q R (rd.evo e) g λc H2 V z=>k c H2 (e.trans V) z
def kL(h:QPT X K a tA qA):QPT X K (.UnaryOp .Not a pos) (Ml tA) (DQ qA):=(MZ h.h,Jo h.s)
def nh(h:QPT X K a tA qA):QPW X K (.BoolOp .And [a] pos) tA qA:=(Ca h.h,h.s)
def pj(h:QPT X K a tA qA):QPW X K (.BoolOp .Or [a] pos) tA qA:=(MX h.h,h.s)
def pz(h:QPT X K a tA qA)(h2:QPW X K (.BoolOp .And (b::rest) pos) tB qB):QPW X K (.BoolOp .And (a::b::rest) pos) (Mq tA tB) (AQ qA qB):=(GB h.h h2.h,Jr h.s h2.s)
def ng(h:QPT X K a tA qA)(h2:QPW X K (.BoolOp .Or (b::rest) pos) tB qB):QPW X K (.BoolOp .Or (a::b::rest) pos) (tOr tA tB) (qOr qA qB):=(PZ h.h h2.h,Mv h.s h2.s)
theorem QPW.pt(h:QPW X K e tA qA):QPT X K e tA qA:=(h.h.pt,h.s)
def LG(qa qb:QE):QE:=λq Q=>qa q λt=>match t with
 | .b c=>if c=O then qb q Q else Q (.b ϊ)
 | _=>False
def FJ(h:mQ K ta qa)(h2:lQ K tb qb):lQ K (Fj ta tb) (LG qa qb):=λdl H σ q Q R rd hq k=>h dl H σ q _ _ rd hq λv t F H' e r g=>by
 split at g
 ·rename_i c;let(U,U):=r.r.bl;refine(c,U,?_);cases c with
  | false=>exact k _ _ [] H' e r (λ_ z=>nomatch z) kr g
  | true=>exact h2 dl H' σ q Q R (rd.evo e) g λw u G H2 e2 P f2 V z=>k w u G H2 (e.trans e2) P (λb hb=>e.free (f2 b hb)) V z
 ·exact g.elim
def sX{op}(h:QPF X K a ta qa):QPF X K (.BoolOp op [a] pos) ta qa:=(Nt h.h,h.s)
def pA(ha:QPE X K a ta qa)(g:QPF X K (.BoolOp .And (b::rest) pos) tb qb):QPF X K (.BoolOp .And (a::b::rest) pos) (Fj ta tb) (LG qa qb):=(Nv ha.h g.h,FJ ha.s g.s)
def qIf(t:QT)(qa qb:QE):QE:=λq Q=>t q λc=>if c=O then qa q Q else qb q Q
def Lz(hc:QPT X K c tA qA)(ha:QPF X K a ta qa)(g:QPF X K b tb qb):QPF X K (.IfExp c a b pos) (tIf tA ta tb) (qIf qA qa qb):=(GR hc.h ha.h g.h,λdl H σ q Q R rd hq k=>hc.s dl H σ q _ _ rd hq λd H' e hz=>by
 cases d with
 | true=>exact ha.s dl H' σ q Q R (rd.evo e) hz λw u G H2 e2 P f2 V z=>k w u G H2 (e.trans e2) P (λb g=>e.free (f2 b g)) V z
 | false=>exact g.s dl H' σ q Q R (rd.evo e) hz λw u G H2 e2 P f2 V z=>k w u G H2 (e.trans e2) P (λb g=>e.free (f2 b g)) V z)
def MI(ha:QPE X K a ta qa):QPF X K (.UnaryOp .USub a pos) (tUn (rU λi=>.int (-i)) ta) (λq Q=>qa q λt=>match t with | .i x=>Q (.i (-x)) | _=>False):=(Cg vY ha.h,λdl H σ q Q R rd P k=>ha.s dl H σ q _ _ rd P λv t F H' e r g=>by
 split at g
 ·let(U,U):=r.r.int;exact(_,U,k _ _ [] H' e (.c (.i _)) (λ_ z=>nomatch z) kr g)
 ·exact g.elim)
def MO:QA:=λ_ Q=>Q []
def Gx(qa:QE)(ql:QA):QA:=λq Q=>qa q λt=>ql q λts=>Q (t::ts)
def aF:xN X K [] fY MO:=(eT,λdl H σ q Q R rd g k=>k [] [] [] H (.refl rd.d) (.nil,λ_ z=>nomatch z) U (λ_ z=>nomatch z) kr g)
def xN.w(h:xN X K es tl ql):QPA X K es tl ql:=(h.h,λdl H σ q Q R rd g k=>h.s dl H σ q Q R rd g λvs ts F H' e r l _ _ z=>k vs ts F H' e r l z)
theorem Rps.cons{dl:Dl}{H:Hp}{v:V}{t:T}{vs:List V}{ts:List T}{F G:List J}(h:Rp K dl H v t F)(r:Rps K dl H vs ts G):Rps K dl H (v::vs) (t::ts) (F++G):=(.cons h.r r.r,λb g=>(j1.mp g).elim (h.n b) (r.n b))
def ae(ha:QPE X K e te qe)(hr:QPA X K es tl ql)(hs:iS (e::es) X.env =(ϊ,eval e X.env)::iS es X.env:=by rfl):QPA X K (e::es) (cw te tl) (Gx qe ql) :=
 (bj ha.h hr.h hs,λdl H σ q Q R rd hq k=>ha.s dl H σ q _ _ rd hq λv t F H1 g r1 hz=>hr.s dl H1 σ q _ _ (rd.evo g) hz λvs ts G H2 P V l2 z=>k _ _ _ H2 (g.trans P) (.cons (r1.evo g.d P) V) (by simp[l2]) z)
def af(ha:QPF X K e te qe)(hr:xN X K es tl ql)(hs:iS (e::es) X.env =(ϊ,eval e X.env)::iS es X.env:=by rfl):xN X K (e::es) (cw te tl) (Gx qe ql) :=
 (bj ha.h hr.h hs,λdl H σ q Q R rd hq k=>ha.s dl H σ q _ _ rd hq λv t F H1 g r1 f1 n1 hz=>hr.s dl H1 σ q _ _ (rd.evo g) hz λvs ts G H2 e2 r2 l2 f2 n2 z =>
  k _ _ _ H2 (g.trans e2) (.cons (r1.evo g.d e2) r2) (by simp[l2]) (λb P=>(j1.mp P).elim (f1 b) λP=>g.free (f2 b P)) (xQ.mpr (n1,n2,λx hx y hy V=>by
   subst V;exact(r1.r.there x hx).no (f2 x hy))) z)
def R6(ql:QA):QE:=λq Q=>ql q λts=>Q (.t ts)
def R9(ql:QA):QE:=λq Q=>ql q λts=>Q (.l ts)
def cM{P}(h:xN X K es tl ql)(hz:es.length<=1000:=by decide):QPF X K (.Tuple es P pos) (Mh tl) (R6 ql):=(GO h.h,λdl H σ q Q R rd hq k=>h.s dl H σ q _ _ rd hq λvs ts F H1 g V l1 f1 n1 z =>
 (rV (bb (by lia)),λp hp=>k _ _ F _ (g.new hp) (V.tup g.d hp) f1 n1 z))
def aN(h:xN X K es tl ql)(hz:es.length<=1000:=by decide):QPF X K (.List es pos) (Mm tl) (R9 ql):=(GQ h.h,λdl H σ q Q R rd hq k=>h.s dl H σ q _ _ rd hq λvs ts F H1 P V l1 f1 n1 z =>
 (rV (bb (by omega)),λp hp=>k _ _ (p::F) _ (P.new hp) (V.lst P.d hp) (λb g=>by
  rcases i8.mp g with e|g
  ·rw[e];exact P.free hp
  ·exact f1 b g) (V.fresh hp n1) z))
def iH{ws:List Str}(h:strsOf es=Z ws)(hl:es.length=ws.length:=by rfl):xN X K es (λ_ H Q=>Q (ws.map V.str) H) (λ_ Q=>Q (ws.map T.s)) :=
 (Kb h,λdl H σ q Q R rd g k=>k _ _ [] H (.refl rd.d) (mm ws,λ_ z=>nomatch z) (by rw[gV];exact hl.symm) (λ_ z=>nomatch z) kr g)
def qIx:Q2:=λt u Q=>match u with
 | .i k=>match t with
  | .l xs=>Ex2 (λx=>atI xs k=Z x) Q
  | .t xs=>Ex2 (λx=>atI xs k=Z x) Q
  | .z ns=>Ex3 (λx=>atI ns k=Z x) (λx=>(.i x)) Q
  | .zl xs=>Ex2 (λx=>atI xs k=Z x) Q
  | .s z=>z.length<=j5/\Ex3 (λc=>atI z.cps.toList k=Z c) (λc=>(.s ⟨#[c]⟩)) Q
  | _=>False
 | _=>False
def oy{α β:Type}{xs:List α}{ys:List β}{k:Int}{x:α}(h:atI xs k=Z x)(hl:xs.length=ys.length):∃ j:Nat,xs[j]? = Z x/\ixN ys.length k=Z j:=by
 unfold atI at h;cases e:ixN xs.length k with
 | none=>rw[e]at h;cases h
 | some j=>rw[e]at h;exact(j,h,by rw[<- hl];exact e)
def mM{α:Type}{xs:List α}{k:Int}{x:α}(h:ixN xs.length k=Z j)(hx:xs[j]? = Z x):atI xs k=Z x:=by unfold atI;rw[h];exact hx
def Mw:OU K (rIx K) qIx:=by
 intro dl H x y t u F G Q R D q r2 g k;unfold qIx at g
 split at g
 ·rename_i k0;let(U,U):=r2.r.int;cases t with
  | l xs =>
   let(p,vs,G,U,U,h1,h2):=q.r.lst;let(z,P,g):=g;let(j,hj,hi):=oy P h2.len.symm;let(v,G',hv,rv,hs):=h2.get hj;exact .inl (p,vs,k0,v,U,U,SqL.of h1,mM hi hv,k v z G' H (.refl D) (Rp.sub rv q.n λb hb=>c5 _ (hs b hb)) g)
  | t xs =>
   let(p,vs,U,h1,h2):=q.r.tup;let(z,P,g):=g;let(j,hj,hi):=oy P h2.len.symm;let(v,G',hv,rv,hs):=h2.get hj;exact .inr (.inl (p,vs,k0,v,U,U,SqT.of h1,mM hi hv,k v z G' H (.refl D) (Rp.sub rv q.n hs) g))
  | z ns =>
   let(p,U,h1,_):=q.r.scr;let(z,P,g):=g;refine .inl (p,_,k0,.int z,U,U,h1.sq,?_,k _ _ [] H (.refl D) (.c (.i _)) g);let(j,hj,hi):=oy (ys:=(_:List Int).map V.int) P (by rw[gV])
   exact mM hi (by rw[qx,hj];rfl)
  | zl xs =>
   let(p,o,vs,U,U,h1,h2):=q.r.zls;let(z,P,g):=g;let(j,hj,hi):=oy P h2.len.symm;let(v,G',hv,rv,hs):=h2.get hj;exact .inl (p,vs,k0,v,U,U,.inl (.inr (o,h1)),mM hi hv,k v z G' H (.refl D) (Rp.sub rv q.n hs) g)
  | s z =>
   let(U,U):=q.r.str;let(hl,c,hc,g):=g;exact .inr (.inr (_,k0,c,U,U,hl,hc,k _ _ [] H (.refl D) (.c (.s _)) g))
  | _=>exact g.elim
 ·exact g.elim
def a6(ha:QPE X K a ta qa)(g:QPE X K b tb qb)(hs:oB b:=by intro _ _;rfl)(q:X.K=K:=by rfl):QPE X K (.Subscript a b pos) (tOp (rIx K) ta tb) (qOp qIx qa qb):=(by subst q;exact Cj xg ha.h g.h hs,FE Mw ha.s g.s)
end
variable{prog:Program}{A:Around}{E:B->ϋ->Prop}{s:ϋ}{items:Array B}{Q:B->ϋ->Prop}{p2:Pos}{n:Nat}{r:List V->Hp->VK->Prop}
section
variable{X:Cx}{K:W.Frag}{a b c e:Expr}{es:List Expr}{te:TE}{qe:QE}{tl:TA}{ql:QA}{pos p:Pos}
abbrev QO:=Sq ->(Option Int->Prop)->Prop
def S6(K:W.Frag)(t:TO)(tq:QO):Prop:=∀(dl:Dl)(H:Hp)(σ:St)(q:Sq)(Q:Option Int->Prop)(R:Option Int->Hp->Prop),RdR K dl H σ q->tq q Q ->(∀ o H',Evo dl H H'->Q o->R o H')->t σ H R
structure QPO(X:Cx)(K:W.Frag)(e:Option Expr)(t:TO)(tq:QO):Prop where
 h:PO X e t
 s:S6 K t tq
def B9:QPO X K Y BV (λ_ Q=>Q Y):=(J4,λ_ _ _ _ _ _ rd g k=>k Y _ (.refl rd.d) g)
def B8(h:QPE X K e te qe):QPO X K (Z e) (Lu te) (λq Q=>qe q λt=>match t with | .i x=>Q (Z x) | _=>False):=(wB h.h,λdl H σ q Q R rd z k=>h.s dl H σ q _ _ rd z λv t F H' e r g=>by
 split at g
 ·let(U,U):=r.r.int;exact(_,U,k _ H' e g)
 ·exact g.elim)
def rG{α:Type}(xs:List α)(lo hi:Option Int):List α:=(xs.drop (HT.sIx xs.length 0 lo)).take (HT.sIx xs.length xs.length hi - HT.sIx xs.length 0 lo)
def au.cut{vs:List V}{ts:List T}{F:List J}(lo hi:Option Int)(h:au K dl H vs ts F):∃ G,au K dl H (oh vs lo hi) (rG ts lo hi) G/\G.Sublist F:=by
 unfold oh rG;rw[h.len];let(G,h1,s1):=h.drop (HT.sIx ts.length 0 lo);let(g,h2,s2):=h1.take (HT.sIx ts.length ts.length hi - HT.sIx ts.length 0 lo);exact(g,h2,s2.trans s1)
def lO{w:World}{t sl:J}{V P:B}{lo hi:Option Int}(g:IsTup s.heap t items)(hs:s.heap.IsSliceOf sl V P .none)(pl:IsPart V lo)(pu:IsPart P hi)
  (hw:HT.sIx items.size 0 lo=0/\HT.sIx items.size items.size hi=items.size)
  (h:Q (.ref t) s):wpAny (model prog w) A (getItem (.ref t) (.ref sl)) Q E s:=by
 let(os,q,z,ah):=id hs;have K:s.TypeIs (.ref sl) "slice":=(os,q,z);have hT:=g.typeIs;unfold getItem
 try with_reducible refine O0 ?_
 refine cO (wpAny_sequenceKey g.typeIs (by decide) ?_)
 refine cO (wpAny_callSpecial?_slot g.typeIs PyProof.Rows.slot_tuple_getitem
  (C5 PyProof.Rows.slot_tuple_getitem g.typeIs entry_tuple_getitem ?_ (args_tuple_getitem _ _)))
 show wpAny _ _ (Builtin.Tuple.tupleItemsOf (.ref t) >>= _) _ _ s;refine cO (tupleItemsOf_ g (cO (TU K ?_)));refine cO (HT.jb hs pl pu ?_);have hy:(((HT.sIx items.size 0 lo):Int)==0&&(1:Int)==1&&(HT.sIx items.size items.size hi - HT.sIx items.size 0 lo)==items.size)=true:=by
  rw[hw.1,hw.2];simp
 show wpAny _ _ (if(((HT.sIx items.size 0 lo):Int)==0&&(1)==1&&(HT.sIx items.size items.size hi - HT.sIx items.size 0 lo)==items.size)=O then _ else _) _ _ s
 rw[if_pos hy];exact cO (cO (TU hT (ot (by rw[if_pos (by decide)];exact cO (T9 (ot (_,U,ot h)))))))
inductive Pm(K:W.Frag)(x:V)(lo:Option Int)(hi:Option Int)(H:Hp)(Q:VK):Prop
 | mk(a xs:_)(h1:x = .ref a)(h2:SqT K H a xs)(h3:((HT.sIx xs.length 0 lo=0/\HT.sIx xs.length xs.length hi=xs.length)->Q (.ref a) H))(h4:(¬(HT.sIx xs.length 0 lo=0/\HT.sIx xs.length xs.length hi=xs.length)->∀ p,H p=Y->Q (.ref p) (upd H p (.tup (oh xs lo hi)))))
def Jj:SlR X (Pm X.K):=by
 intro gd s σ H x v P z lo hi sl Q I g hs pl pu h;let(a,xs,U,hx,q1,V):=h;by_cases hw:HT.sIx xs.length 0 lo=0/\HT.sIx xs.length xs.length hi=xs.length
 ·cases g;let(its,r,q,hz):=I.tuple hx;have hlen:its.toArray.size=xs.length:=by exact r.length.symm
  exact("tuple",_,PyProof.Rows.slot_tuple_getitem.lookup,q.typeIs,lO q hs pl pu (by rw[hlen];exact hw) (.ref a,H,I,U,q1 hw))
 ·exact Mt gd s σ H _ v P z lo hi sl Q I g hs pl pu (a,xs,U,hx,hw,V hw)
def EC{α:Type}{xs:List α}{lo hi:Option Int}(h:HT.sIx xs.length 0 lo=0/\HT.sIx xs.length xs.length hi=xs.length):rG xs lo hi=xs:=by
 unfold rG;rw[h.1,h.2];simp
def Pp(K:W.Frag):V->Option Int->Option Int->Hp->VK->Prop:=λx lo hi H Q=>Po K x lo hi H Q\/Pm K x lo hi H Q\/Pn x lo hi H Q
def R0(g:X.K=K):SlR X (Pp K):=by subst g;exact B1.or (Jj.or Mu)
def qSl(qe:QE)(l u:QO):QE:=λq Q=>qe q λt=>l q λlo=>u q λhi=>match t with
 | .l xs=>T.ims xs=O/\Q (.l (rG xs lo hi))
 | .t xs=>T.ims xs=O/\Q (.t (rG xs lo hi))
 | .z ns=>Q (.l ((rG ns lo hi).map T.i))
 | .zl xs=>Q (.l (rG xs lo hi))
 | .s z=>z.length<=j5/\Q (.s (Txt.slice z lo hi))
 | _=>False
def yz{l u:Option Expr}{ah ai:TO}{aj ak:QO}(he:QPE X K e te qe)(hl:QPO X K l ah aj)(hu:QPO X K u ai ak)(hK:X.K=K:=by rfl):QPF X K (.Subscript e (.Slice l u Y p2) pos) (tSl (Pp K) te ah ai) (qSl qe aj ak) :=
 (yI (R0 hK) he.h hl.h hu.h,λdl H σ q Q R rd hq k=>he.s dl H σ q _ _ rd hq λv t F H1 e1 r1 g=>hl.s dl H1 σ q _ _ (rd.evo e1) g λlo H2 e2 g=>hu.s dl H2 σ q _ _ ((rd.evo e1).evo e2) g λhi H3 e3 g=>by
  have r3:=(r1.evo e1.d e2).evo e2.d e3;have P:=(e1.trans e2).trans e3;have no:∀ b,b∈([])->H b=none:=λ_ z=>nomatch z
  cases t with
  | l xs =>
   let(p,vs,G,U,U,h1,h2):=r3.r.lst;obtain rfl:=h2.im g.1;let(G,h3,s3):=h2.cut lo hi;obtain rfl:=Ul.mp s3;refine .inl (p,vs,U,SqL.of h1,λp hp=>?_)
   have rs:Rps K dl H3 (oh vs lo hi) _ []:=(h3,λc hc=>nomatch hc)
   exact k _ _ _ _ (P.new hp) (rs.lst e3.d hp) (λb hb=>by rw[bB.mp hb];exact P.free hp) (by simp) g.2
  | t xs =>
   let(p,vs,U,h1,h2):=r3.r.tup;obtain rfl:=h2.im g.1;let(G,h3,s3):=h2.cut lo hi;obtain rfl:=Ul.mp s3;refine .inr (.inl (p,vs,U,SqT.of h1,λhw=>?_,λ_ p hp=>?_))
   ·refine k _ _ _ _ P r3 no kr ?_;rw[h2.len]at hw;have ax:=g.2;rw[EC hw]at ax;exact ax
   ·have rs:Rps K dl H3 (oh vs lo hi) _ []:=(h3,λc hc=>nomatch hc)
    exact k _ _ _ _ (P.new hp) (rs.tup e3.d hp) no kr g.2
  | z ns =>
   let(p,U,h1,_):=r3.r.scr;refine .inl (p,_,U,h1.sq,λp hp=>?_)
   have e:oh (ns.map V.int) lo hi =(rG ns lo hi).map V.int:=by unfold oh rG;rw[gV,<- List.map_drop,<- List.map_take]
   rw[e];have rs:Rps K dl H3 ((rG ns lo hi).map V.int) ((rG ns lo hi).map T.i) []:=(sS _,λc hc=>nomatch hc)
   exact k _ _ _ _ (P.new hp) (rs.lst e3.d hp) (λb hb=>by rw[bB.mp hb];exact P.free hp) (by simp) g
  | zl xs =>
   let(p,o,vs,U,U,h1,h2):=r3.r.zls;let(G,h3,s3):=h2.cut lo hi;obtain rfl:=Ul.mp s3;refine .inl (p,vs,U,.inl (.inr (o,h1)),λp hp=>?_)
   have rs:Rps K dl H3 (oh vs lo hi) _ []:=(h3,λc hc=>nomatch hc)
   exact k _ _ _ _ (P.new hp) (rs.lst e3.d hp) (λb hb=>by rw[bB.mp hb];exact P.free hp) (by simp) g
  | s z =>
   let(U,U):=r3.r.str;exact .inr (.inr (_,U,g.1,k _ _ [] H3 P (.c (.s _)) no kr g.2))
  | _=>exact g.elim)
abbrev QC:=List T ->(T->Prop)->Prop
def uy(K:W.Frag)(r:List V->Hp->VK->Prop)(rq:QC):Prop:=∀(dl:Dl)(H:Hp)(vs:List V)(ts:List T)(F:List J)(Q:T->Prop)(R:V->Hp->Prop),Dls dl H->Rps K dl H vs ts F->rq ts Q ->
 (∀ v z F' H',Evo dl H H'->Rp K dl H' v z F' ->(∀ b∈F',H b=Y)->F'.Nodup->Q z->R v H')->r vs H R
def qCB(rq:QC)(ql:QA):QE:=λq Q=>ql q λts=>rq ts Q
def FH{rq:QC}(h:uy K r rq)(hl:vd K n tl ql):lQ K (tCB r tl) (qCB rq ql):=λdl H σ q Q R rd hq k=>hl dl H σ q _ _ rd hq λvs ts F H1 P r1 _ g =>
 h dl H1 vs ts F Q R P.d r1 g λv z F' H2 e2 V f2 n2 g=>k v z F' H2 (P.trans e2) V (λb hb=>P.free (f2 b hb)) n2 g
def du{id:String}{rq:QC}(z:dN X (.builtin id) r)(hs:uy K r rq)(hg:Gl X x)(hm:X.mg x=Y)(hv:bootBuiltins x=Z (.builtin id))(ha:QPA X K (e::es) tl ql)(hn:x ≠ "__name__":=by decide)(q:(x ==("__debug__":Str))=false:=by decide)
  (he:iS (e::es) X.env =(ϊ,eval e X.env)::iS es X.env:=by rfl) (g:(backTo pos (iS es X.env)).any (·.1)=false:=by rfl):QPF X K (.Call (.Name x p) (e::es) [] pos) (tCB r tl) (qCB rq ql):=(tE z hg hm hv ha.h hn q he g,FH hs ha.s)
def aW{id:String}{rq:QC}(z:dN X (.type id) r)(hs:uy K r rq)(hg:Gl X x)(hm:X.mg x=Y)(hv:bootBuiltins x=Z (.type id))(ha:QPA X K (e::es) tl ql)(hn:x ≠ "__name__":=by decide)(q:(x ==("__debug__":Str))=false:=by decide)
  (he:iS (e::es) X.env =(ϊ,eval e X.env)::iS es X.env:=by rfl) (g:(backTo pos (iS es X.env)).any (·.1)=false:=by rfl):QPF X K (.Call (.Name x p) (e::es) [] pos) (tCB r tl) (qCB rq ql):=(D3 z hg hm hv ha.h hn q he g,FH hs ha.s)
def Rps.one{vs:List V}{t:T}{F:List J}(h:Rps K dl H vs [t] F):∃ v,vs = [v]/\Rp K dl H v t F:=by
 let(r,n):=h;cases r with
 | cons q g =>
  cases g;rw[ko]at n;rw[ko];exact(_,U,q,n)
def Rps.two{vs:List V}{t u:T}{F:List J}(h:Rps K dl H vs [t,u] F):∃ v w Q P,vs = [v,w]/\Rp K dl H v t Q/\Rp K dl H w u P:=by
 let(r,n):=h;cases r with
 | cons z q =>
  let(w,U,h2):=Rps.one (q,λb g=>n b (j0 _ g))
  exact(_,w,_,_,U,(z,λb g=>n b (oE _ g)),h2)
def F8(K:W.Frag):List V->Hp->VK->Prop:=λxs H Q=>(∃ p ys,xs = [.ref p]/\(SqL K H p ys\/SqT K H p ys)/\Q (.int ys.length) H)\/(∃ z,xs = [.str z]/\z.length<=j5/\Q (.int z.length) H)\/∃ a kvs,xs = [V.ref a]/\H a=Z (.dK kvs)/\Q (.int kvs.length) H
def EK(g:X.K=K):dN X (.builtin "len") (F8 K):=by subst g;exact oo.or (xE.or EJ)
def PJ:QC:=λts Q=>on1 ts λt=>match t with
 | .l xs=>Q (.i xs.length)
 | .t xs=>Q (.i xs.length)
 | .z xs=>Q (.i xs.length)
 | .zl xs=>Q (.i xs.length)
 | .d xs=>Q (.i xs.length)
 | .s x=>x.length<=j5/\Q (.i x.length)
 | _=>False
def Jq:uy K (F8 K) PJ:=by
 intro dl H vs ts F Q R D r g k;have fin:∀ n,Q (.i n)->R (.int n) H:=λn g=>k _ _ [] H (.refl D) (.c (.i _)) (λ_ z=>nomatch z) kr g
 replace g:=on1.inv g
 let(t,U,g):=g;let(v,U,r'):=r.one;cases t with
 | l xs =>
  let(p,vs,G,U,_,h1,h2):=r'.r.lst;exact .inl (p,vs,U,.inl (SqL.of h1),fin _ (by rw[h2.len];exact g))
 | t xs =>
  let(p,vs,U,h1,h2):=r'.r.tup;exact .inl (p,vs,U,.inr (SqT.of h1),fin _ (by rw[h2.len];exact g))
 | z xs =>
  let(p,U,h1,_):=r'.r.scr;exact .inl (p,_,U,.inl h1.sq,fin _ (by rw[gV];exact g))
 | zl xs =>
  let(p,o,vs,U,_,h1,h2):=r'.r.zls;exact .inl (p,vs,U,.inl (.inl (.inr (o,h1))),fin _ (by rw[h2.len];exact g))
 | d xs =>
  let(p,vs,G,U,_,h1,h2):=r'.r.dic;exact .inr (.inr (p,vs,U,h1,fin _ (by rw[h2.len];exact g)))
 | s x =>
  let(U,_):=r'.r.str;exact .inr (.inl (_,U,g.1,fin _ g.2))
 | _=>exact g.elim
def Sd:QC:=λts Q=>on1 ts λt=>match t with
 | .i a=>Q (.i a)
 | .b k=>Q (.i (if k then 1 else 0))
 | _=>False
def mY:uy K (λxs H Q=>(∃ i,xs = [.int i]/\Q (.int i) H)\/∃ k,xs = [.bl k]/\Q (.int (if k then 1 else 0)) H) Sd:=by
 intro dl H vs ts F Q R D r g k
 replace g:=on1.inv g
 let(t,U,g):=g;cases t with
 | i a =>
  let(v,U,r'):=r.one;let(U,_):=r'.r.int;exact .inl (_,U,k _ _ [] H (.refl D) (.c (.i _)) (λ_ z=>nomatch z) kr g)
 | b c =>
  let(v,U,r'):=r.one;let(U,_):=r'.r.bl;exact .inr (_,U,k _ _ [] H (.refl D) (.c (.i _)) (λ_ z=>nomatch z) kr g)
 | _=>exact g.elim
def MK:QC:=λts Q=>on1 ts λt=>match t with
 | .l xs=>T.ims xs=O/\Q (.t xs)
 | .t xs=>T.ims xs=O/\Q (.t xs)
 | _=>False
def cj(g:X.K=K):dN X (.type "tuple") (λxs H Q=>∃ p ys,xs = [.ref p]/\((SqL K H p ys/\∀ l,H l=Y->Q (.ref l) (upd H l (.tup ys)))\/(SqT K H p ys/\Q (.ref p) H))):=by subst g;exact u9
def cf:uy K (λxs H Q=>∃ p ys,xs = [.ref p]/\((SqL K H p ys/\∀ l,H l=Y->Q (.ref l) (upd H l (.tup ys)))\/(SqT K H p ys/\Q (.ref p) H))) MK:=by
 intro dl H vs ts F Q R D r g k;have no:∀ b,b∈([])->H b=none:=λ_ z=>nomatch z
 replace g:=on1.inv g
 let(t,U,g):=g;cases t with
 | l xs =>
  let(v,U,r'):=r.one;let(p,vs,G,U,U,h1,h2):=r'.r.lst;obtain rfl:=h2.im g.1;refine(p,vs,U,.inl (SqL.of h1,λl hl=>?_))
  have rs:Rps K dl H vs _ []:=(h2,λc q=>nomatch q)
  exact k _ _ _ _ ((Evo.refl D).new hl) (rs.tup D hl) no kr g.2
 | t xs =>
  let(v,U,r'):=r.one;let(p,vs,U,h1,h2):=r'.r.tup;obtain rfl:=h2.im g.1;exact(p,vs,U,.inr (SqT.of h1,k _ _ [] H (.refl D) r' no kr g.2))
 | _=>exact g.elim
def ML:QC:=λts Q=>on1 ts λt=>match t with
 | .l xs=>T.ims xs=O/\Q (.l xs)
 | .t xs=>T.ims xs=O/\Q (.l xs)
 | _=>False
def jl(g:X.K=K):dN X (.type "list") (λxs H Q=>∃ p ys,xs = [.ref p]/\(SqL K H p ys\/SqT K H p ys)/\∀ l,H l=Y->Q (.ref l) (upd H l (.lst ys))):=by subst g;exact xD
def jc:uy K (λxs H Q=>∃ p ys,xs = [.ref p]/\(SqL K H p ys\/SqT K H p ys)/\∀ l,H l=Y->Q (.ref l) (upd H l (.lst ys))) ML:=by
 intro dl H vs ts F Q R D r g k
 replace g:=on1.inv g
 let(t,U,g):=g;cases t with
 | l xs =>
  let(v,U,r'):=r.one;let(p,vs,G,U,U,h1,h2):=r'.r.lst;obtain rfl:=h2.im g.1;refine(p,vs,U,.inl (SqL.of h1),λl hl=>?_)
  have rs:Rps K dl H vs _ []:=(h2,λc q=>nomatch q)
  exact k _ _ _ _ ((Evo.refl D).new hl) (rs.lst D hl) (λb z=>by rw[bB.mp z];exact hl) (by simp) g.2
 | t xs =>
  let(v,U,r'):=r.one;let(p,vs,U,h1,h2):=r'.r.tup;obtain rfl:=h2.im g.1;refine(p,vs,U,.inr (SqT.of h1),λl hl=>?_)
  have rs:Rps K dl H vs _ []:=(h2,λc q=>nomatch q)
  exact k _ _ _ _ ((Evo.refl D).new hl) (rs.lst D hl) (λb z=>by rw[bB.mp z];exact hl) (by simp) g.2
 | _=>exact g.elim
def picks{α:Type}(f:T->Option α):List T->Option (List α)
 | []=>Z []
 | t::r=>(f t).bind λa=>(picks f r).map (a :: ·)
theorem au.picks{dl:Dl}{H:Hp}{α:Type}{f:T->Option α}{g:α->V}(hf:∀(v:V)(t:T)(F:List J)(a:α),aJ K dl H v t F->f t=Z a->v=g a){vs:List V}{ts:List T}{F:List J}(h:au K dl H vs ts F):∀{bs:List α},L2.picks f ts=Z bs->vs=bs.map g :=
 h.ind (M:=λvs ts F=>∀{bs:List α},L2.picks f ts=Z bs->vs=bs.map g) (λe=>by cases e;rfl) λv t vs ts F G h _ q bs e=>by
  let(a,Q,P):=UE.mp e;let(as,z,U):=j3.mp P;rw[hf v t F a h Q,q z];rfl
def asB:T->Option Bool
 | .b x=>Z x
 | _=>Y
abbrev bls:List T->Option (List Bool):=picks asB
theorem au.bls{dl:Dl}{H:Hp}{vs:List V}{ts:List T}{F:List J}{bs:List Bool}(h:au K dl H vs ts F)(e:L2.bls ts=Z bs):vs=bs.map V.bl :=
 h.picks (λv t F a h e=>by cases t <;> first |(cases e;exact h.bl.1)|cases e) e
def Sf:QC:=λts Q=>on1 ts λt=>match t with
 | .l xs=>Ex3 (λbs=>bls xs=Z bs) (λbs=>(.b (bs.all id))) Q
 | _=>False
def pW(q:X.K=K)(g:X.calm=O):dN X (.builtin "all") (λxs H Q=>∃(l:J)(bs:List Bool),xs = [.ref l]/\SqL K H l (bs.map V.bl)/\Q (.bl (bs.all id)) H):=by subst q;exact Im g
def wa:uy K (λxs H Q=>∃(l:J)(bs:List Bool),xs = [.ref l]/\SqL K H l (bs.map V.bl)/\Q (.bl (bs.all id)) H) Sf:=by
 intro dl H vs ts F Q R D r g k
 replace g:=on1.inv g
 let(t,U,g):=g
 split at g
 ·let(v,U,r'):=r.one;let(p,vs,G,U,U,h1,h2):=r'.r.lst;let(bs,q,g):=g;have e:=h2.bls q;subst e;exact(p,bs,U,SqL.of h1,k _ _ [] H (.refl D) (.c (.b _)) (λ_ z=>nomatch z) kr g)
 ·exact g.elim
def T.tyN:T->Option String
 | .n=>Z "NoneType" | .b _=>Z "bool" | .i _=>Z "int" | .s _=>Z "str" | .l _=>Z "list" | .q=>Z "list" | .t _=>Z "tuple" | .d _=>Z "dict" | _=>Y
def aJ.RU{v:V}{t:T}{F:List J}{n:String}(h:aJ K dl H v t F)(e:t.tyN=Z n):lP K H v (.type n):=by
 cases h <;> first |(cases e;constructor;assumption) |(cases e;constructor) |(cases e)
theorem fE(g:X.K=K):dN X (.builtin "isinstance") (λxs H Q=>∃ x T t b,xs = [x,.ty T]/\lP K H x t/\W.kitOne K t (.type T)=Z b/\Q (.bl b) H):=by subst g;exact Il
def QK(a b:String):Bool:=a==b ||(a == "bool" && b == "int")
def PL:QC:=λts Q=>match ts with
 | [t,.ty n]=>match t.tyN with
  | some m=>(n == "tuple" || n == "list" || n == "str" || n == "int" || n == "bool" || n == "dict")=O/\Q (.b (QK m n))
  | none=>False
 | _=>False
theorem KL{n m:String}(h:(n == "tuple" || n == "list" || n == "str" || n == "int" || n == "bool" || n == "dict")=O)(hm:m ∈ ["NoneType","bool","int","str","list","tuple","dict"]):W.kitOne K (.type m) (.type n)=Z (QK m n):=by
 simp only[Bool.or_eq_true,beq_iff_eq]at h;simp only[i8,BL,or_false]at hm;rcases h with((((rfl|rfl)|rfl)|rfl)|rfl)|rfl <;> rcases hm with rfl|rfl|rfl|rfl|rfl|rfl|rfl <;> rfl
def Jf{t:T}{m:String}(h:t.tyN=Z m):m ∈ ["NoneType","bool","int","str","list","tuple","dict"]:=by
 cases t <;> cases h <;> decide
theorem iE:uy K (λxs H Q=>∃ x T t b,xs = [x,.ty T]/\lP K H x t/\W.kitOne K t (.type T)=Z b/\Q (.bl b) H) PL:=by
 intro dl H vs ts F Q R D r g k;unfold PL at g
 split at g
 ·let(v,w,F1,V,U,P,q):=r.two;have e:=q.r.tyy;subst e
  split at g
  ·rename_i m em;exact(v,_,_,_,U,P.r.RU em,KL g.1 (Jf em),k _ _ [] H (.refl D) (.c (.b _)) (λ_ z=>nomatch z) kr g.2)
  ·exact g.elim
 ·exact g.elim
end
structure fX where
 nx:Sq->Prop
 rt:T->Prop
 bk:Sq->Prop:=λ_=>False
 ct:Sq->Prop:=λ_=>False
 ru:Sq->T->Prop:=λ_ _=>False
abbrev QS:=fX->Sq->Prop
def fX.lp(D:fX)(N:Sq->Prop):fX:={ D with nx:=N,ct:=N,bk:=D.nx }
def fX.fn(Q:T->Prop):fX:={ nx:=λ_=>Q .n,rt:=Q }
structure Frm(dl:Dl)(H₀ H:Hp):Prop where
 k:∀ b o,H₀ b=Z o->Nd dl b->NR o->H b=Z o
 r:∀ a x,H₀ a=Z (.room x)->∃ y,y<=x/\H a=Z (.room y)
variable{H₀:Hp}
def Frm.evo(f:Frm dl H₀ H)(D:Dls dl H):Evo dl H₀ H:=(f.k,D,f.r)
def Frm.refl:Frm dl H H:=(λ_ _ h _ _=>h,λ_ x h=>(x,Tf _,h))
variable{H':Hp}
def Frm.trans(f:Frm dl H₀ H)(e:Evo dl H H'):Frm dl H₀ H':=(λb o h n r=>e.k b o (f.k b o h n r) n r,λa x h=>let(y,q,h1):=f.r a x h;let(z,g,h2):=e.r a y h1;(z,Tz g q,h2))
structure Rel(K:W.Frag)(dl:Dl)(H₀:Hp)(hs:List (V×T))(H:Hp)(σ:St)(q:Sq)(F:Nat->List J):Prop where
 d:Dls dl H
 g:∀(i:Nat)(x:Sl)(t:T),q[i]? = Z x->x.get=Z t->∃ v,σ[i]? = Z (Z v)/\Rp K dl H v t (F i)
 n:∀(i:Nat)(x:Sl),q[i]? = Z x->x.get=Y->F i = []
 z:∀(i:Nat),q.length<=i->F i = []
 o:∀(i:Nat)(t:T),q[i]? = Z (.o t) ->(F i).Nodup/\(∀ b∈F i,H₀ b=Y)/\(∀ j,j≠i->∀ b∈F i,b ∉ F j)
 h:∀ p∈hs,∃ Fp,Rp K dl H p.1 p.2 Fp/\∀(i:Nat)(t:T),q[i]? = Z (.o t)->∀ b∈F i,b ∉ Fp
 f:Frm dl H₀ H
 l:q.length=σ.length
def c7(K:W.Frag)(dl:Dl)(H₀:Hp)(hs:List (V×T))(H:Hp)(σ:St)(q:Sq):Prop:=∃ F,Rel K dl H₀ hs H σ q F
variable{F':List J}
section
variable{K:W.Frag}{hs:List (V×T)}{σ:St}{q:Sq}{F:Nat->List J}
def Rel.rd(r:Rel K dl H₀ hs H σ q F):RdR K dl H σ q:=(r.d,λi x t h1 h2=>let(v,e,p):=r.g i x t h1 h2;(v,F i,e,p))
def Rel.fz(r:Rel K dl H₀ hs H σ q F){b:J}(h:H b=Y):H₀ b=none:=(r.f.evo r.d).free h
def Rel.bI(r:Rel K dl H₀ hs H σ q F){b:J}(P:b∈F i):fF H b:=by
 by_cases hi:i<q.length
 ·have e:q[i]? = Z q[i]:=by simp[hi]
  cases ex:q[i].get with
  | none=>rw[r.n i _ e ex]at P;cases P
  | some t =>
   let(v,_,p):=r.g i _ t e ex;exact p.r.there b P
 ·rw[r.z i (by lia)]at P;cases P
theorem Rel.evo(r:Rel K dl H₀ hs H σ q F)(e:Evo dl H H'):Rel K dl H₀ hs H' σ q F where
 d:=e.d
 g:=λi x t h1 h2=>let(v,P,p):=r.g i x t h1 h2;(v,P,p.evo r.d e)
 n:=r.n
 z:=r.z
 o:=r.o
 h:=λp hp=>let(Fp,h1,h2):=r.h p hp;(Fp,h1.evo r.d e,h2)
 f:=r.f.trans e
 l:=r.l
def DG(F:Nat->List J)(i:Nat)(x:List J):Nat->List Addr:=λj=>if j=i then x else F j
def bW{x:List J}:DG F i x i=x:=if_pos U
def bf{x:List J}(h:j≠i):DG F i x j=F j:=if_neg h
def get_set{α:Type}{xs:List α}{x y:α}(h:(xs.set i x)[j]? = Z y):(j=i/\y=x/\i<xs.length)\/(j≠i/\xs[j]? = Z y):=by
 by_cases e:j=i
 ·subst e;rw[List.getElem?_set_self']at h;by_cases hl:j<xs.length
  ·rw[xT hl]at h;exact .inl (U,(Option.some.inj h).symm,hl)
  ·rw[So (by lia)]at h;cases h
 ·rw[rS (λz=>e z.symm)]at h
  exact .inr (e,h)
def Rel.put{v:V}{t:T}(r:Rel K dl H₀ hs H σ q F)(hi:i<q.length)(e:Evo dl H H')(hv:Rp K dl H' v t F')(hf:∀ b∈F',H b=Y)(hn:F'.Nodup):Rel K dl H₀ hs H' (σ.set i (Z v)) (q.set i (.o t)) (DG F i F'):=by
 have r':=r.evo e;have out:∀ j,∀ b∈F',b ∉ F j:=λj b P Q=>(r.bI Q).no (hf b P)
 refine(e.d,λj x u h1 h2=>?_,λj x h1 h2=>?_,λj Q=>?_,λj u h1=>?_,λp hp=>?_,r'.f,by simp[r.l])
 ·rcases get_set h1 with⟨rfl,rfl,_⟩ |⟨ne,h1⟩
  ·cases h2;exact(v,by rw[rW (by rw[<- r.l];exact hi)],by rw[bW];exact hv)
  ·let(w,h3,h4):=r'.g j x u h1 h2;exact(w,by rw[rS (λz=>ne z.symm)];exact h3,by rw[bf ne];exact h4)
 ·rcases get_set h1 with⟨rfl,rfl,_⟩ |⟨ne,h1⟩
  ·cases h2
  ·rw[bf ne];exact r.n j x h1 h2
 ·rw[BH]at Q;rw[bf (by lia)]
  exact r.z j Q
 ·rcases get_set h1 with⟨rfl,_,_⟩ |⟨ne,h1⟩
  ·rw[bW];exact(hn,λb P=>r.fz (hf b P),λk hk b P=>by rw[bf hk];exact out k b P)
  ·rw[bf ne];let(o1,o2,o3):=r.o j u h1;refine(o1,o2,λk hk b P=>?_)
   by_cases ek:k=i
   ·subst ek;rw[bW];exact λz=>out j b z P
   ·rw[bf ek];exact o3 k hk b P
 ·let(Fp,h1,h2):=r.h p hp;refine(Fp,h1.evo r.d e,λj u Q b P z=>?_)
  rcases get_set Q with⟨rfl,_,_⟩ |⟨ne,Q⟩
  ·rw[bW]at P;exact fF.no (h1.r.there b z) (hf b P)
  ·rw[bf ne]at P;exact h2 j u Q b P z
def Rel.P0{v:V}{t:T}(r:Rel K dl H₀ hs H σ q F)(hi:i<q.length)(hv:Rp K dl H v t F')(hf:∀(j:Nat)(u:T),q[j]? = Z (.o u)->j≠i->∀ b∈F j,b ∉ F'):Rel K dl H₀ hs H (σ.set i (Z v)) (q.set i (.r t)) (DG F i F'):=by
 refine(r.d,λj x u h1 h2=>?_,λj x h1 h2=>?_,λj P=>?_,λj u h1=>?_,λp hp=>?_,r.f,by simp[r.l])
 ·rcases get_set h1 with⟨rfl,rfl,_⟩ |⟨ne,h1⟩
  ·cases h2;exact(v,by rw[rW (by rw[<- r.l];exact hi)],by rw[bW];exact hv)
  ·let(w,h3,h4):=r.g j x u h1 h2;exact(w,by rw[rS (λz=>ne z.symm)];exact h3,by rw[bf ne];exact h4)
 ·rcases get_set h1 with⟨rfl,rfl,_⟩ |⟨ne,h1⟩
  ·cases h2
  ·rw[bf ne];exact r.n j x h1 h2
 ·rw[BH]at P;rw[bf (by omega)]
  exact r.z j P
 ·rcases get_set h1 with⟨rfl,e,_⟩ |⟨ne,h1⟩
  ·cases e
  ·rw[bf ne];let(o1,o2,o3):=r.o j u h1;refine(o1,o2,λk hk b Q=>?_)
   have z:=hf j u h1 ne b Q;by_cases ek:k=i
   ·subst ek;rw[bW];exact z
   ·rw[bf ek];exact o3 k hk b Q
 ·let(Fp,h1,h2):=r.h p hp;refine(Fp,h1,λj u P b Q z=>?_)
  rcases get_set P with⟨rfl,e,_⟩ |⟨ne,P⟩
  ·cases e
  ·rw[bf ne]at Q;exact h2 j u P b Q z
def Rel.hold{v:V}{t:T}(r:Rel K dl H₀ hs H σ q F)(hv:Rp K dl H v t F')(hf:∀(j:Nat)(u:T),q[j]? = Z (.o u)->∀ b∈F j,b ∉ F'):Rel K dl H₀ ((v,t)::hs) H σ q F :=
 (r.d,r.g,r.n,r.z,r.o,λp hp=>by
  rcases i8.mp hp with e|hp
  ·subst e;exact(F',hv,hf)
  ·exact r.h p hp,r.f,r.l)
def Rel.down{t:T}(r:Rel K dl H₀ hs H σ q F)(hi:q[i]? = Z (.o t)):Rel K dl H₀ hs H σ (q.set i (.r t)) F:=by
 refine(r.d,λj x u h1 h2=>?_,λj x h1 h2=>?_,λj P=>r.z j (by rw[BH]at P;exact P),λj u h1=>?_,λp hp=>?_,r.f,by simp[r.l])
 ·rcases get_set h1 with⟨rfl,rfl,_⟩ |⟨ne,h1⟩
  ·cases h2;exact r.g j _ t hi U
  ·exact r.g j x u h1 h2
 ·rcases get_set h1 with⟨rfl,rfl,_⟩ |⟨ne,h1⟩
  ·cases h2
  ·exact r.n j x h1 h2
 ·rcases get_set h1 with⟨rfl,e,_⟩ |⟨ne,h1⟩
  ·cases e
  ·exact r.o j u h1
 ·let(Fp,h1,h2):=r.h p hp;refine(Fp,h1,λj u P=>?_)
  rcases get_set P with⟨rfl,e,_⟩ |⟨ne,P⟩
  ·cases e
  ·exact h2 j u P
def Rel.write{v:V}{t t':T}{p:J}{o:HO}(r:Rel K dl H₀ hs H σ q F)(hi:q[i]? = Z (.o t))(hv:σ[i]? = Z (Z v))(hp:p∈F i)(ho:∀ xs,H p=Z (.lst xs)->∃ ys,o = .lst ys)(hr:Rp K dl (upd H p o) v t' F')(hn:F'.Nodup)
  (hf:∀ b∈F',b∈F i\/(H₀ b=Y/\(∀ j,b ∉ F j)/\∀ w u Fp,Rp K dl H w u Fp ->(w,u)∈hs->b ∉ Fp)):Rel K dl H₀ hs (upd H p o) σ (q.set i (.o t')) (DG F i F'):=by
 let(o1,o2,o3):=r.o i t hi;have ai:=(j2.mp hi).1;let(v',ah,rp):=r.g i _ t hi U;have pn:=rp.n p hp;have Q:=r.bI hp;have tf:TF H (upd H p o):=(λa vs h=>(by
  rw[ao];exact h;intro z;subst z;let(_,e,m):=Q;rw[h]at e;cases e;cases m),λa ob u h=>(by
  rw[ao];exact h;intro z;subst z;let(_,e,m):=Q;rw[h]at e;cases e;cases m),λa φ h=>(by
  rw[ao];exact h;intro z;subst z;let(_,e,m):=Q;rw[h]at e;cases e;cases m),λa xs h=>(by
  by_cases z:a=p
  ·subst z;let(ys,e):=ho xs h;exact(ys,by rw[aB,e])
  ·exact(xs,by rw[ao z];exact h)),λa x h=>(x,Tf _,by
  rw[ao];exact h;intro z;subst z;let(_,e,m):=Q;rw[h]at e;cases e;cases m))
 have st:∀{w:V}{u:T}{Fw:List J},Rp K dl H w u Fw->p ∉ Fw->Rp K dl (upd H p o) w u Fw:=λ{w u Fw} h np =>
  (h.r.c6 tf (λ_ z=>z) λb P ob e=>(by
   have ne:b≠p:=by
    intro z;subst z;exact np P
   rw[ao ne];exact e),h.n)
 refine(λd hd=>(r.d d hd).other (pn d hd).1 (pn d hd).2,λj x u h1 h2=>?_,λj x h1 h2=>?_,λj hj=>?_,λj u h1=>?_,λw hw=>?_,(λb ob P nb nr=>?_,λb x P=>?_),by simp[r.l])
 ·rcases get_set h1 with⟨rfl,rfl,_⟩ |⟨ne,h1⟩
  ·cases h2;exact(v,hv,by rw[bW];exact hr)
  ·let(w,h3,h4):=r.g j x u h1 h2;exact(w,h3,by rw[bf ne];exact st h4 (o3 j ne p hp))
 ·rcases get_set h1 with⟨rfl,rfl,_⟩ |⟨ne,h1⟩
  ·cases h2
  ·rw[bf ne];exact r.n j x h1 h2
 ·rw[BH]at hj;rw[bf (by omega)]
  exact r.z j hj
 ·rcases get_set h1 with⟨rfl,e,_⟩ |⟨ne,h1⟩
  ·rw[bW];refine(hn,λb P=>?_,λk hk b P=>?_)
   ·rcases hf b P with z|z
    ·exact o2 b z
    ·exact z.1
   ·rw[bf hk];rcases hf b P with z|z
    ·exact o3 k hk b z
    ·exact z.2.1 k
  ·rw[bf ne];let(p1,p2,p3):=r.o j u h1;refine(p1,p2,λk hk b P=>?_)
   by_cases ek:k=i
   ·subst ek;rw[bW];intro z;rcases hf b z with z|z
    ·exact o3 j ne b z P
    ·exact z.2.1 j P
   ·rw[bf ek];exact p3 k hk b P
 ·let(Fp,h1,h2):=r.h w hw;refine(Fp,st h1 (h2 i t hi p hp),λj u hj b P z=>?_)
  rcases get_set hj with⟨rfl,e,_⟩ |⟨ne,hj⟩
  ·rw[bW]at P;rcases hf b P with y|y
   ·exact h2 j t hi b y z
   ·exact y.2.2 w.1 w.2 Fp h1 hw z
  ·rw[bf ne]at P;exact h2 j u hj b P z
 ·rw[ao]
  ·exact r.f.k b ob P nb nr
  ·intro z;subst z;rw[o2 b hp]at P;cases P
 ·let(y,hy,e):=r.f.r b x P;refine(y,hy,?_);rw[ao]
  ·exact e
  ·intro z;subst z;rw[o2 b hp]at P;cases P
end
structure IG(K:W.Frag)(dl:Dl)(H₀:Hp)(hs:List (V×T))(Dq:fX)(D:Ends):Prop where
 nx:∀ H σ q,c7 K dl H₀ hs H σ q->Dq.nx q->D.nx σ H
 bk:∀ H σ q,c7 K dl H₀ hs H σ q->Dq.bk q->D.bk σ H
 ct:∀ H σ q,c7 K dl H₀ hs H σ q->Dq.ct q->D.ct σ H
 rt:∀ v t F H,Dls dl H->Rp K dl H v t F ->(∀ b∈F,H₀ b=Y)->F.Nodup->Frm dl H₀ H->Dq.rt t->D.rt v H
 ru:∀ H σ q F0 v t F,Rel K dl H₀ hs H σ q F0->Rp K dl H v t F ->(∀ b∈F,H₀ b=Y)->F.Nodup ->(∀ j,∀ b∈F,b ∉ F0 j)->Dq.ru q t->D.rt v H
def zZ(K:W.Frag)(ts:TS)(qs:QS):Prop:=∀(dl:Dl)(H₀:Hp)(hs:List (V×T))(H:Hp)(σ:St)(q:Sq)(Dq:fX)(D:Ends),c7 K dl H₀ hs H σ q->qs Dq q->IG K dl H₀ hs Dq D->ts D σ H
structure QPS(X:Cx)(K:W.Frag)(st:Stmt)(ts:TS)(qs:QS):Prop where
 h:PS X st ts
 s:zZ K ts qs
structure rP(X:Cx)(K:W.Frag)(st:List Stmt)(ts:TS)(qs:QS):Prop where
 h:PSs X st ts
 s:zZ K ts qs
variable{q:Sq}{pos':Pos}
section
variable{X:Cx}{K:W.Frag}{st:Stmt}{rest sa sb:List Stmt}{t u:TS}{qt qu:QS}{e c:Expr}{te:TE}{qe:QE}{tc:TT}{qc:QT}{pos:Pos}
def LD:QS:=λD q=>D.nx q
def fX.seq(D:fX)(u:QS):fX:={ D with nx:=u D }
def R7(t u:QS):QS:=λD q=>t (D.seq u) q
def bh:rP X K [] Lv LD:=(Cc,λ_ _ _ H σ q _ _ r g E=>E.nx H σ q r g)
def av(h1:QPS X K st t qt)(h2:rP X K rest u qu):rP X K (st::rest) (Mi t u) (R7 qt qu):=(cV h1.h h2.h,λdl H₀ hs H σ q Dq D r z E =>
 h1.s dl H₀ hs H σ q _ _ r z (λH σ q r' g=>h2.s dl H₀ hs H σ q _ _ r' g E,E.bk,E.ct,E.rt,E.ru))
def az(h1:QPS X K st t qt):rP X K [st] t qt:=(iI h1.h,h1.s)
def bp(he:QPF X K e te qe):QPS X K (.Return (Z e) pos) (Ff te) (λD q=>qe q D.rt):=(mq he.h,λdl H₀ hs H σ q Dq D (F,r) V E =>
 he.s dl H σ q _ _ r.rd V λv t F' H' g z f1 P Q=>E.rt v t F' H' g.d z (λb hb=>r.fz (f1 b hb)) P (r.evo g).f Q)
def sf(he:PE X e (bP i)):QPS X K (.Return (Z e) pos) (Ff (bP i)) (λD q=>match q[i]? with|some (.o t)=>D.rt t | _=>False):=(mq he,λdl H₀ hs H σ q Dq D (F,r) z E=>by
 split at z
 ·rename_i t P;let(v,hv,Q):=r.g i _ t P U;let(o1,o2,V):=r.o i t P;exact(v,hv,E.rt v t (F i) H r.d Q o2 o1 r.f z)
 ·exact z.elim)
def Se(c:QT)(t u:QS):QS:=λD q=>c q λb=>if b=O then t D q else u D q
def fC(z:QPT X K c tc qc)(ha:rP X K sa t qt)(P:rP X K sb u qu):QPS X K (.If c sa sb pos) (Jg tc t u) (Se qc qt qu):=(Cd z.h ha.h P.h,λdl H₀ hs H σ q Dq D (F,r) V E =>
 z.s dl H σ q _ _ r.rd V λb H' Q g=>by
  cases b with
  | true=>exact ha.s dl H₀ hs H' σ q Dq D (F,r.evo Q) g E
  | false=>exact P.s dl H₀ hs H' σ q Dq D (F,r.evo Q) g E)
def JJ(i:Nat)(qe:QE):QS:=λD q=>qe q λt=>D.nx (q.set i (.o t))
def Rel.d9{hs:List (V×T)}{σ:St}{F:Nat->List J}{v:V}{t:T}(r:Rel K dl H₀ hs H σ q F)(e:Evo dl H H')(hv:Rp K dl H' v t F')(hf:∀ b∈F',H b=Y)(hn:F'.Nodup):c7 K dl H₀ hs H' (σ.set i (Z v)) (q.set i (.o t)):=by
 by_cases hi:i<q.length
 ·exact(_,r.put hi e hv hf hn)
 ·have hl:=r.l;rw[UA (by lia),UA (by lia)]
  exact(F,r.evo e)
def B2(he:lQ K te qe):zZ K (mW te (gP i)) (JJ i qe):=λdl H₀ hs H σ q Dq D (F,r) Q E=>he dl H σ q _ _ r.rd Q λv t F' H' V g f1 z P=>E.nx H' _ _ (r.d9 V g f1 z) P
def ME(g:X.N.Nodup)(hi:X.N[i]? = Z x)(hx:Loc X.env.scope x)(he:QPF X K e te qe)(hs:swapsWith e (Z (.Name x pos')) pos.line X.env=pure false:=by rfl)(hf:X.fn x=O\/X.env.scope.names.lookup x=Z .local:=by first|exact .inl rfl|exact .inr rfl|assumption) :
  QPS X K (.Assign [.Name x pos'] e pos) (mW te (gP i)) (JJ i qe):=(i5 g hi hx he.h hs hf,B2 he.s)
inductive RF(tb:QS)(D:fX)(W:Nat->Sq->Prop)(m:Nat)(q:Sq):Prop
 | mk(N:Sq->Prop)(less:∀ q',N q'->∃ m',m'<m/\W m' q')(body:tb (D.lp N) q)
inductive WhileI(c:QT)(tb:QS)(D:fX)(q:Sq):Prop
 | mk (W:Nat->Sq->Prop) (h0:∃ m,W m q) (turn:∀ m q,W m q->c q λb=>if b=O then RF tb D W m q else D.nx q)
def Gr(c:QT)(tb:QS):QS:=λD q=>WhileI c tb D q
def sU(hp:UH (model X.prog X.w) X.A X.env X.xe)(P:QPT X K c tc qc)(Q:rP X K rest t qt):QPS X K (.While c rest [] pos) (vZ tc t) (Gr qc qt):=(sZ hp P.h Q.h,λdl H₀ hs H σ q Dq D r hq E=>by
 let(W,(m0,w0),turn):=hq;refine(λm σ H=>∃ q,c7 K dl H₀ hs H σ q/\W m q,(m0,q,r,w0),?_)
 rintro m σ H ⟨q,⟨F,r⟩,w⟩
 refine P.s dl H σ q _ _ r.rd (turn m q w) λb H1 V z=>?_
 cases b with
 | false=>exact E.nx H1 σ q (F,r.evo V) z
 | true =>
  let(N,hN,z):=z;refine(λg H'=>∃ q',c7 K dl H₀ hs H' g q'/\N q',λg H' (q',r',n')=>?_,?_)
  ·let(m',hm,w'):=hN q' n';exact(m',hm,q',r',w')
  ·exact Q.s dl H₀ hs H1 σ q _ _ (F,r.evo V) z (λH σ q r n=>(q,r,n),λH σ q r n=>E.nx H σ q r n,λH σ q r n=>(q,r,n),E.rt,E.ru))
end
abbrev PSp:=List T ->(T->Prop)->Prop
inductive spQ(K:W.Frag)(ps:PSp)(vs:List V)(H:Hp)(Q:VK)(_:XK):Prop
 | mk(dl:Dl)(ts:List T)(F:List J)(Qp:T->Prop)(h1:Dls dl H)(h2:Rps K dl H vs ts F)(h3:ps ts Qp)(h4:∀ v t F' H',Evo dl H H'->Rp K dl H' v t F' ->(∀ b∈F',H b=Y)->F'.Nodup->Qp t->Q v H')
section
variable{X:Cx}{K:W.Frag}{e:Expr}{es:List Expr}{tl:TA}{ql:QA}{pos p:Pos}{k:Nat}{f:J}{fd:FuncData}{prs:List Str}{ps:PSp}
def Gz(ps:PSp)(ql:QA):QE:=λq Q=>ql q λts=>ps ts Q
def FI(ha:vd K n tl ql):lQ K (yg (spQ K ps) [] E0 tl) (Gz ps ql):=λdl H σ q Q R rd V k=>ha dl H σ q _ _ rd V λvs ts F H1 z P _ g=>by
 rw[ko];exact(dl,ts,F,Q,z.d,P,g,λv t F' H' e r f n g=>k v t F' H' (z.trans e) r (λb hb=>z.free (f b hb)) n g)
theorem JI(F:aR X.prog X.w X.K X.mg X.base CX0 k f fd prs (spQ K ps))(hr:bM k X.A)(hg:Gl X x)(hm:X.mg x=Z (.ref f))(z:W.keepIn X.K (.ref f)=O)(P:Binds X.K fd prs [])(ha:QPA X K (e::es) tl ql)
  (q:(x ==("__debug__":Str))=false:=by decide) (he:iS (e::es) X.env =(ϊ,eval e X.env)::iS es X.env:=by rfl) (g:(backTo pos (iS es X.env)).any (·.1)=false:=by rfl) :
  QPF X K (.Call (.Name x p) (e::es) [] pos) (yg (spQ K ps) [] E0 tl) (Gz ps ql):=(wI F hr hg hm z P .nil qE ha.h q he g,FI ha.s)
end
theorem ph{K:W.Frag}{vs:List V}{ts:List T}{F:List J}(D:Dls dl H)(r:Rps K dl H vs ts F)(hn:vs.length<=n):c7 K dl H [] H (vs.map Z++uA (n - vs.length) Y) (ts.map Sl.r++uA (n - vs.length) .no):=by
 have hl:=r.r.len;have main:∀{vs:List V}{ts:List T}{F:List J},au K dl H vs ts F ->(∀ b∈F,Nd dl b)->∃ g:Nat->List J,(∀ i t,ts[i]? = Z t->∃ v,vs[i]? = Z v/\Rp K dl H v t (g i))/\∀ i,ts.length<=i->g i = []:=by
  intro vs ts F h
  induction ts generalizing vs F with
  | nil=>intro _;exact(λ_=>[],λi t e=>by simp at e,λ_ _=>rfl)
  | cons t ts ih =>
   cases h with
   | @cons v0 _ ah _ F1 G1 h1 h2 =>
    intro hn;let(g,g1,g2):=ih h2 λb P=>hn b (j0 _ P)
    refine(λi=>match i with | 0=>F1|i+1=>g i,λi u e=>?_,λi hi=>?_)
    ·cases i with
     | zero =>
      simp at e;subst e;exact(_,by simp,h1,λb P=>hn b (oE _ P))
     | succ i =>
      let(v,q,Q):=g1 i u (by simpa using e)
      exact(v,by simpa using q,Q)
    ·cases i with
     | zero=>simp at hi
     | succ i=>exact g2 i (by simpa using hi)
 let(g,g1,g2):=main r.r r.n;have lk:∀ i y,(ts.map Sl.r++uA (n - vs.length) Sl.no)[i]? = Z y ->(∃ t,ts[i]? = Z t/\y = .r t)\/(ts.length<=i/\y = .no):=λi y h=>by
  by_cases hi:i<ts.length
  ·rw[z9 (by simpa using hi),qx,xT hi]at h
   exact .inl (ts[i],by simp,(Option.some.inj h).symm)
  ·rw[BK (by simpa using hi),Tv]at h
   split at h
   ·exact .inr (by lia,(Option.some.inj h).symm)
   ·cases h
 refine(g,D,λi y t h1 h2=>?_,λi y h1 h2=>?_,λi hi=>?_,λi t h1=>?_,λp hp=>(by cases hp),.refl,by simp[hl])
 ·rcases lk i y h1 with⟨u,e,rfl⟩ |⟨_,rfl⟩
  ·cases h2;let(v,q,Q):=g1 i t e;refine(v,?_,Q);have hi:=(j2.mp q).1;rw[z9 (by simpa using hi),qx,q]
   rfl
  ·cases h2
 ·rcases lk i y h1 with⟨u,e,rfl⟩ |⟨hi,rfl⟩
  ·cases h2
  ·exact g2 i hi
 ·refine g2 i ?_;simp at hi
  lia
 ·rcases lk i _ h1 with⟨u,e,z⟩ |⟨_,z⟩ <;> cases z
variable{P:Program}{mg:Str->Option B}{base:Heap}{qual:Str}{st:Stmt}{fd:FuncData}{N:List Str}{ps:List Str}
theorem Fun.okQ{w:World}{K:W.Frag}{f:J}{k:Nat}{g:PSp}(F:Fun K x qual st f fd)(S:aE N ps (aq st))(len:∀ ts Q,g ts Q->ts.length=ps.length)
  (iz:∀(cdv:B)(A:Around)(outer:List Env)(s:ϋ)(H:Hp)(E:XK),bM k (A.deeper (envOfC qual (aq st) s.heap.objs.size f cdv)) ->
   ∃ t qs,rP (mK CX0 P w K mg base N qual (aq st) f cdv A outer s H E).nox K (cc st) t qs/\∀ ts Q,g ts Q->qs (.fn Q) (ts.map Sl.r++uA (N.length - ts.length) .no)):aR P w K mg base CX0 (k+1) f fd ps (spQ K g):=by
 have ah:=by have:=congrArg Ua S.pre;rw[BJ]at this;omega
 refine F.ok S (λvs H Q E h=>?_) (λcdv A outer s H vs Q E hr h=>?_)
 ·let(dl,ts,F,Qp,_,r,h,_):=h;rw[r.r.len];exact len ts Qp h
 ·let(dl,ts,Fp,Qp,D,r,h,fin):=h;let(t,qs,hb,hq):=iz cdv A outer s H E hr;refine(t,hb.h,?_);have hlen:=len ts Qp h;have hl:=r.r.len;have z:=hq ts Qp h;have R:=ph (n:=N.length) D r (by lia)
  rw[<- hl]at z;refine hb.s dl H [] H _ _ _ _ R z (λH' σ q (F,r') V=>?_,λ_ _ _ _ V=>V.elim,λ_ _ _ _ V=>V.elim,λv t F H' D' r' f' n' fr V=>?_,λ_ _ _ _ _ _ _ _ _ _ _ _ z=>z.elim)
  ·exact fin .non .n [] H' (r'.f.evo r'.d) (.n,λ_ z=>nomatch z) (λ_ z=>nomatch z) kr V
  ·exact fin v t F H' (fr.evo D') r' f' n' V
structure ve(K:W.Frag)(dl:Dl)(Vn:It)(xs:List T)(hv:List (V×T)):Prop where
 go:∀(H:Hp)(i:Nat),Dls dl H ->(∀ p∈hv,∃ F,Rp K dl H p.1 p.2 F)->i<xs.length->Vn.go i H
 yld:∀(H:Hp)(i:Nat)(x:T)(fp:V×T->List J)(v:V)(H':Hp),Dls dl H ->(∀ p∈hv,Rp K dl H p.1 p.2 (fp p))->xs[i]? = Z x->Vn.yld i H v H'->Evo dl H H'/\∃ F,Rp K dl H' v x F/\∀ b∈F,H b=Y\/∃ p∈hv,b∈fp p
 stop:∀(H:Hp),Dls dl H ->(∀ p∈hv,∃ F,Rp K dl H p.1 p.2 F)->Vn.stop xs.length H
variable{lo:Int}{q':Sq}
section
variable{X:Cx}{K:W.Frag}
def KO{xs:List T}:ve K dl (Itl K a) xs [(.ref a,.l xs)] where
 go:=λH i D h hi=>by
  let(F,r):=h _ (bB.mpr U);let(p,vs,G,e,_,h1,h2):=r.r.lst;cases e;exact(vs,vs[i]'(by rw[h2.len];exact hi),SqL.of h1,by simp[hi])
 yld:=λH i x fp v H' D h hx y=>by
  have r:=h _ (bB.mpr U);let(p,vs,G,e,Q,h1,h2):=r.r.lst;cases e;let(U,y):=y;let(w,P,hw,q,hs):=h2.get hx;have z:=y vs (SqL.of h1);rw[hw]at z;cases z;have sub:∀ b∈P,b∈fp (V.ref a,T.l xs):=λb g=>by
   rw[Q];exact c5 _ (hs b g)
  exact(.refl D,P,(q,λb g=>r.n b (sub b g)),λb g=>.inr (_,bB.mpr U,sub b g))
 stop:=λH D h=>by
  let(F,r):=h _ (bB.mpr U);let(p,vs,G,e,_,h1,h2):=r.r.lst;cases e;exact(vs,SqL.of h1,by rw[h2.len];exact lx _)
def QF{xs:List T}:ve K dl (Itl K a) xs [(.ref a,.zl xs)] where
 go:=λH i D h hi=>by
  let(F,r):=h _ (bB.mpr U);let(p,o,vs,e,_,h1,h2):=r.r.zls;cases e;exact(vs,vs[i]'(by rw[h2.len];exact hi),.inl (.inr (o,h1)),by simp[hi])
 yld:=λH i x fp v H' D h hx y=>by
  have r:=h _ (bB.mpr U);let(p,o,vs,e,Q,h1,h2):=r.r.zls;cases e;let(U,y):=y;let(w,P,hw,g,hs):=h2.get hx;have z:=y vs (.inl (.inr (o,h1)));rw[hw]at z;cases z;exact(.refl D,P,(g,λb q=>nomatch hs b q),λb q=>nomatch hs b q)
 stop:=λH D h=>by
  let(F,r):=h _ (bB.mpr U);let(p,o,vs,e,_,h1,h2):=r.r.zls;cases e;exact(vs,.inl (.inr (o,h1)),by rw[h2.len];exact lx _)
def Hq{xs:List T}:ve K dl (Itt K a) xs [(.ref a,.t xs)] where
 go:=λH i D h hi=>by
  let(F,r):=h _ (bB.mpr U);let(p,vs,e,h1,h2):=r.r.tup;cases e;exact(vs,vs[i]'(by rw[h2.len];exact hi),SqT.of h1,by simp[hi])
 yld:=λH i x fp v H' D h hx y=>by
  have r:=h _ (bB.mpr U);let(p,vs,e,h1,h2):=r.r.tup;cases e;let(U,y):=y;let(w,P,hw,g,hs):=h2.get hx;have z:=y vs (SqT.of h1);rw[hw]at z;cases z;exact(.refl D,P,(g,λb q=>r.n b (hs b q)),λb q=>.inr (_,bB.mpr U,hs b q))
 stop:=λH D h=>by
  let(F,r):=h _ (bB.mpr U);let(p,vs,e,h1,h2):=r.r.tup;cases e;exact(vs,SqT.of h1,by rw[h2.len];exact lx _)
def Hr:ve K dl (Itr lo n) ((Tp n).map λi=>.i (lo+(i:Nat))) [] where
 go:=λH i D h hi=>by
  show i<n;simpa using hi
 yld:=λH i x fp v H' D h hx y=>by
  let(U,U):=y;rw[qx]at hx;cases e:(Tp n)[i]? with
  | none=>rw[e]at hx;cases hx
  | some j =>
   rw[e]at hx;have g:j=i:=by
    have:=j2.mp e
    let(h1,h2):=this;simp at h2;exact h2.symm
   subst g;cases hx;exact(.refl D,[],.c (.i _),λ_ z=>nomatch z)
 stop:=λH D h=>by show n<=_;simp
abbrev QI:=Sq ->(List T->Prop)->Prop
def RG(K:W.Frag)(wi:TI)(iq:QI):Prop:=∀(dl:Dl)(H:Hp)(σ:St)(q:Sq)(Q:List T->Prop)(R:It->Hp->Prop),RdR K dl H σ q->iq q Q ->
 (∀ xs Vn hv H',Evo dl H H'->ve K dl Vn xs hv ->(∀ p∈hv,∃ F,Rp K dl H' p.1 p.2 F)->Q xs->R Vn H')->wi σ H R
structure QPI(X:Cx)(K:W.Frag)(tg iter:Expr)(wi:TI)(iq:QI):Prop where
 h:PI X tg iter wi
 s:RG K wi iq
abbrev QJ:=Sq ->(List T->Sq->Prop)->Prop
def S7(K:W.Frag)(wi:TI)(iq:QJ):Prop:=∀(dl:Dl)(H₀:Hp)(hs:List (V×T))(H:Hp)(σ:St)(q:Sq)(Q:List T->Sq->Prop)(R:It->Hp->Prop),c7 K dl H₀ hs H σ q->iq q Q ->
 (∀ xs Vn hv H' q',c7 K dl H₀ (hv++hs) H' σ q'->ve K dl Vn xs hv->Q xs q'->R Vn H')->wi σ H R
structure QPJ(X:Cx)(K:W.Frag)(tg iter:Expr)(wi:TI)(iq:QJ):Prop where
 h:PI X tg iter wi
 s:S7 K wi iq
variable{tg e a b:Expr}{te:TE}{qe:QE}{tl:TA}{ql:QA}{pos p:Pos}
def GN(g:X.K=K)(h:PE X e te):PI X tg e (Hu K te):=by subst g;exact sg h
def Cf(g:X.K=K)(h:PE X e te):PI X tg e (KR K te):=by subst g;exact Nm h
def asL(qe:QE):QI:=λq Q=>qe q λt=>match t with | .l xs=>Q xs | .zl xs=>Q xs | _=>False
def asT(qe:QE):QI:=λq Q=>qe q λt=>match t with | .t xs=>Q xs | _=>False
def JF(h:QPE X K e te qe)(V:X.K=K:=by rfl):QPI X K tg e (Hu K te) (asL qe):=(GN V h.h,λdl H σ q Q R rd P k=>h.s dl H σ q _ _ rd P λv t F H' z r g=>by
 split at g
 ·let(p,vs,G,U,U,h1,h2):=r.r.lst;exact(p,U,(vs,SqL.of h1),k _ _ _ H' z KO (λp hp=>by rw[bB.mp hp];exact(_,r)) g)
 ·let(p,o,vs,U,U,h1,h2):=r.r.zls;exact(p,U,(vs,.inl (.inr (o,h1))),k _ _ _ H' z QF (λp hp=>by rw[bB.mp hp];exact(_,r)) g)
 ·exact g.elim)
def wo(h:QPE X K e te qe)(P:X.K=K:=by rfl):QPI X K tg e (KR K te) (asT qe):=(Cf P h.h,λdl H σ q Q R rd z k=>h.s dl H σ q _ _ rd z λv t F H' V r g=>by
 split at g
 ·let(p,vs,U,h1,h2):=r.r.tup;exact(p,U,(vs,SqT.of h1),k _ _ _ H' V Hq (λp hp=>by rw[bB.mp hp];exact(_,r)) g)
 ·exact g.elim)
def FV(lo:Int)(n:Nat):List T:=(Tp n).map λi=>.i (lo+(i:Nat))
def jz{x:T}(h:(FV lo n)[i]? = Z x):x = .i (lo+(i:Nat))/\i<n:=by
 unfold FV at h;rw[qx]at h;let(j,g,U):=j3.mp h;let(h1,h2):=j2.mp g;simp at h1 h2;subst h2;exact(U,h1)
def d7:(FV lo n).length=n:=by simp[FV]
def RC(ql:QA):QI:=λq Q=>ql q λts=>on1 ts λt=>match t with | .i n=>-(2 ^ 62)<=n/\n<2 ^ 62/\Q (FV 0 n.toNat) | _=>False
def lE(hg:Gl X "range")(hm:X.mg "range" = Y)(ha:QPA X K [a] tl ql)(hs:iS [a] X.env = [(ϊ,eval a X.env)]:=by rfl):QPI X K tg (.Call (.Name "range" p) [a] [] pos) (Ht tl) (RC ql):=(vq hg hm ha.h hs,λdl H σ q Q R rd P k=>ha.s dl H σ q _ _ rd P λvs ts F H' V r _ g=>by
 replace g:=on1.inv g
 let(t,U,g):=g
 split at g
 ·let(v,U,r'):=r.one;let(U,_):=r'.r.int;exact(_,U,g.1,g.2.1,k _ _ [] H' V Hr (λ_ z=>nomatch z) g.2.2)
 ·exact g.elim)
def asJ(iq:QI):QJ:=λq Q=>iq q λxs=>Q xs q
def je(hg:Gl X "range")(hm:X.mg "range" = Y)(ha:QPA X K [a] tl ql)(hs:iS [a] X.env = [(ϊ,eval a X.env)]:=by rfl):QPJ X K tg (.Call (.Name "range" p) [a] [] pos) (Ht tl) (asJ (RC ql)):=(vq hg hm ha.h hs,λdl H₀ hs H σ q Q R (F0,z) P k=>ha.s dl H σ q _ _ z.rd P λvs ts F H' V r _ g=>by
 replace g:=on1.inv g
 let(t,U,g):=g
 split at g
 ·let(v,U,r'):=r.one;let(U,_):=r'.r.int;exact(_,U,g.1,g.2.1,k _ _ [] H' q (F0,z.evo V) Hr g.2.2)
 ·exact g.elim)
def sV(h:QPF X K e te qe)(hK:X.K=K:=by rfl):QPJ X K tg e (KR K te) (asJ (asT qe)):=(Cf hK h.h,λdl H₀ hs H σ q Q R (F0,g) hq k=>h.s dl H σ q _ _ g.rd hq λv t F H' e1 r f n P=>by
 split at P
 ·have V:=(g.evo e1).hold r λj u hj b hb z=>(g.bI hb).no (f b z)
  let(p,vs,U,h1,h2):=r.r.tup;exact(p,U,(vs,SqT.of h1),k _ _ _ H' q (F0,V) Hq P)
 ·exact P.elim)
inductive Tg where
 | nm(i:Nat)|tp (is:List Nat)
def uT(q:Sq):List Nat->List T->Option Sq
 | [],[]=>Z q
 | i::is,x::xs=>if i<q.length then uT (q.set i (.r x)) is xs else Y
 | _,_=>Y
def Tg.put(g:Tg)(x:T)(q:Sq):Option Sq:=match g with
 | .nm i=>if i<q.length then Z (q.set i (.r x))else Y
 | .tp is=>match x with | .t xs=>uT q is xs | _=>Y
def xo:List Nat->TGs
 | []=>Oy
 | i::is=>CB (gP i) (xo is)
def Tg.h(K:W.Frag):Tg->TG
 | .nm i=>gP i
 | .tp is=>K4 K is.length (xo is)
theorem vo{H₀ H:Hp}{hs:List (V×T)}:∀{is:List Nat}{vs:List V}{xs:List T}{G:List J}{σ:St}{q q':Sq}{F:Nat->List J}{R:St->Hp->Prop},Rel K dl H₀ hs H σ q F->au K dl H vs xs G ->(∀ b∈G,Nd dl b) ->
  (∀(j:Nat)(u:T),q[j]? = Z (.o u)->∀ b∈F j,b ∉ G)->uT q is xs=Z q' ->(∀ P,c7 K dl H₀ hs H P q'->R P H)->xo is vs σ H R
 | [],vs,xs,G,σ,q,q',F,R,r,rs,_,_,hp,k=>by
  cases xs with
  | cons _ _=>cases hp
  | nil =>
   cases rs;cases hp;exact(U,k σ (F,r))
 | i::is,vs,xs,G,σ,q,q',F,R,r,rs,hn,ho,hp,k=>by
  cases xs with
  | nil=>cases hp
  | cons x xs =>
   cases rs with
   | cons r1 r2 =>
    unfold uT at hp;by_cases hi:i<q.length
    ·rw[if_pos hi]at hp;refine(_,_,U,?_);have r':=r.P0 hi (r1,λb g=>hn b (oE _ g)) λj u Q _ b g z=>ho j u Q b g (oE _ z)
     refine vo r' r2 (λb g=>hn b (j0 _ g)) (λj u Q b g z=>?_) hp k
     rcases get_set Q with⟨_,z',_⟩ |⟨ne,Q⟩
     ·cases z'
     ·rw[bf ne]at g;exact ho j u Q b g (j0 _ z)
    ·rw[if_neg hi]at hp;cases hp
variable{g:Tg}
def AG{hs:List (V×T)}{v:V}{x:T}{σ:St}{F:Nat->List J}{R:St->Hp->Prop}(r:Rel K dl H₀ hs H σ q F)(P:Rp K dl H v x G)
  (ho:∀(j:Nat)(u:T),q[j]? = Z (.o u)->∀ b∈F j,b ∉ G) (hp:g.put x q=Z q') (k:∀ z,c7 K dl H₀ hs H z q'->R z H):g.h K v σ H R:=by
 cases g with
 | nm i =>
  replace hp:(if i<q.length then Z (q.set i (.r x))else Y)=Z q':=hp
  by_cases hi:i<q.length
  ·rw[if_pos hi]at hp;cases hp;exact k _ (_,r.P0 hi P λj u hj _=>ho j u hj)
  ·rw[if_neg hi]at hp;cases hp
 | tp is =>
  cases x with
  | t xs =>
   let(p,vs,U,h1,h2):=P.r.tup;have hl:∀{is:List Nat}{xs:List T}{q q':Sq},uT q is xs=Z q'->xs.length=is.length:=λ{is}=>by
    induction is with
    | nil=>intro xs q q' h;cases xs with
     | nil=>rfl
     | cons _ _=>cases h
    | cons i is Q=>intro xs q q' h;cases xs with
     | nil=>cases h
     | cons x xs =>
      unfold uT at h;by_cases hi:i<q.length
      ·rw[if_pos hi]at h;simp[Q h]
      ·rw[if_neg hi]at h;cases h
   exact(p,vs,U,SqT.of h1,by rw[h2.len];exact hl hp,vo r h2 P.n ho hp k)
  | _=>cases hp
end
variable{tg:Expr}{iter:Expr}{body:List Stmt}{g:Tg}{cap:List (Option Nat)}{iq:QI}{tst:TT}{uS:QT}{te:TE}{qe:QE}{N':List Str}{sc:Scope}{elt:Expr}{ifs:List Expr}
section
variable{X:Cx}{K:W.Frag}{hs:List (V×T)}{σ:St}{F:Nat->List J}
def Rel.iC{hv:List (V×T)}(r:Rel K dl H₀ (hv++hs) H σ q F):Rel K dl H₀ hs H σ q F:=(r.d,r.g,r.n,r.z,r.o,λp hp=>r.h p (j0 _ hp),r.f,r.l)
def Rel.fps{hv:List (V×T)}(r:Rel K dl H₀ (hv++hs) H σ q F):∃ fp:V×T->List J,∀ p∈hv,Rp K dl H p.1 p.2 (fp p)/\∀(i:Nat)(t:T),q[i]? = Z (.o t)->∀ b∈F i,b ∉ fp p:=by
 classical
 refine(λp=>if h:p∈hv then(r.h p (oE _ h)).choose else [],λp hp=>?_)
 have z:=(r.h p (oE _ hp)).choose_spec;simp only[dif_pos hp];exact z
inductive Ta(g:Tg)(qb:QS)(D:fX)(xs:List T)(q0:Sq):Prop
 | mk(I:Nat->Sq->Prop)(h0:I 0 q0)(step:∀ i x q,xs[i]? = Z x->I i q->∃ q',g.put x q=Z q'/\qb (D.lp (I (i+1))) q')(fin:∀ q,I xs.length q->D.nx q)
def PU(iq:QJ)(g:Tg)(qb:QS):QS:=λD q=>iq q λxs q0=>Ta g qb D xs q0
def iZ{wi:TI}{iq:QJ}{tb:TS}{qb:QS}{pos:Pos}(hp:UH (model X.prog X.w) X.A X.env X.xe)(hc:X.calm=O)(hi:QPJ X K tg iter wi iq)(hg:PG X tg (g.h K))(hb:rP X K body tb qb)
  (hs:∀ x,foldedSetIterable iter X.env x=pure x:=by intro _;rfl):QPS X K (.For tg iter body [] pos) (Mn wi (g.h K) tb) (PU iq g qb):=(AU hp hc hi.h hg hb.h hs,λdl H₀ hs H σ q Dq D r hq E=>by
 refine hi.s dl H₀ hs H σ q _ _ r hq λxs Vn hv H1 q1 r1 it hz=>?_
 let(I,i0,turn,fin):=hz;refine(λi m σ H=>m=xs.length - i/\i<=xs.length/\∃ q,c7 K dl H₀ (hv++hs) H σ q/\I i q,(xs.length,by simp,Fq _,q1,r1,i0),?_)
 rintro i m σ H ⟨rfl,aj,q,⟨F,r⟩,hI⟩
 have held:∀ p∈hv,∃ F,Rp K dl H p.1 p.2 F:=λp hp=>let(Fp,h,_):=r.h p (oE _ hp);(Fp,h)
 by_cases P:i<xs.length
 ·refine .inr (it.go H i r.d held P,λQ H'=>∃ q,c7 K dl H₀ (hv++hs) H' Q q/\I (i+1) q,λQ H' h=>(xs.length - (i+1),by omega,U,P,h),λv H' y=>?_)
  let(fp,V):=r.fps;have hx:xs[i]? = Z xs[i]:=by simp[P]
  let(e1,G,rx,hG):=it.yld H i xs[i] fp v H' r.d (λp hp=>(V p hp).1) hx y
  let(q',ai,hz):=turn i xs[i] q hx hI;refine AG (r.evo e1) rx (λj u hj b hb z=>?_) ai λah r2=>hb.s dl H₀ (hv++hs) H' ah q' _ _ r2 hz (λH σ q r n=>(q,r,n),λH σ q (F,r) n=>E.nx H σ q (F,r.iC) n,λH σ q r n=>(q,r,n),E.rt,λH σ q F0 v t F r=>E.ru H σ q F0 v t F r.iC)
  rcases hG b z with h |⟨p,hp,h⟩
  ·exact(r.bI hb).no h
  ·exact(V p hp).2 j u hj b hb h
 ·have e:i=xs.length:=by lia
  subst e;exact .inl (it.stop H r.d held,E.nx H σ q (F,r.iC) (fin q hI)))
def lh(cap:List (Option Nat))(q:Sq):Sq:=cap.map λo=>match o with
 | none=>.no
 | some i=>match q[i]? with
  | some (.o t)=>.r t
  | some (.r t)=>.r t
  | _=>.no
def Jx(r:RdR K dl H σ q):RdR K dl H (oj cap σ) (lh cap q):=(r.d,λj x t h1 h2=>by
 unfold lh at h1;rw[qx]at h1;cases e:cap[j]? with
 | none=>rw[e]at h1;cases h1
 | some o =>
  rw[e]at h1;cases o with
  | none=>cases h1;cases h2
  | some i =>
   have go:∀ y,q[i]? = Z y->y.get=Z t->∃ v F,(oj cap σ)[j]? = Z (Z v)/\Rp K dl H v t F:=λy z P=>by
    let(v,F,h3,h4):=r.g i y t z P;refine(v,F,?_,h4);unfold oj;rw[qx,e];show Z ((σ[i]?).join)=_;rw[h3];rfl
   replace h1:(match q[i]? with|some (.o t)=>Sl.r t|some (.r t)=>.r t | _=>.no)=x:=Option.some.inj h1
   split at h1
   ·rename_i u eq;subst h1;cases h2;exact go _ eq U
   ·rename_i u eq;subst h1;cases h2;exact go _ eq U
   ·subst h1;cases h2)
theorem RdR.set{i:Nat}{v:V}{x:T}{G:List J}(r:RdR K dl H σ q)(hl:i < σ.length)(P:Rp K dl H v x G):RdR K dl H (σ.set i (Z v)) (q.set i (.r x)):=(r.d,λj y t h1 h2=>by
 rcases get_set h1 with⟨rfl,rfl,_⟩ |⟨ne,h1⟩
 ·cases h2;exact(v,G,by rw[rW hl],P)
 ·let(w,F,h3,h4):=r.g j y t h1 h2;exact(w,F,by rw[rS (λz=>ne z.symm)];exact h3,h4))
def RdR.any{o:Option V}(r:RdR K dl H σ q)(hn:q[i]? = Z .no):RdR K dl H (σ.set i o) q:=(r.d,λj y t h1 h2=>by
 let(w,F,h3,h4):=r.g j y t h1 h2;refine(w,F,?_,h4);rw[rS]
 ·exact h3
 ·intro z;subst z;rw[hn]at h1;cases h1;cases h2)
def Tg.ixs:Tg->List Nat
 | .nm i=>[i]
 | .tp is=>is
theorem yr:∀{is:List Nat}{vs:List V}{xs:List T}{G:List J}{σ:St}{q q0 q':Sq}{R:St->Hp->Prop},RdR K dl H σ q->RdR K dl H σ q0->σ.length=q.length->au K dl H vs xs G ->(∀ b∈G,Nd dl b) ->(∀ i∈is,q0[i]? = Z .no)->uT q is xs=Z q' ->
  (∀ g,RdR K dl H g q'->RdR K dl H g q0->g.length=σ.length->R g H)->xo is vs σ H R
 | [],vs,xs,G,σ,q,q0,q',R,r,z,_,rs,_,_,hp,k=>by
  cases xs with
  | cons _ _=>cases hp
  | nil =>
   cases rs;cases hp;exact(U,k σ r z U)
 | i::is,vs,xs,G,σ,q,q0,q',R,r,z,hl,rs,hn,hf,hp,k=>by
  cases xs with
  | nil=>cases hp
  | cons x xs =>
   cases rs with
   | cons r1 Q =>
    unfold uT at hp;by_cases hi:i<q.length
    ·rw[if_pos hi]at hp;refine(_,_,U,(yr (r.set (by omega) (r1,λb P=>hn b (oE _ P))) (z.any (hf i dZ)) (by simp[hl]) Q (λb P=>hn b (j0 _ P)) (λj hj=>hf j (c5 _ hj)) hp λg a b c=>k g a b (by simpa using c)))
    ·rw[if_neg hi]at hp;cases hp
theorem yF:∀{is:List Nat}{xs:List T}{q q':Sq},uT q is xs=Z q'->xs.length=is.length
 | [],[],_,_,_=>rfl
 | [],_::_,_,_,h=>by cases h
 | _::_,[],_,_,h=>by cases h
 | i::is,x::xs,q,q',h=>by
  unfold uT at h;by_cases hi:i<q.length
  ·rw[if_pos hi]at h;simp[yF h]
  ·rw[if_neg hi]at h;cases h
def Pl{v:V}{x:T}{R:St->Hp->Prop}(r:RdR K dl H σ q)(hl:σ.length=q.length)(P:Rp K dl H v x G)(hf:∀ i∈g.ixs,q[i]? = Z .no)(hp:g.put x q=Z q')
  (k:∀ z,RdR K dl H z q'->RdR K dl H z q->z.length=σ.length->R z H):g.h K v σ H R:=by
 cases g with
 | nm i =>
  replace hp:(if i<q.length then Z (q.set i (.r x))else Y)=Z q':=hp
  by_cases hi:i<q.length
  ·rw[if_pos hi]at hp;cases hp;exact k _ (r.set (by lia) P) (r.any (hf i (bB.mpr U))) (by simp)
  ·rw[if_neg hi]at hp;cases hp
 | tp is =>
  cases x with
  | t xs =>
   let(p,vs,U,h1,h2):=P.r.tup;exact(p,vs,U,SqT.of h1,by rw[h2.len];exact yF hp,yr r r hl h2 P.n hf hp k)
  | _=>cases hp
def LB:QT:=λ_ Q=>Q O
def FC:mP K BU LB:=λdl H σ q Q R rd g k=>k O H (.refl rd.d) g
inductive CompI(cap:List (Option Nat))(g:Tg)(tst:QT)(qe:QE)(q:Sq)(Q:T->Prop)(xs:List T):Prop
 | mk (hl:xs.length<j5) (I:Nat->List T->Prop) (h0:I 0 []) (step:∀ i x ys,xs[i]? = Z x->I i ys->∃ q',g.put x (lh cap q)=Z q'/\tst q' λb=>if b=O then qe q' λy=>I (i+1) (ys ++ [y])else I (i+1) ys) (fin:∀ ys,I xs.length ys->Q (.l ys))
def Gy(cap:List (Option Nat))(iq:QI)(g:Tg)(tst:QT)(qe:QE):QE:=λq Q=>iq q λxs=>CompI cap g tst qe q Q xs
theorem ym{wi:TI}(hi:RG K wi iq)(ht:mP K tst uS)(he:lQ K te qe)(hf:(g.ixs.all λi=>cap[i]? == Z Y)=O):lQ K (vk cap wi (g.h K) tst te) (Gy cap iq g uS qe):=by
 intro dl H σ q Q R rd hq k;refine hi dl H σ q _ _ rd hq λxs Vn hv H1 e1 it held hz=>?_
 let(hlen,I,i0,turn,fin):=hz;have aS:=Jx (cap:=cap) (rd.evo e1);have a0:∀ i∈g.ixs,(lh cap q)[i]? = Z .no:=λi hi=>by
  have z:=z7.mp hf i hi;have z:=by simpa using z
  unfold lh;rw[qx,z];rfl
 have a7:(oj cap σ).length =(lh cap q).length:=by simp[oj,lh]
 refine(λi m vs aj H'=>m=xs.length - i/\i<=xs.length/\∃ ts F,Evo dl H1 H'/\RdR K dl H' aj (lh cap q)/\aj.length =(lh cap q).length/\(∀ p∈hv,∃ F,Rp K dl H' p.1 p.2 F)/\Rps K dl H' vs ts F/\(∀ b∈F,H b=Y)/\F.Nodup/\vs.length<=i/\I i ts,
  (xs.length,by simp,Fq _,[],[],.refl e1.d,aS,a7,held,(.nil,λ_ z=>nomatch z),(λ_ z=>nomatch z),kr,lx _,i0),?_)
 rintro i m vs aj H' ⟨rfl,bu,ts,F,e2,aM,a3,zE,rs,fr,nd,bt,hI⟩
 by_cases ah:i<xs.length
 ·refine .inr (it.go H' i e2.d zE ah,by lia,λak ai H2=>∃ ts F,Evo dl H1 H2/\RdR K dl H2 ai (lh cap q)/\ai.length =(lh cap q).length/\(∀ p∈hv,∃ F,Rp K dl H2 p.1 p.2 F)/\Rps K dl H2 ak ts F/\(∀ b∈F,H b=Y)/\F.Nodup/\ak.length<=i+1/\I (i+1) ts,
   λak ai H2 h=>(xs.length - (i+1),Nat.sub_succ_lt_self _ _ ah,U,ah,h),λv H2 y=>?_)
  have hx:xs[i]? = Z xs[i]:=by simp[ah]
  obtain⟨fp,a4⟩:∃ fp:V×T->List J,∀ p∈hv,Rp K dl H' p.1 p.2 (fp p):=by
   classical
   refine(λp=>if h:p∈hv then(zE p h).choose else [],λp hp=>?_)
   simp only[dif_pos hp];exact(zE p hp).choose_spec
  let(e3,G,rx,hG):=it.yld H' i xs[i] fp v H2 e2.d a4 hx y;let(q',aX,hz):=turn i xs[i] ts hx hI;have LQ:∀{H3:Hp},Evo dl H' H3->∀ p∈hv,∃ F,Rp K dl H3 p.1 p.2 F:=λ{H3} e p hp=>let(F,r):=zE p hp;(F,r.evo e2.d e)
  refine Pl (aM.evo e3) a3 rx a0 aX λax r3 aG l3=>(ht dl H2 ax q' _ _ r3 hz λb H4 e4 hz=>?_)
  cases b with
  | false=>exact(ts,F,(e2.trans e3).trans e4,aG.evo e4,by omega,LQ (e3.trans e4),(rs.evo e2.d e3).evo e3.d e4,fr,nd,by lia,hz)
  | true =>
   refine he dl H4 ax q' _ _ (r3.evo e4) hz λw t G' H5 e5 aA f5 n5 hz=>?_
   have E:=(e2.trans e3).trans (e4.trans e5);have aH:=((rs.evo e2.d e3).evo e3.d (e4.trans e5));refine(ts ++ [t],F++(G' ++ []),E,aG.evo (e4.trans e5),by omega,LQ (e3.trans (e4.trans e5)),(aH.r.append (.cons aA.r .nil),λb P=>?_),λb P=>?_,?_,by simp;omega,hz)
   ·rcases j1.mp P with P|P
    ·exact rs.n b P
    ·rw[ko]at P;exact aA.n b P
   ·rcases j1.mp P with P|P
    ·exact fr b P
    ·rw[ko]at P;exact((e1.trans e2).trans (e3.trans e4)).free (f5 b P)
   ·rw[ko];refine xQ.mpr (nd,n5,λx hx y hy bo=>?_)
    subst bo;have aK:=(rs.evo e2.d e3).evo e3.d e4;exact fF.no (aK.r.there x hx) (f5 x hy)
 ·have e:i=xs.length:=by lia
  subst e;refine .inl (it.stop H' e2.d zE,by lia,λD hD=>?_)
  exact k _ _ _ _ ((e1.trans e2).new hD) (rs.lst e2.d hD) (λb P=>by
   rcases i8.mp P with e|P
   ·rw[e];exact(e1.trans e2).free hD
   ·exact fr b P) (rs.fresh hD nd) (fin ts hI)
structure QB(X:Cx)(K:W.Frag)(N':List Str)(sc:Scope)(tg:Expr)(g:Tg)(ifs:List Expr)(tst:TT)(uS:QT)(elt:Expr)(te:TE)(qe:QE):Prop where
 b:∀ cl C s₂ H₂ fp,PG (blk X N' sc cl C s₂ H₂ fp) tg (g.h K)/\PTs (blk X N' sc cl C s₂ H₂ fp) ifs tst/\PE (blk X N' sc cl C s₂ H₂ fp) elt te
 t:mP K tst uS
 e:lQ K te qe
def ij(h:∀ cl C s₂ H₂ fp,PG (blk X N' sc cl C s₂ H₂ fp) tg (g.h K)/\QPF (blk X N' sc cl C s₂ H₂ fp) K elt te qe):QB X K N' sc tg g [] BU LB elt te qe :=
 (λcl C s₂ H₂ fp=>((h cl C s₂ H₂ fp).1,Cb,(h cl C s₂ H₂ fp).2.h),FC,(h [] 0 X.s₀ (λ_=>Y) []).2.s)
def lF{pos:Pos}{wi:TI}(hc:X.calm=O)(hi:QPI X K tg iter wi iq)(z:oN X sc N' cap)(q:QB X K N' sc tg g ifs tst uS elt te qe)
  (hf:(g.ixs.all λi=>cap[i]? == Z Y)=true:=by rfl)
  (Q:sc.kind = .function:=by rfl) (P:∀ y∈sc.names,y.2 ≠ .cell:=by decide) (jM:∀ y∈sc.names,y.2 = .local->sc.names.lookup y.1=Z .local:=by decide)
  (V:(sc.names.all λy=>y.2 != .free ||(X.env.kindOf y.1==Z .cell||X.env.kindOf y.1==Z .free))=true:=by rfl)
  (hs:∀ x,foldedSetIterable iter X.env x=pure x:=by intro _;rfl):QPF X K (.ListComp elt [(tg,iter,ifs,0)] sc pos) (vk cap wi (g.h K) tst te) (Gy cap iq g uS qe) :=
 (Ck hc hi.h z q.b Q P jM V hs,ym hi.s q.t q.e hf)
def nj{y:Str}{pos eQ py:Pos}{wi:TI}(hN:X.N.Nodup)(z:X.N[i]? = Z y)(hy:Loc X.env.scope y)
  (hc:X.calm=O) (hi:QPI X K tg iter wi iq) (V:oN X sc N' cap) (Q:QB X K N' sc tg g ifs tst uS elt te qe)
  (P:(g.ixs.all λi=>cap[i]? == Z Y)=true:=by rfl)
  (q:swapsWith (.ListComp elt [(tg,iter,ifs,0)] sc pos) (Z (.Name y py)) eQ.line X.env=pure true:=by rfl)
  (hf:X.fn y=O\/X.env.scope.names.lookup y=Z .local:=by first|exact .inl rfl|exact .inr rfl|assumption)
  (jj:sc.kind = .function:=by rfl) (jk:∀ y∈sc.names,y.2 ≠ .cell:=by decide) (jM:∀ y∈sc.names,y.2 = .local->sc.names.lookup y.1=Z .local:=by decide)
  (jV:(sc.names.all λy=>y.2 != .free ||(X.env.kindOf y.1==Z .cell||X.env.kindOf y.1==Z .free))=true:=by rfl)
  (hs:∀ x,foldedSetIterable iter X.env x=pure x:=by intro _;rfl):QPS X K (.Assign [.Name y py] (.ListComp elt [(tg,iter,ifs,0)] sc pos) eQ) (mW (vk cap wi (g.h K) tst te) (gP i)) (JJ i (Gy cap iq g uS qe)) :=
 (Ce hN z hy hc hi.h V Q.b q hf jj jk jM jV hs,B2 (ym hi.s Q.t Q.e P))
end
section
variable{X:Cx}{K:W.Frag}{hs:List (V×T)}{σ:St}{F:Nat->List J}{e o:Expr}{apos aM:Pos}
def zip_inj{ns:List Str}:∀{vs us:List V},vs.length=ns.length->us.length=ns.length->ns.zip vs=ns.zip us->vs=us:=by
 induction ns with
 | nil=>intro vs us h1 h2 _;rw[Co.mp h1,Co.mp h2]
 | cons n r q =>
  intro vs us h1 h2 e;cases vs with
  | nil=>cases h1
  | cons v vs=>cases us with
   | nil=>cases h2
   | cons u us =>
    injection e with g z
    injection g with _ g
    rw[g,q (Nat.succ.inj h1) (Nat.succ.inj h2) z]
def aJ.uniq{v:V}{t:T}{F:List J}(h:aJ K dl H v t F):∀{F':List J},aJ K dl H v t F'->F=F' :=
 aJ.rec (motive_1:=λv t F _=>∀{F'},aJ K dl H v t F'->F=F') (motive_2:=λv t F _=>∀{F'},au K dl H v t F'->F=F') (motive_3:=λv t F _=>∀{F'},fW K dl H v t F'->F=F')
  (λh=>(h.im U).symm) (λ_ _ h=>(h.im U).symm) (λ_ _ h=>(h.im U).symm) (λ_ _ h=>(h.im U).symm) (λ_ _ h=>(h.im U).symm)
  (λh1 _ g _ h=>by let(a,vs,e,h2,r):=h.tup;cases e;rw[h1]at h2;cases h2;exact g r)
  (λh1 _ g _ h=>by let(a,vs,G,e,U,h2,r):=h.lst;cases e;rw[h1]at h2;cases h2;rw[g r])
  (λh1 _ g _ h=>by let(a,vs,G,e,U,h2,r):=h.dic;cases e;rw[h1]at h2;cases h2;rw[g r])
  (λ_ _ h=>(h.im U).symm) (λ_ _ h=>(h.im U).symm) (λ_ _ h=>(h.im U).symm) (λ_ _ _ _ h=>(h.im U).symm) (λ_ _ h=>(h.im U).symm) (λ_ _ _ _ h=>(h.im U).symm)
  (λ_ _ _ h=>(h.im U).symm) (λ_ _ _ _ h=>(h.im U).symm) (λh1 _ g _ h=>by let(vs,G,e,U,h2,r):=h.dpp;rw[h1]at h2;cases h2;rw[g r]) (λh1 _ g _ h=>by let(vs,G,e,U,h2,r):=h.lpp;rw[h1]at h2;cases h2;rw[g r]) (λ_ _ _ _ h=>(h.im U).symm) (λ_ _ h=>(h.im U).symm) (λh1 _ h4 hr g _ h=>by
   let(dx,vs,G,e,U,h2,_,h3,r):=h.omm;rw[h1]at h2;injection h2 with h2
   injection h2 with _ Q P
   subst Q;have z:=zip_inj (hr.len.trans h4.symm) (r.len.trans h3.symm) P;subst z;rw[g r])
  (λh=>by cases h;rfl) (λ_ _ i1 i2 _ h=>by cases h with|cons h2 q=>rw[i1 h2,i2 q])
  (λh=>by cases h;rfl) (λ_ _ i1 i2 _ h=>by cases h with|cons h2 q=>rw[i1 h2,i2 q]) h
def Rel.KW(r:Rel K dl H₀ hs H σ q F)(e:Evo dl H H'){p:V×T}(hp:p∈hs){Fp:List J}(h:Rp K dl H' p.1 p.2 Fp){b:J}(g:H b=Y):b ∉ Fp:=λz=>by
 let(Q,h1,_):=r.h p hp;have P:=(h1.evo r.d e).r.uniq h.r;subst P;exact fF.no (h1.r.there b z) g
def Rel.mn{p:J}{ws:List V}{xs ys:List T}{G':List J}(r:Rel K dl H₀ hs H σ q F)(hi:q[i]? = Z (.o (.l xs)))(hv:σ[i]? = Z (Z (.ref p)))(Q:F i=p::G)(e:Evo dl H H')
  (rs:au K dl H' ws ys G') (hn:G'.Nodup) (hG:∀ b∈G',b∈G\/(H b=Y/\Nd dl b)):c7 K dl H₀ hs (upd H' p (.lst ws)) σ (q.set i (.o (.l ys))):=by
 have r':=r.evo e;let(o1,o2,o3):=r.o i _ hi;let(v',ax,rp):=r'.g i _ _ hi U;rw[hv]at ax;let(p2,aA,G2,e2,eF,h1,h2):=rp.r.lst;rw[Q]at eF;cases eF;rw[Q]at o1;have pG:=(rX.mp o1).1;have ak:=r.bI (by rw[Q];exact dZ)
 have ah:p ∉ G':=λz=>by
  rcases hG p z with z|z
  ·exact pG z
  ·exact ak.no z.1
 have pn:=rp.n p (by rw[Q];exact dZ)
 have tf:TF H' (upd H' p (.lst ws)):=(λa us h=>(by
  rw[ao];exact h;intro z;subst z;rw[h]at h1;cases h1),λa ob u h=>(by
  rw[ao];exact h;intro z;subst z;rw[h]at h1;cases h1),λa φ h=>(by
  rw[ao];exact h;intro z;subst z;rw[h]at h1;cases h1),λa ai h=>(by
  by_cases z:a=p
  ·subst z;exact(_,aB)
  ·exact(ai,by rw[ao z];exact h)),λa x h=>(x,Tf _,by
  rw[ao];exact h;intro z;subst z;rw[h]at h1;cases h1))
 have aj:=rs.c6 tf (λ_ z=>z) λb P ob eb=>by
  have ne:b≠p:=by
   intro z;subst z;exact ah P
  rw[ao ne];exact eb
 refine(_,r'.write hi hv (by rw[Q];exact dZ) (λ_ _=>(_,U)) (.l aB aj,λb P=>?_) (rX.mpr (ah,hn)) λb P=>?_)
 ·rcases i8.mp P with z|P
  ·rw[z];exact pn
  ·rcases hG b P with z|z
   ·exact rp.n b (by rw[Q];exact c5 _ z)
   ·exact z.2
 ·rcases i8.mp P with z|P
  ·rw[z,Q];exact .inl dZ
  ·rcases hG b P with z|z
   ·rw[Q];exact .inl (c5 _ z)
   ·exact .inr (r.fz z.1,λj hj=>(r.bI hj).no z.1,λw u Fp h1 h2=>r.KW e h2 h1 z.1)
def wy(i:Nat)(qe:QE):QS:=λD q=>match q[i]? with
 | some (.o (.l xs))=>xs.length<j5/\qe q λt=>D.nx (q.set i (.o (.l (xs ++ [t]))))
 | _=>False
def mE(q:X.K=K)(ho:PE X o (bP i))(he:PE X e te)(z:attributeBase o "append" X.env (eval o X.env)=eval o X.env:=by rfl)
  (g:((backTo aM (iS [e] X.env)).all (λx=>!x.1)&&(backToKw aM (keywordEach [] X.env)).all (λx=>x.1.isSome)
   && decide (([e]:List Expr).length+([]:List Keyword).length+(if([]:List Keyword).isEmpty then 0 else 1)<30))=true:=by rfl)
  (P:(apos.endLine==aM.line)=true:=by rfl) (hs:iS [e] X.env =(ϊ,eval e X.env)::iS [] X.env:=by rfl) (Q:(backTo aM (iS [] X.env)).any (·.1)=false:=by rfl) :
  PE X (.Call (.Attribute o "append" apos) [e] [] aM) (tBM K "list" jA (bP i) (cw te fY)):=by
 subst q;exact tF PySem.F.plainAttrs_list PySem.F.slot_list_append PySem.F.type_list_append vw ho (bj he eT hs) z g P hs Q
def Am(he:lQ K te qe):zZ K (kz (tBM K "list" jA (bP i) (cw te fY))) (wy i qe):=λdl H₀ hs H σ q Dq D (F,r) Q E=>by
 unfold wy at Q
 split at Q
 ·rename_i xs ei;let(hz,Q):=Q;let(v,hv,rp):=r.g i _ _ ei U;let(o1,o2,o3):=r.o i _ ei;let(p,vs,G,U,V,h1,h2):=rp.r.lst;refine(_,hv,.inl (U,vs,SqL.of h1),he dl H σ q _ _ r.rd Q λw t F' H' e1 r1 f1 n1 ai=>?_)
  have pn:=rp.n p (by rw[V];exact dZ)
  refine(p,vs,w,U,U,e1.k p _ h1 pn (λ_ z=>nomatch z),by rw[h2.len];exact hz,?_)
  have hG:=λb P=>rp.n b (by rw[V];exact c5 _ P)
  have ah:=h2.c6 (e1.tf r.d) (λ_ z=>z) λb P o eo=>e1.k b o eo (hG b P) (.of (h2.there b P) eo)
  refine E.nx _ σ _ (r.mn ei hv V e1 (ah.append (.cons r1.r .nil)) ?_ λb P=>?_) ai
  ·rw[ko];rw[V]at o1;refine xQ.mpr ((rX.mp o1).2,n1,λx hx y hy aj=>?_)
   subst aj;exact fF.no (h2.there x hx) (f1 x hy)
  ·rcases j1.mp P with P|P
   ·exact .inl P
   ·rw[ko]at P;exact .inr (f1 b P,r1.n b P)
 ·exact Q.elim
def cU{eQ:Pos}(ho:PE X o (bP i))(he:QPF X K e te qe)(z:X.K=K:=by rfl)(P:attributeBase o "append" X.env (eval o X.env)=eval o X.env:=by rfl)
  (q:((backTo aM (iS [e] X.env)).all (λx=>!x.1)&&(backToKw aM (keywordEach [] X.env)).all (λx=>x.1.isSome)
   && decide (([e]:List Expr).length+([]:List Keyword).length+(if([]:List Keyword).isEmpty then 0 else 1)<30))=true:=by rfl)
  (Q:(apos.endLine==aM.line)=true:=by rfl) (hs:iS [e] X.env =(ϊ,eval e X.env)::iS [] X.env:=by rfl) (V:(backTo aM (iS [] X.env)).any (·.1)=false:=by rfl)
  (g:swapsWith (.Call (.Attribute o "append" apos) [e] [] aM) Y eQ.line X.env=pure false:=by rfl) :
  QPS X K (.Expr (.Call (.Attribute o "append" apos) [e] [] aM) eQ) (kz (tBM K "list" jA (bP i) (cw te fY))) (wy i qe):=(iJ (mE z ho he.h P q Q hs V) g,Am he.s)
def wx(i:Nat)(qe:QE):QS:=λD q=>match q[i]? with
 | some (.o (.l xs))=>qe q λt=>match t with
  | .l ys=>xs.length+ys.length<=j5/\D.nx (q.set i (.o (.l (xs++ys))))
  | _=>False
 | _=>False
def A7(q:X.K=K)(ho:PE X o (bP i))(he:PE X e te)(z:attributeBase o "extend" X.env (eval o X.env)=eval o X.env:=by rfl)
  (g:((backTo aM (iS [e] X.env)).all (λx=>!x.1)&&(backToKw aM (keywordEach [] X.env)).all (λx=>x.1.isSome)
   && decide (([e]:List Expr).length+([]:List Keyword).length+(if([]:List Keyword).isEmpty then 0 else 1)<30))=true:=by rfl)
  (P:(apos.endLine==aM.line)=true:=by rfl) (hs:iS [e] X.env =(ϊ,eval e X.env)::iS [] X.env:=by rfl) (Q:(backTo aM (iS [] X.env)).any (·.1)=false:=by rfl) :
  PE X (.Call (.Attribute o "extend" apos) [e] [] aM) (tBM K "list" se (bP i) (cw te fY)):=by
 subst q;exact tF PySem.F.plainAttrs_list PySem.F.slot_list_extend PySem.F.type_list_extend D8 ho (bj he eT hs) z g P hs Q
def Al(he:lQ K te qe):zZ K (kz (tBM K "list" se (bP i) (cw te fY))) (wx i qe):=λdl H₀ hs H σ q Dq D (F,r) V E=>by
 unfold wx at V
 split at V
 ·rename_i xs ei;let(v,hv,rp):=r.g i _ _ ei U;let(o1,o2,o3):=r.o i _ ei;let(p,vs,G,U,eF,h1,h2):=rp.r.lst;refine(_,hv,.inl (U,vs,SqL.of h1),he dl H σ q _ _ r.rd V λw t F' H' e1 r1 f1 n1 Q=>?_)
  split at Q
  ·let(p2,ws,G2,U,U,h3,h4):=r1.r.lst;have pn:=rp.n p (by rw[eF];exact dZ)
   refine(p,p2,vs,ws,U,U,e1.k p _ h1 pn (λ_ z=>nomatch z),h3,by rw[h2.len,h4.len];exact Q.1,?_)
   have hG:=λb P=>rp.n b (by rw[eF];exact c5 _ P)
   have ah:=h2.c6 (e1.tf r.d) (λ_ z=>z) λb P o eo=>e1.k b o eo (hG b P) (.of (h2.there b P) eo)
   refine E.nx _ σ _ (r.mn ei hv eF e1 (ah.append h4) ?_ λb P=>?_) Q.2
   ·rw[eF]at o1;refine xQ.mpr ((rX.mp o1).2,(rX.mp n1).2,λx hx y hy ai=>?_)
    subst ai;exact fF.no (h2.there x hx) (f1 x (c5 _ hy))
   ·rcases j1.mp P with P|P
    ·exact .inl P
    ·exact .inr (f1 b (c5 _ P),r1.n b (c5 _ P))
  ·exact Q.elim
 ·exact V.elim
def fD{eQ:Pos}(ho:PE X o (bP i))(he:QPF X K e te qe)(z:X.K=K:=by rfl)(P:attributeBase o "extend" X.env (eval o X.env)=eval o X.env:=by rfl)
  (q:((backTo aM (iS [e] X.env)).all (λx=>!x.1)&&(backToKw aM (keywordEach [] X.env)).all (λx=>x.1.isSome)
   && decide (([e]:List Expr).length+([]:List Keyword).length+(if([]:List Keyword).isEmpty then 0 else 1)<30))=true:=by rfl)
  (Q:(apos.endLine==aM.line)=true:=by rfl) (hs:iS [e] X.env =(ϊ,eval e X.env)::iS [] X.env:=by rfl) (V:(backTo aM (iS [] X.env)).any (·.1)=false:=by rfl)
  (g:swapsWith (.Call (.Attribute o "extend" apos) [e] [] aM) Y eQ.line X.env=pure false:=by rfl) :
  QPS X K (.Expr (.Call (.Attribute o "extend" apos) [e] [] aM) eQ) (kz (tBM K "list" se (bP i) (cw te fY))) (wx i qe):=(iJ (A7 z ho he.h P q Q hs V) g,Al he.s)
end
variable{qo:QE}{to:TE}
section
variable{X:Cx}{K:W.Frag}{hs:List (V×T)}{σ:St}{F:Nat->List J}{a b e o c:Expr}{ta tb:TE}{qa qb:QE}{pos apos aM:Pos}
theorem au.last:∀{ts:List T}{x:T}{vs:List V}{F:List J},au K dl H vs (ts ++ [x]) F->∃ us w q g,vs=us ++ [w]/\au K dl H us ts q/\aJ K dl H w x g/\F=q++g
 | [],x,vs,F,h=>by
  cases h with
  | cons h1 h2 =>
   cases h2;exact([],_,[],_,U,.nil,h1,by simp)
 | t::ts,x,vs,F,h=>by
  cases h with
  | cons h1 h2 =>
   let(us,w,q,g,U,P,z,U):=au.last h2;exact(_::us,w,_,g,U,.cons h1 P,z,by rw[BI])
def MN(i j:Nat):QS:=λD q=>match q[i]? with
 | some (.o (.l xs))=>∃ ys x,xs=ys ++ [x]/\T.ims xs=O/\i≠j/\D.nx ((q.set i (.o (.l ys))).set j (.o x))
 | _=>False
def dh{xs ys:List T}:T.ims (xs++ys) =(T.ims xs&&T.ims ys):=by
 induction xs with
 | nil=>rfl
 | cons x r g=>show(x.im&&T.ims (r++ys)) =((x.im&&T.ims r)&&T.ims ys);rw[g,Bool.and_assoc]
def Jm:zZ K (mW (Fi K "list" F5 (bP i)) (gP j)) (MN i j):=λdl H₀ hs H σ q Dq D (F,r) Q E=>by
 unfold MN at Q
 split at Q
 ·rename_i xs ei;let(ys,x,U,P,ai,Q):=Q;let(v,hv,rp):=r.g i _ _ ei U;let(p,vs,G,U,eF,h1,h2):=rp.r.lst;let(us,w,F1,F2,U,r1,r2,U):=h2.last;rw[dh,qp]at P;obtain rfl:=r1.im P.1;have hx:=by have:=P.2;simpa [T.ims]using this
  obtain rfl:=r2.im hx;refine(_,hv,.inl (U,_,SqL.of h1),p,_,w,U,U,h1,by simp,?_)
  rw[TL];let(F3,r3):=r.mn ei hv eF (.refl r.d) r1 kr (λ_ z=>nomatch z)
  have tf:=by
   have tf:TF H (upd H p (.lst us)):=(λa ah h=>(by
    rw[ao];exact h;intro z;subst z;rw[h]at h1;cases h1),λa ob u h=>(by
    rw[ao];exact h;intro z;subst z;rw[h]at h1;cases h1),λa φ h=>(by
    rw[ao];exact h;intro z;subst z;rw[h]at h1;cases h1),λa V h=>(by
    by_cases z:a=p
    ·subst z;exact(_,aB)
    ·exact(V,by rw[ao z];exact h)),λa x h=>(x,Tf _,by
    rw[ao];exact h;intro z;subst z;rw[h]at h1;cases h1))
   exact r2.c6 tf (λ_ z=>z) λ_ z=>nomatch z
  exact E.nx _ _ _ (r3.d9 (.refl r3.d) (.c tf) (λ_ z=>nomatch z) kr) Q
 ·exact Q.elim
def MF(g:X.N.Nodup)(hi:X.N[j]? = Z x)(hx:Loc X.env.scope x)(ho:PE X o (bP i))(q:X.K=K:=by rfl)(z:attributeBase o "pop" X.env (eval o X.env)=eval o X.env:=by rfl)(P:(apos.endLine==aM.line)=true:=by rfl)
  (hs:swapsWith (.Call (.Attribute o "pop" apos) [] [] aM) (Z (.Name x pos')) pos.line X.env=pure false:=by rfl) (hf:X.fn x=O\/X.env.scope.names.lookup x=Z .local:=by first|exact .inl rfl|exact .inr rfl|assumption) :
  QPS X K (.Assign [.Name x pos'] (.Call (.Attribute o "pop" apos) [] [] aM) pos) (mW (Fi K "list" F5 (bP i)) (gP j)) (MN i j) :=
 (by subst q;exact i5 g hi hx (wJ PySem.F.plainAttrs_list PySem.F.slot_list_pop PySem.F.type_list_pop wZ ho z P) hs hf,Jm)
def PH(i j:Nat)(qa qb:QE):QS:=λD q=>qa q λt=>t.im=O/\qb q λu=>u.im=O/\D.nx ((q.set i (.o t)).set j (.o u))
def Jn(ha:mQ K ta qa)(hb:mQ K tb qb):zZ K (Mj i j (cw ta (cw tb fY))) (PH i j qa qb):=λdl H₀ hs H σ q Dq D (F,r) g E=>by
 refine ha dl H σ q _ _ r.rd g λv t F1 H1 Q r1 (m1,g)=>hb dl H1 σ q _ _ (r.rd.evo Q) g λw u F2 H2 e2 V P=>?_
 let(m2,g):=P;obtain rfl:=r1.r.im m1;obtain rfl:=V.r.im m2;refine(v,w,U,?_);let(F1,R1):=r.d9 (Q.trans e2) (r1.evo Q.d e2) (λ_ z=>nomatch z) kr
 exact E.nx _ _ _ (R1.d9 (.refl R1.d) V (λ_ z=>nomatch z) kr) g
def S3:T->Option Str
 | .s x=>Z x
 | _=>Y
abbrev txs:List T->Option (List Str):=picks S3
theorem au.txs{vs:List V}{ts:List T}{F:List J}{bs:List Str}(h:au K dl H vs ts F)(e:L2.txs ts=Z bs):vs=bs.map V.str :=
 h.picks (λv t F a h e=>by cases t <;> first |(cases e;exact h.str.1)|cases e) e
def fh(bs:List Str):txs (bs.map T.s)=Z bs:=by
 induction bs with
 | nil=>rfl
 | cons b r g=>show(txs (r.map T.s)).map (b :: ·)=_;rw[g];rfl
def PK(qo qe:QE):QE:=λq Q=>qo q λs=>match s with
 | .s sep=>qe q λt=>match t with
  | .l xs=>Ex4 (λys=>txs xs=Z ys) (λys=>(ys.map (·.length)).sum+ys.length*sep.length<=16777216) (λys=>(.s (Txt.join sep ys))) Q
  | _=>False
 | _=>False
def fP(ho:QPE X K o to qo)(he:QPE X K e te qe)(hK:X.K=K:=by rfl)(cq:attributeBase o "join" X.env (eval o X.env)=eval o X.env:=by rfl)
  (iy:((backTo aM (iS [e] X.env)).all (λx=>!x.1)&&(backToKw aM (keywordEach [] X.env)).all (λx=>x.1.isSome)
   && decide (([e]:List Expr).length+([]:List Keyword).length+(if([]:List Keyword).isEmpty then 0 else 1)<30))=true:=by rfl)
  (cp:(apos.endLine==aM.line)=true:=by rfl) (hs:iS [e] X.env =(ϊ,eval e X.env)::iS [] X.env:=by rfl) (cn:(backTo aM (iS [] X.env)).any (·.1)=false:=by rfl) :
  QPF X K (.Call (.Attribute o "join" apos) [e] [] aM) (tBM K "str" (rJoin K) to (cw te fY)) (PK qo qe):=(by
 subst hK;exact tF PySem.F.plainAttrs_str PySem.F.slot_str_join PySem.F.type_str_join Kw ho.h (bj he.h eT hs) cq iy cp hs cn,λdl H σ q Q R rd g k=>ho.s dl H σ q _ _ rd g λv t F H1 P r1 g=>by
  split at g
  ·let(U,_):=r1.r.str;refine(U,he.s dl H1 σ q _ _ (rd.evo P) g λw u F2 H2 e2 V g=>?_)
   split at g
   ·let(ys,hy,hz,g):=g;let(p,vs,G,U,eF,h1,h2):=V.r.lst;have ev:=h2.txs hy;subst ev;exact(_,p,ys,U,U,SqL.of h1,hz,k _ _ [] H2 (P.trans e2) (.c (.s _)) (λ_ z=>nomatch z) kr g)
   ·exact g.elim
  ·exact g.elim)
end
def zN(vs ws:List V):Bool:=vs.length==ws.length&&(Tp vs.length).all λj=>match vs[j]?,ws[j]? with|some x,Z y=>eqV x y | _,_=>ϊ
variable{its:List B}
section
variable{X:Cx}{K:W.Frag}
def Vals.at'{vs:List V}(r:Vals vs its)(h:j<its.toArray.size):∃ v,vs[j]? = Z v/\RelV v its.toArray[j]:=by
 have hl:=r.length;have g:=by simpa using h
 have hv:j<vs.length:=by lia
 let(u,h1,h2):=r.get (i:=j) (x:=vs[j]) (by simp[hv])
 have:its[j]? = Z its[j]:=by simp[g]
 rw[this]at h1;cases h1;exact(vs[j],by simp[hv],by simpa using h2)
def sk{vs:List V}{v:V}(h:vs.all iM=O)(e:vs[j]? = Z v):iM v=true:=z7.mp h v (u3 e)
inductive Pu(K:W.Frag)(x:V)(y:V)(H:Hp)(Q:VK):Prop
 | mk(p q vs ws:_)(h1:x = .ref p)(h2:y = .ref q)(h3:((SqL K H p vs/\SqL K H q ws)\/(SqT K H p vs/\SqT K H q ws)))(h4:vs.all iM=O)(h5:ws.all iM=O)(h6:Q (.bl (zN vs ws)) H)
def Nx(hu:X.A.units+1<cLine):OpR X (compareOp .Eq) (Pu X.K):=by
 intro gd s σ H x y v u Q I rx ry h;let(p,q,vs,ws,U,U,hs,f1,f2,k):=h;cases rx;cases ry;rcases hs with⟨h1,h2⟩ |⟨h1,h2⟩
 ·let(its,z,p1,_):=I.list h1;let(iw,g,p2,_):=I.list h2;have l1:=z.length;have l2:=g.length;by_cases hl:its.length=iw.length
  ·refine SeqAt.eq_listAt (e:=λj=>match vs[j]?,ws[j]? with|some x,Z y=>eqV x y | _,_=>ϊ) p1.isList p2.isList (by simpa using hl) (by omega) (λj g1 g2=>?_) (.bl _,H,I,U,?_)
   ·let(a,V,ra):=z.at' g1;let(b,P,rb):=g.at' g2;simp only[V,P];exact Bu ra rb (sk f1 V) (sk f2 P)
   ·have e:zN vs ws =(Tp its.toArray.size).all λj=>match vs[j]?,ws[j]? with|some x,Z y=>eqV x y | _,_=>false:=by
     unfold zN;rw[show(vs.length==ws.length)=O from by simp;lia,TB,qi,l1]
    rw[<- e];exact k
  ·refine SeqAt.eq_list_lengthsAt p1.isList p2.isList (by simpa using hl) (by omega) (.bl _,H,I,U,?_)
   have e:zN vs ws=false:=by
    unfold zN;rw[show(vs.length==ws.length)=ϊ from by simp;lia,Ue]
   rw[<- e];exact k
 ·let(its,z,p1,_):=I.tuple h1;let(iw,g,p2,_):=I.tuple h2;have l1:=z.length;have l2:=g.length;refine SeqAt.eq_tupleAt (e:=λj=>match vs[j]?,ws[j]? with|some x,Z y=>eqV x y | _,_=>ϊ) (p1) (p2) (by omega) (λj g1 g2=>?_) (.bl _,H,I,U,?_)
  ·let(a,V,ra):=z.at' g1;let(b,P,rb):=g.at' g2;simp only[V,P];exact Bu ra rb (sk f1 V) (sk f2 P)
  ·have e:zN vs ws =((Tp (min its.toArray.size iw.toArray.size)).all (λj=>match vs[j]?,ws[j]? with|some x,Z y=>eqV x y | _,_=>ϊ)&&its.toArray.size==iw.toArray.size):=by
    unfold zN;rw[qi,qi,<- l1,<- l2,Bool.and_comm];by_cases hl:vs.length=ws.length
    ·rw[hl,Nat.min_self]
    ·rw[show(vs.length==ws.length)=ϊ from by simpa using hl,Uc,Uc]
   rw[<- e];exact k
def eqF(xs ys:List T):Bool:=zN (xs.map T.v) (ys.map T.v)
def JM:Q2:=λt u Q=>match t,u with
 | .l xs,.l ys=>(fls xs&&fls ys)=O/\Q (.b (eqF xs ys))
 | .t xs,.t ys=>(fls xs&&fls ys)=O/\Q (.b (eqF xs ys))
 | t,u=>qEq t u Q
def MB(K:W.Frag):R2:=λx y H Q=>rEq x y H Q\/Pu K x y H Q
def mz(g:X.A.units+1<cLine)(q:X.K=K):OpR X (compareOp .Eq) (MB K):=by subst q;exact LM.or (Nx g)
def jq:gf K (MB K) JM:=by
 intro dl H x y t u F G Q R D V P g k;unfold JM at g
 split at g
 ·let(p,vs,G1,U,U,h1,h2):=V.r.lst;let(p',q,G2,U,U,h3,h4):=P.r.lst;let(f,g):=g;rw[qp]at f;let(U,U):=h2.vs f.1;let(U,U):=h4.vs f.2;exact .inr (p,p',_,_,U,U,.inl (SqL.of h1,SqL.of h3),t9 f.1,t9 f.2,k _ _ [] H (.refl D) (.c (.b _)) (λ_ z=>nomatch z) kr g)
 ·let(p,vs,U,h1,h2):=V.r.tup;let(p',q,U,h3,h4):=P.r.tup;let(f,g):=g;rw[qp]at f;let(U,U):=h2.vs f.1;let(U,U):=h4.vs f.2;exact .inr (p,p',_,_,U,U,.inr (SqT.of h1,SqT.of h3),t9 f.1,t9 f.2,k _ _ [] H (.refl D) (.c (.b _)) (λ_ z=>nomatch z) kr g)
 ·exact .inl (Mx dl H x y t u F G Q R D V P g k)
end
end L2
namespace PySem
open Sem (wp)
end PySem
namespace PySem
open Sem (wp)
namespace F
end F
end PySem
namespace PySem
open Sem (wp)
end PySem
namespace L2
open PySem PySem.Spec PyProof.Rows
variable{i:Nat}{j:Nat}{x:Str}{py:Pos}{P:Program}{mg:Str->Option B}{base:Heap}{fd:FuncData}{ps:List Str}
section
variable{X:Cx}{K:W.Frag}{a b:Expr}{ta tb:TE}{qa qb:QE}{pos:Pos}
def MG{y:Str}{q pt:Pos}{kt k2 g}(hc:X.calm=O)(hN:X.N.Nodup)(hi:X.N[i]? = Z x)(V:X.N[j]? = Z y)(z:i≠j)
  (hx:X.env.scope.names.lookup x=Z .local) (Q:X.env.scope.names.lookup y=Z .local) (ha:QPE X K a ta qa) (P:QPE X K b tb qb)
  (hw:swappedStores [.Tuple [.Name x q,.Name y py] kt pt] (.Tuple [a,b] k2 g) X.env=pure (Z [x,y]))
  (hs:swapsWithSole [.Tuple [.Name x q,.Name y py] kt pt] (.Tuple [a,b] k2 g) pos.line X.env=pure false:=by rfl)
  (h1:iS [a,b] X.env =(ϊ,eval a X.env)::iS [b] X.env:=by rfl) (h2:iS [b] X.env =(ϊ,eval b X.env)::iS [] X.env:=by rfl) :
  QPS X K (.Assign [.Tuple [.Name x q,.Name y py] kt pt] (.Tuple [a,b] k2 g) pos) (Mj i j (cw ta (cw tb fY))) (PH i j qa qb) :=
 (M0 hc hN hi V z hx Q (bj ha.h (bj P.h eT h2) h1) hw hs,Jn ha.s P.s)
def Ni:PSp:=λts Q=>on2 ts λt u=>match t with
 | .jS=>match u with | .i m=>0<m/\m<18446744073709551616/\∀ r,0<=r->r<m->Q (.i r) | _=>False
 | _=>False
theorem mJ{w:World}{K:W.Frag}{k:Nat}{f:J}(F:aR P w K mg base CX0 k f fd ps Fo):aR P w K mg base CX0 k f fd ps (spQ K Ni):=by
 refine F.imp λvs H Q E h=>?_
 let(dl,ts,Fp,Qp,D,r,h,fin):=h
 replace h:=on2.inv h
 let(t,u,U,h):=h
 split at h
 ·split at h
  ·let(v,w',F1,F2,U,r1,r2):=r.two;let(a,l,U,hm,_):=r1.r.dea;let(U,_):=r2.r.int;refine(a,l,_,U,D _ hm,h.1,h.2.1,λr H' r0 ah D' q=>fin _ _ [] H' (λb o e n _=>q b o e (n _ hm).1 (n _ hm).2,λp hp=>?_,λb x e=>(x,Tf _,by
    let(s2,n2,l2,Q2):=D _ hm;exact q b _ e (fR e Q2.hd (λz=>nomatch z)) (fR e Q2.hl (λz=>nomatch z)))) (.c (.i _)) (λ_ z=>nomatch z) kr (h.2.2 r r0 ah))
   by_cases e:p =(a,l)
   ·rw[e];exact D'
   ·let(s1,n1,l1,Q1):=D p hp;let(s2,n2,l2,Q2):=D _ hm;let(s3,n3,l3,Q3):=D';have pa:p.1≠a:=λz=>by
     have z1:=Q1.hd;have z2:=Q2.hd;rw[z]at z1;rw[z1]at z2;have z3:=by injection (Option.some.inj z2)
     have z4:=congrArg (λkv=>mT kv (.inr "left")) z3
     exact e (Prod.ext z (V.ref.inj (Option.some.inj z4)))
    have pl:=fR Q1.hd Q2.hl (λz=>nomatch z)
    have ai:=fR Q1.hl Q2.hd (λz=>nomatch z)
    by_cases g:p.2=l
    ·exact(s1,n1,l3,q _ _ Q1.hd pa pl,by rw[g];exact Q3.hl,Q1.s0,Q1.s1,Q1.n0,Q3.l0)
    ·exact(s1,n1,l1,q _ _ Q1.hd pa pl,q _ _ Q1.hl ai g,Q1.s0,Q1.s1,Q1.n0,Q1.l0)
  ·exact h.elim
 ·exact h.elim
end
section
variable{K:W.Frag}{e:Expr}
theorem au.set{dl:Dl}{H:Hp}{w:V}{t:T}(hw:aJ K dl H w t []):∀{vs:List V}{xs:List T}{F:List J}(j:Nat),au K dl H vs xs F->F = []->au K dl H (vs.set j w) (xs.set j t) []
 | _,_,_,_,.nil,_=>.nil
 | _,_,_,0,.cons h r,e=>by
  let(q,g):=Pg.mp e;subst q g;exact .cons hw r
 | _,_,_,j+1,.cons h r,e=>by
  let(q,g):=Pg.mp e;subst q g;exact .cons h (au.set hw j r U)
end
section
def IZ(xs ys:List T):List T:=(xs.zip ys).map λp=>.t [p.1,p.2]
end
variable{H2:Hp}
section
variable{X:Cx}{K:W.Frag}{e a b:Expr}{tl:TA}{ql:QA}{pos p gF p2:Pos}{dl:Dl}
def yD(ql:QA):QE:=λq Q=>ql q λts=>on2 ts λt u=>match t with | .t xs=>(match u with | .t ys=>T.ims xs=O/\T.ims ys=O/\Q (.l (IZ xs ys)) | _=>False) | _=>False
def DL{vs:List V}{xs:List T}{F:List J}(h:au K dl H2 vs xs F):F = []->∀{ws:List V}{ys:List T}{G:List J},au K dl H2 ws ys G->G = []->∀{ps:List J},ps.length=min vs.length ws.length ->
  (∀(j:Nat) p x y,ps[j]? = Z p->vs[j]? = Z x->ws[j]? = Z y->H2 p=Z (.tup [x,y]))->au K dl H2 (ps.map V.ref) (IZ xs ys) [] :=
 h.ind (λ_ _ _ _ _ _ ps hl _=>by
   have e:=Co.mp (by rw[hl];exact Nat.zero_min _)
   subst e;exact .nil) λv x vs xs F G h _ g e ws ys G' h' e' ps hl hp=>by
  let(Q,P):=Pg.mp e;subst Q;cases h' with
  | nil =>
   have e:=Co.mp (by rw[hl];exact Nat.min_zero _)
   subst e;exact .nil
  | cons h' r' =>
   let(z,q):=Pg.mp e';subst z;cases ps with
   | nil=>simp at hl
   | cons p ps =>
    exact au.cons (.t (hp 0 p _ _ U U U) (au.cons h (au.cons h' .nil))) (g P r' q (by simp at hl;omega) λj p x y h1 h2 h3=>hp (j+1) p x y h1 h2 h3)
def yl(ha:vd K 2 tl ql):lQ K (sG K tl) (yD ql):=by
 intro dl H σ q Q R rd hq k;refine ha dl H σ q _ _ rd hq λvs ts F H1 V r1 _ g=>?_
 replace g:=on2.inv g
 let(t,u,U,g):=g
 split at g
 ·split at g
  ·let(v,w,F1,F2,U,ai,ah):=r1.two;let(l1,ak,U,h1,h2):=ai.r.tup;let(l2,aj,U,h3,h4):=ah.r.tup;let(i1,i2,g):=g;obtain rfl:=h2.im i1;obtain rfl:=h4.im i2;refine(l1,l2,ak,aj,U,SqT.of h1,SqT.of h3,λH2 L ps hL hl hn hf hk ax hp=>?_)
   have P:∀ b o,H1 b=Z o->H2 b=Z o:=λb o e=>by
    rw[hk b (λz=>by rw[(hf b z).1]at e;cases e) (λz=>by rw[z,hL]at e;cases e)]
    exact e
   have ev:Evo dl H1 H2:=(λb o e _ _=>P b o e,λp hp=>(by
    let(s,n,ls,D):=V.d p hp;exact(s,n,ls,P _ _ D.hd,P _ _ D.hl,D.s0,D.s1,D.n0,D.l0)),λb x e=>(x,Tf _,P _ _ e))
   let(_,Te,z1,b1,c1):=(ai.evo V.d ev).r.tup;cases z1;rw[P _ _ h1]at b1;cases b1;let(_,Td,z2,b2,c2):=(ah.evo V.d ev).r.tup;cases z2;rw[P _ _ h3]at b2;cases b2;exact k _ _ [L] H2 (V.trans ev) (.l ax (DL c1 U c2 U hl hp),λb hb=>by rw[bB.mp hb];exact V.d.nd0 hL) (λb hb=>by rw[bB.mp hb];exact V.free hL) (by simp) g
  ·exact g.elim
 ·exact g.elim
def AL(V:X.K=K)(hg:Gl X "list")(hm:X.mg "list" = Y)(P:Gl X "zip")(z:X.mg "zip" = Y)(ha:QPA X K [a,b] tl ql)
  (hs:iS [a,b] X.env = [(ϊ,eval a X.env),(ϊ,eval b X.env)]:=by rfl) (q:iS [b] X.env = [(ϊ,eval b X.env)]:=by rfl)
  (g:iS [.Call (.Name "zip" p2) [a,b] [] gF] X.env =(ϊ,eval (.Call (.Name "zip" p2) [a,b] [] gF) X.env)::iS [] X.env:=by rfl) (Q:X.calm=true:=by rfl) :
  QPF X K (.Call (.Name "list" p) [.Call (.Name "zip" p2) [a,b] [] gF] [] pos) (sG K tl) (yD ql):=(by subst V;exact AY hg hm P z ha.h hs q g Q,yl ha.s)
end
inductive sL(K:W.Frag)(vs:List V)(H:Hp)(Q:VK)(_:XK):Prop
 | mk(a:J)(ns:List Int)(h1:vs = [.ref a])(h2:FzL K H a (ns.map V.int))(h3:ns.length<=63)(h4:∀ H',Q (.bl O) H')
variable{H:Hp}{a:J}
theorem Rk{K:W.Frag}{xs:List V}(h:Lo H)(g:SqL K H a xs):FzL K H a xs:=by
 rcases g with(z |⟨o,z⟩)|z
 ·rcases h a with e |⟨o,ys,e⟩
  ·rw[e]at z;cases z
  ·rw[e]at z;cases z
 ·exact .inl (o,z)
 ·exact .inr z
variable{H':Hp}
theorem FzL.same{K:W.Frag}{xs:List V}(h:FzL K H a xs)(s:mR H H'):FzL K H' a xs:=by
 rcases h with⟨o,z⟩|z
 ·exact .inl (o,s _ _ z)
 ·exact .inr z
variable{qual:Str}{st:Stmt}{N:List Str}{n:Nat}
theorem Fun.Sx{w:World}{K:W.Frag}{f:J}{k:Nat}{s1:Stmt}{rest:List Stmt}(F:Fun K x qual st f fd)(S:aE N ["_law_script"] (aq st))(hN:N.length=n+2)(g:cc st=s1::rest)
  (iz:∀(cdv:B)(A:Around)(outer:List Env)(s:ϋ)(H:Hp)(E:XK),bM k (A.deeper (envOfC qual (aq st) s.heap.objs.size f cdv)) ->
   ∃ t1 t qs,PS (mK CX0 P w K mg base N qual (aq st) f cdv A outer s H E).nox s1 t1/\rP (mK CX0 P w K mg base N qual (aq st) f cdv A outer s H E).nox K rest t qs /\
    (∀(a:J)(ns:List Int)(D:Ends),SqL K H a (ns.map V.int)->ns.length<=63 ->(∀(d l:J)(H':Hp),H d=Y->H l=Y->oK H' d l->mR H H'->D.nx ([Z (.ref a),Z (.ref d)]++uA n Y) H')->t1 D ([Z (.ref a),Y]++uA n Y) H) /\
    ∀ ns:List Int,ns.length<=63->qs { nx:=λ_=>False,rt:=λt=>t = .b O } ([.r (.z ns),.r .jS]++uA n .no)):aR P w K mg base CX0 (k+1) f fd ["_law_script"] (sL K):=by
 refine F.ok S (λvs H Q E h=>?_) (λcdv A outer s H vs Q E hr h=>?_)
 ·let(a,ns,U,_):=h;rfl
 ·let(a,ns,U,hS,hlen,k):=h;let(t1,t,qs,h1,q,r1,hq):=iz cdv A outer s H E hr;rw[g];refine(_,cV h1 q.h,?_);have es:start N [V.ref a] = [Z (.ref a),Y]++uA n none:=by
   unfold start;rw[hN];rfl
  rw[es];refine r1 a ns _ hS.sq hlen λd l H' hd hl D1 sm=>?_
  have Dq:Dls [(d,l)] H':=λp hp=>by rw[bB.mp hp];exact D1
  have rp:Rps K [(d,l)] H' [.ref a,.ref d] [.z ns,.jS] ([]++([] ++ [])):=(.cons (.z (hS.same sm)) (.cons (.x (l:=l) (bB.mpr U)) .nil),λ_ z=>nomatch z)
  have R:=ph (n:=n+2) Dq rp (by simp)
  refine q.s [(d,l)] H' [] H' _ _ _ _ R (hq ns hlen) (λ_ _ _ _ z=>z.elim,λ_ _ _ _ z=>z.elim,λ_ _ _ _ z=>z.elim,λv t F H2 _ r' _ _ _ hz=>?_,λ_ _ _ _ _ _ _ _ _ _ _ _ z=>z.elim)
  subst hz;let(U,_):=r'.r.bl;exact k H2
variable{elts:List Expr}{pos':Pos}{tp:Bool}
section
variable{X:Cx}{K:W.Frag}{dl:Dl}
def nV(xs:List T):List T:=xs.zipIdx.map λp=>.t [.i (p.2:Nat),p.1]
def nU{xs:List T}{z:T}(h:(nV xs)[i]? = Z z):∃ x,xs[i]? = Z x/\z = .t [.i (i:Nat),x]:=by
 unfold nV at h;rw[qx]at h;let(p,hp,U):=j3.mp h;rw[List.getElem?_zipIdx]at hp;let(x,hx,U):=j3.mp hp;exact(x,hx,by simp)
def hZ{xs:List T}:(nV xs).length=xs.length:=by simp[nV]
def KP{xs:List T}:ve K dl (Ite K O a) (nV xs) [(.ref a,.t xs)] where
 go:=λH i D h hi=>by
  let(F,r):=h (.ref a,.t xs) (by simp)
  let(p,vs,e,h1,h2):=r.r.tup;cases e;rw[hZ]at hi;have l1:i<vs.length:=by rw[h2.len];omega
  exact(vs,vs[i],SqT.of h1,by simp[l1])
 yld:=λH i x fp v H' D h hx y=>by
  have r:=h (.ref a,.t xs) (by simp)
  let(p,vs,e,h1,h2):=r.r.tup;cases e;let(x1,ah,U):=nU hx;let(w1,G1,ai,V,g):=h2.get ah;let(q,u1,hq,U,U,Q):=y;have e1:=Q vs (SqT.of h1);rw[ai]at e1;cases e1;have rs:Rps K dl H [.int (i),w1] [.i (i),x1] ([]++(G1 ++ [])):=Rps.cons (.i _,λ_ z=>nomatch z) (Rps.cons (V,λb P=>r.n b (g b P)) (.nil,λ_ z=>nomatch z))
  refine((Evo.refl D).new hq,_,rs.tup D hq,λc P=>.inr ?_)
  rw[ko]at P;exact(_,by simp,g c P)
 stop:=λH D h=>by
  let(F,r):=h (.ref a,.t xs) (by simp)
  let(p,vs,e,h1,h2):=r.r.tup;cases e;exact(vs,SqT.of h1,by rw[hZ,h2.len];exact lx _)
variable{e a:Expr}{ta:TE}{pos p:Pos}
def yH{g}{ta:TA}(z:X.K=K)(hg:Gl X "enumerate")(hm:X.mg "enumerate" = Y)(q:bootBuiltins "enumerate" = Z (.type "enumerate"))(ha:PA X [a] ta)(hs:iS [a] X.env = [(ϊ,eval a X.env)]) :
  PI X (.Tuple elts g pos') (.Call (.Name "enumerate" p) [a] [] pos) (Cz K tp ta):=by subst z;exact J5 hg hm q ha hs
def au.snoc{v:V}{t:T}(hv:aJ K dl H v t []){vs:List V}{ts:List T}{F:List J}(h:au K dl H vs ts F):F = []->au K dl H (vs ++ [v]) (ts ++ [t]) [] :=
 h.ind (λ_=>.cons hv .nil) λ_ _ _ _ _ _ h _ g e=>by
  let(z,q):=Pg.mp e;subst z;exact .cons h (g q)
def au.rev{vs:List V}{ts:List T}{F:List J}(h:au K dl H vs ts F):F = []->au K dl H vs.reverse ts.reverse [] :=
 h.ind (λ_=>.nil) λ_ _ _ _ _ _ h _ g e=>by
  let(z,q):=Pg.mp e;subst z;rw[Ub,Ub];exact au.snoc h (g q) U
end
variable{d:J}
section
variable{a:Expr}
def oK.oth{l a:J}{o:HO}(D:oK H d l)(h1:a≠d)(h2:a≠l):oK (upd H a o) d l:=by
 let(s,n,ls,Q):=D;exact(s,n,ls,by rw[ao h1.symm];exact Q.hd,by rw[ao h2.symm];exact Q.hl,Q.s0,Q.s1,Q.n0,Q.l0)
end
variable{dl:Dl}{o1:HO}{o2:HO}
section
def HK(D:Dls dl H)(ha:H a=Y)(hd:H d=Y)(ne:d≠a):Evo dl H (upd (upd H d o1) a o2):=((Evo.refl D).new hd).new (by rw[ao (Ne.symm ne)];exact ha)
end
abbrev QW:=J->List Str->List T->Prop
abbrev QSX:=(Sq->QW)->QS
def XOk(K:PySem.W.Frag)(dl:Dl)(H₀:Hp)(hs:List (V×T))(W:Sq->QW)(Es:St->XK):Prop:=∀ H σ q a C ns us,c7 K dl H₀ hs H σ q->Rp K dl H (.ref a) (.xc C ns us) []->W q C ns us->Es σ (.ref C) (Z a) H
def Ir(K:PySem.W.Frag)(ts:(St->XK)->TS)(qs:QSX):Prop:=∀(dl:Dl)(H₀:Hp)(hs:List (V×T))(H:Hp)(σ:St)(q:Sq)(Dq:fX)(D:Ends)(W:Sq->QW)(Es:St->XK),c7 K dl H₀ hs H σ q->qs W Dq q->IG K dl H₀ hs Dq D->XOk K dl H₀ hs W Es->ts Es D σ H
structure mS(X:Cx)(K:W.Frag)(st:Stmt)(ts:(St->XK)->TS)(qs:QSX):Prop where
 h:∀ Es,gY (CX1 X.prog X.w) X Es->sy X Es->PS X st (ts Es)
 s:Ir K ts qs
structure jZ(X:Cx)(K:W.Frag)(st:List Stmt)(ts:(St->XK)->TS)(qs:QSX):Prop where
 h:∀ Es,gY (CX1 X.prog X.w) X Es->sy X Es->PSs X st (ts Es)
 s:Ir K ts qs
variable{H₀:Hp}{q:Sq}{ini:Option J}
section
variable{X:Cx}{K:W.Frag}{rest sa sb:List Stmt}{e c:Expr}{es:List Expr}{pos p aM:Pos}{tc:TT}{qc:QT}{t:TS}{qt:QS}{ts us:(St->XK)->TS}{qs qr:QSX}{tl:TA}{ql:QA}
def aY(h:QPS X K st t qt):mS X K st (λ_=>t) (λ_=>qt):=(λ_ _ _=>h.h,λdl H₀ hs H σ q Dq D _ _ r g E _=>h.s dl H₀ hs H σ q Dq D r g E)
def d8(h:rP X K rest t qt):jZ X K rest (λ_=>t) (λ_=>qt):=(λ_ _ _=>h.h,λdl H₀ hs H σ q Dq D _ _ r g E _=>h.s dl H₀ hs H σ q Dq D r g E)
def aI(h:mS X K st ts qs):jZ X K [st] ts qs:=(λEs a b=>iI (h.h Es a b),h.s)
def ag(h1:mS X K st ts qs)(h2:jZ X K rest us qr):jZ X K (st::rest) (λEs=>Mi (ts Es) (us Es)) (λW D q=>qs W { D with nx:=λq'=>qr W D q' } q) :=
 (λEs a b=>cV (h1.h Es a b) (h2.h Es a b),λdl H₀ hs H σ q Dq D W Es r z E x=>h1.s dl H₀ hs H σ q _ _ W Es r z (λH σ q r' g=>h2.s dl H₀ hs H σ q _ _ W Es r' g E x,E.bk,E.ct,E.rt,E.ru) x)
theorem fO(z:QPT X K c tc qc)(ha:jZ X K sa ts qs)(P:jZ X K sb us qr):mS X K (.If c sa sb pos) (λEs=>Jg tc (ts Es) (us Es)) (λW D q=>qc q λb=>if b=O then qs W D q else qr W D q) :=
 (λEs a b=>Cd z.h (ha.h Es a b) (P.h Es a b),λdl H₀ hs H σ q Dq D W Es (F,r) V E x=>z.s dl H σ q _ _ r.rd V λb H' Q g=>by
  cases b with
  | true=>exact ha.s dl H₀ hs H' σ q Dq D W Es (F,r.evo Q) g E x
  | false=>exact P.s dl H₀ hs H' σ q Dq D W Es (F,r.evo Q) g E x)
def XOk.at{hs:List (V×T)}{W:Sq->QW}{Es:St->XK}{σ:St}{F:Nat->List J}(x:XOk K dl H₀ hs W Es)(r:Rel K dl H₀ hs H σ q F):∀ a C ns us H',Evo dl H H'->Rp K dl H' (.ref a) (.xc C ns us) []->W q C ns us->Es σ (.ref C) (Z a) H' :=
 λa C ns us H' z g hw=>x H' σ q a C ns us (F,r.evo z) g hw
variable{C fa:J}{fn fsN:List Str}{bm:List B}{k:Nat}
def RT{o o':HO}:upd (upd H a o) a o'=upd H a o':=by
 funext b
 by_cases h:b=a
 ·rw[h,aB,aB]
 ·rw[ao h,ao h,ao h]
def Ak(M:pZ K fn C bm ini)(h:vd K n tl ql):Ir K (λEs=>Ah K fn Es (Aj C fsN tl)) (λW _ q=>ql q λts=>T.ims ts=O/\ts.length=fsN.length/\ts.length<=1000/\W q C fsN ts):=by
 intro dl H₀ hs H σ q Dq D W Es ⟨F,r⟩ hq E x;refine h dl H σ q _ _ r.rd hq λvs ts F1 H1 P g _ hz=>?_
 let(z1,z2,V,Q):=hz;have f:=g.r.im z1;subst f;have hl:=g.r.len;refine(hl.trans z2,by rw[hl];exact V,λa d ha hd ne=>(a,C,bm,ini,Z d,U,M,aB,?_))
 rw[RT];have ev:=HK (o1:=.ext (XD d (fsN.zip vs))) (o2:=.ext (XAt a C (Z d) ϊ)) P.d ha hd ne;have r2:=g.evo P.d ev;exact x.at r a C fsN ts _ (P.trans ev) (.e (.inr (d,ne,aB,by rw[ao ne,aB])) r2.r,λ_ z=>nomatch z) Q
theorem hJ(hK:X.K=K)(Q:X.calm=O)(M:pZ K fn C bm (Z fa))(z:W.isFn K (.ref fa)=O)(kp:W.keepIn K (.ref C)=O)(F:aR X.prog X.w X.K X.mg X.base CX0 k fa fd ps (yi C fsN))(hr:bM (k+1) X.A)(hg:Gl X x)(hm:X.mg x=Z (.ref C))(V:Binds X.K fd ps [])
  (ha:QPA X K (e::es) tl ql) (P:(x ==("__debug__":Str))=false:=by decide) (he:iS (e::es) X.env =(ϊ,eval e X.env)::iS es X.env:=by rfl) (g:(backTo aM (iS es X.env)).any (·.1)=false:=by rfl) :
  mS X K (.Raise (Z (.Call (.Name x p) (e::es) [] aM)) Y pos) (λEs=>Ah K fn Es (Aj C fsN tl)) (λW _ q=>ql q λts=>T.ims ts=O/\ts.length=fsN.length/\ts.length<=1000/\W q C fsN ts):=by
 subst hK;exact(λEs _ b=>GG Q b (GP M z kp F hr hg hm V ha.h P he g),Ak M ha.s)
end
abbrev BF:=List T ->(T->Prop)->QW->Prop
inductive Ji(K:W.Frag)(ps:BF)(vs:List V)(H:Hp)(Q:VK)(E:XK):Prop
 | mk(dl:Dl)(ts:List T)(F:List J)(Qp:T->Prop)(Wp:QW)(h1:Dls dl H)(h2:Rps K dl H vs ts F)(h3:ps ts Qp Wp)(h4:(∀ v t F' H',Evo dl H H'->Rp K dl H' v t F' ->(∀ b∈F',H b=Y)->F'.Nodup->Qp t->Q v H'))(h5:∀ a C ns us H',Evo dl H H'->Rp K dl H' (.ref a) (.xc C ns us) []->Wp C ns us->E (.ref C) (Z a) H')
theorem Fun.Qe{w:World}{K:PySem.W.Frag}{f:J}{k:Nat}{g:BF}(F:Fun K x qual st f fd)(S:aE N ps (aq st))(len:∀ ts Q W,g ts Q W->ts.length=ps.length)
  (iz:∀(cdv:B)(A:Around)(outer:List Env)(s:ϋ)(H:Hp)(E:XK),bM k (A.deeper (envOfC qual (aq st) s.heap.objs.size f cdv)) ->
   ∃ t qs,jZ (mK (CX1 P w) P w K mg base N qual (aq st) f cdv A outer s H E) K (cc st) t qs/\∀ ts Q W,g ts Q W->qs (λ_=>W) { nx:=λ_=>Q .n,rt:=Q } (ts.map Sl.r++uA (N.length - ts.length) .no)):aR P w K mg base (CX1 P w) (k+1) f fd ps (Ji K g):=by
 have ah:ps.length<=N.length:=by have:=congrArg Ua S.pre;rw[BJ]at this;omega
 refine F.okX S (λvs H Q E h=>?_) (λcdv A outer s H vs Q E hr h=>?_)
 ·let(dl,ts,F,Qp,Wp,_,r,h,_):=h;rw[r.r.len];exact len ts Qp Wp h
 ·let(dl,ts,Fp,Qp,Wp,D,r,h,fin,fix):=h;let(t,qs,hb,hq):=iz cdv A outer s H E hr;refine(t λ_=>E,hb.h _ tG sT,?_)
  have hlen:=len ts Qp Wp h;have hl:=r.r.len;have z:=hq ts Qp Wp h;have R:=ph (n:=N.length) D r (by omega)
  rw[<- hl]at z;refine hb.s dl H [] H _ _ _ _ _ _ R z (λH' σ q (F,r') V=>?_,λ_ _ _ _ V=>V.elim,λ_ _ _ _ V=>V.elim,λv t F H' D' r' f' n' fr V=>?_,λ_ _ _ _ _ _ _ _ _ _ _ _ z=>z.elim) λH' σ q a C ns us (F,r') rp hw=>?_
  ·exact fin .non .n [] H' (r'.f.evo r'.d) (.n,λ_ z=>nomatch z) (λ_ z=>nomatch z) kr V
  ·exact fin v t F H' (fr.evo D') r' f' n' V
  ·exact fix a C ns us H' (r'.f.evo r'.d) rp hw
section
variable{X:Cx}{K:W.Frag}{a b:Expr}{ta tb:TE}{qa qb:QE}{pos:Pos}
def Sb(qa qb:QE):QE:=λq Q=>qa q λt=>qb q λu=>match t,u with
 | .l xs,.i k=>Ex2 (λx=>atI xs k=Z x) Q
 | _,_=>False
def gD(ha:QPF X K a ta qa)(hb:QPE X K b tb qb)(hs:oB b:=by intro _ _;rfl)(hK:X.K=K:=by rfl):QPF X K (.Subscript a b pos) (tOp (rIx K) ta tb) (Sb qa qb):=by
 refine(by subst hK;exact Cj xg ha.h hb.h hs,λdl H σ q Q R rd hq k=>(ha.s dl H σ q _ _ rd hq λv t F H1 e1 P f1 n1 V=>(hb.s dl H1 σ q _ _ (rd.evo e1) V λw u G H2 e2 r2 g=>?_)))
 have P:=P.evo e1.d e2
 split at g
 ·let(U,U):=r2.r.int;let(p,vs,G,U,U,h1,h2):=P.r.lst;let(z,hz,hq):=g;let(j,hj,hi):=oy hz h2.len.symm;let(v,G',hv,rv,hs):=h2.Ow hj;have sub:∀ c∈G',c∈p::G:=λc hc=>c5 _ (hs.subset hc)
  exact .inl (p,vs,_,v,U,U,SqL.of h1,mM hi hv,k v z G' H2 (e1.trans e2) (Rp.sub rv P.n sub) (λc hc=>f1 c (sub c hc)) ((rX.mp n1).2.sublist hs) hq)
 ·exact g.elim
end
variable{p1:Pos}{p2:Pos}{gF:Pos}
section
variable{X:Cx}{K:W.Frag}{a e:Expr}{te:TE}{qe:QE}{tl:TA}{ql:QA}{pos p:Pos}
def RD(ql:QA):QJ:=λq Q=>ql q λts=>match ts with | [.t xs]=>T.ims xs=O/\Q (nV xs) q | _=>False
def JE{x1}(hg:Gl X "enumerate")(hm:X.mg "enumerate" = Y)(tZ:bootBuiltins "enumerate" = Z (.type "enumerate"))(ha:QPA X K [a] tl ql)(hs:iS [a] X.env = [(ϊ,eval a X.env)]:=by rfl)(hK:X.K=K:=by rfl) :
  QPJ X K (.Tuple elts x1 pos') (.Call (.Name "enumerate" p) [a] [] pos) (Cz K O tl) (RD ql):=(yH hK hg hm tZ ha.h hs,λdl H₀ hs H σ q Q R (F0,r0) hq k=>ha.s dl H σ q _ _ r0.rd hq λvs ts F H' e1 r _ g=>by
 split at g
 ·let(i1,g):=g;let(v,U,V):=r.one;obtain rfl:=V.r.im i1;have q1:=(r0.evo e1).hold V λj u hj b hb z=>nomatch z
  let(l1,P,U,h1,h2):=V.r.tup;exact(l1,U,(P,SqT.of h1),k _ _ _ H' q (F0,q1) KP g)
 ·exact g.elim)
def MP(qe:QE):QE:=λq Q=>qe q λt=>match t with | .l xs=>T.ims xs=O/\Q (.l xs.reverse) | _=>False
def yK(hK:X.K=K)(hc:X.calm=O)(V:Gl X "list")(P:X.mg "list" = Y)(Q:Gl X "reversed")(z:X.mg "reversed" = Y)(he:PE X e te)
  (q:iS [e] X.env = [(ϊ,eval e X.env)]) (g:iS [.Call (.Name "reversed" p2) [e] [] gF] X.env = [(ϊ,eval (.Call (.Name "reversed" p2) [e] [] gF) X.env)]) :
  PE X (.Call (.Name "list" p1) [.Call (.Name "reversed" p2) [e] [] gF] [] pos) (sH K te):=by subst hK;exact tw hc V P Q z he q g
def yA{p1 p2 gF:Pos}(hc:X.calm=O)(ak:Gl X "list")(ai:X.mg "list" = Y)(aj:Gl X "reversed")(ah:X.mg "reversed" = Y)(he:QPE X K e te qe)
  (V:iS [e] X.env = [(ϊ,eval e X.env)]:=by rfl) (P:iS [.Call (.Name "reversed" p2) [e] [] gF] X.env = [(ϊ,eval (.Call (.Name "reversed" p2) [e] [] gF) X.env)]:=by rfl) (hK:X.K=K:=by rfl) :
  QPF X K (.Call (.Name "list" p1) [.Call (.Name "reversed" p2) [e] [] gF] [] pos) (sH K te) (MP qe) :=
 (yK hK hc ak ai aj ah he.h V P,λdl H σ q Q R rd hq k=>he.s dl H σ q _ _ rd hq λv t F H1 e1 r g=>by
  split at g
  ·let(i1,g):=g;let(l,vs,G,U,U,h1,h2):=r.r.lst;obtain rfl:=h2.im i1;refine(l,vs,U,SqL.of h1,λp hp=>?_)
   have rs:Rps K dl H1 vs.reverse _ []:=(h2.rev U,λ_ z=>nomatch z)
   exact k _ _ [p] _ (e1.new hp) (rs.lst e1.d hp) (λb hb=>by rw[bB.mp hb];exact e1.free hp) (by simp) g
  ·exact g.elim)
end
def chT(z:Str):List T:=z.cps.toList.map λc=>.s ⟨#[c]⟩
def asS(qe:QE):QI:=λq Q=>qe q λt=>match t with | .s z=>Q (chT z) | _=>False
section
variable{K:W.Frag}
def N5{z:Str}:ve K dl (Its z) (chT z) [] where
 go:=λH i D h hi=>by
  show i<z.cps.size;simpa [chT]using hi
 yld:=λH i x fp v H' D h hx y=>by
  let(U,c,g,U):=y;unfold chT at hx;rw[qx,Uj,g]at hx;cases hx;exact(.refl D,[],(.s _,λ_ z=>nomatch z),λ_ z=>nomatch z)
 stop:=λH D h=>by
  show(chT z).length=z.cps.size;simp[chT]
end
section
variable{a b e o:Expr}
def Evo.fresh{a:J}{o:HO}(e:Evo dl H H')(ha:H a=Y)(nd:Nd dl a):Evo dl H (upd H' a o) :=
 (λb u h n r=>by rw[ao (aQ h ha)];exact e.k b u h n r,λp hp=>(e.d p hp).oth (nd p hp).1 (nd p hp).2,λb x h=>let(y,g,q):=e.r b x h;(y,g,by rw[ao (aQ h ha)];exact q))
end
section
variable{X:Cx}{K:W.Frag}{e:Expr}{es:List Expr}{te:TE}{tl:TA}{qe:QE}{ql:QA}{k:Nat}
structure Ln(X:Cx)(K:W.Frag)(es:List Expr)(tl:TA)(i j:Nat)(ql:QA):Prop where
 h:PA X es tl
 s:∀(dl:Dl)(H:Hp)(σ:St)(q:Sq)(v0:V)(Q:List T->Prop)(R:List V->Hp->Prop),RdR K dl H σ q->σ[i]? = Z (Z v0)->ql q Q ->
  (∀ vs ts H',Evo dl H H'->vs.length=ts.length->vs[j]? = Z v0 ->(∀ n v t,n≠j->vs[n]? = Z v->ts[n]? = Z t->Rp K dl H' v t [])->Q ts->R vs H')->tl σ H R
def au.im1{vs:List V}{ts:List T}{F:List J}(h:au K dl H vs ts F)(g:T.ims ts=O):∀(n:Nat)(v:V)(t:T),vs[n]? = Z v->ts[n]? = Z t->aJ K dl H v t []:=by
 obtain rfl:=h.im g;intro n v t h1 h2;let(z,G,q,r,s):=h.Ow h2;rw[h1]at q;cases q;rw[Ul.mp s]at r;exact r
def nk(hx:PE X e (bP i))(hr:QPA X K es tl ql)(hs:iS (e::es) X.env =(ϊ,eval e X.env)::iS es X.env:=by rfl):Ln X K (e::es) (cw (bP i) tl) i 0 (λq Q=>ql q λts=>T.ims ts=O/\Q (.n::ts)) :=
 (bj hx hr.h hs,λdl H σ q v0 Q R rd hv V k=>(v0,hv,hr.s dl H σ q _ _ rd V λvs ts F H1 e1 g l1 P=>k _ (.n::ts) H1 e1 (by simp[g.r.len]) U (λn v t ne h1 h2=>by
  cases n with
  | zero=>exact absurd U ne
  | succ n=>exact(g.r.im1 P.1 n v t (by simpa using h1) (by simpa using h2),λ_ z=>nomatch z)) P.2))
def gv(he:QPE X K e te qe)(hr:Ln X K es tl i j ql)(hs:iS (e::es) X.env =(ϊ,eval e X.env)::iS es X.env:=by rfl):Ln X K (e::es) (cw te tl) i (j+1) (λq Q=>qe q λt=>t.im=O/\ql q λts=>Q (t::ts)) :=
 (bj he.h hr.h hs,λdl H σ q v0 Q R rd hv hq k=>he.s dl H σ q _ _ rd hq λv t F H1 g P V=>hr.s dl H1 σ q v0 _ _ (rd.evo g) hv V.2 λvs ts H2 e2 l2 hj ho z=>by
  have r2:=P.evo g.d e2;obtain rfl:=P.r.im V.1;exact k (v::vs) (t::ts) H2 (g.trans e2) (by simp[l2]) (by simpa using hj) (λn w u ne h1 h2=>by
   cases n with
   | zero=>simp at h1 h2;subst h1 h2;exact r2
   | succ n=>exact ho n w u (λz=>ne (by rw[z])) (by simpa using h1) (by simpa using h2)) z)
end
variable{p:Pos}
section
variable{X:Cx}{K:W.Frag}
inductive F6(K:W.Frag)(x:V)(y:V)(H:Hp)(Q:VK):Prop
 | mk(p q vs:_)(h1:x = .ref p)(h2:y = .ref q)(h3:SqL K H p vs)(h4:SqL K H q [])(h5:Q (.bl (!vs.isEmpty)) H)
def G4(hu:X.A.units+1<cLine)(hK:X.K=K):OpR X (compareOp .NotEq) (F6 K):=by
 subst hK;intro gd s σ H x y v u Q I V P h;let(p,q,vs,U,U,h1,h2,k):=h;cases V;cases P;let(its,r1,p1,_):=I.list h1;let(z,g,p2,_):=I.list h2;have l1:=r1.length;have l2:=g.length;have e2:z.length=0:=l2.symm;by_cases hl:its.length=z.length
 ·refine SeqAt.RcNeAt.lists (e:=λ_=>O) p1.isList p2.isList (by simpa using hl) (by omega) (λj g1 g2=>?_) X.prog X.w X.xe _ (.bl _,H,I,U,?_)
  ·let(a,ea,ra):=g.at' g2;simp at ea
  ·have e:vs = []:=Co.mp (by lia)
   subst e;have e3:its.toArray.size=0:=by simp;exact Co.mp (by lia)
   rw[e3];exact k
 ·refine SeqAt.RcNeAt.lists_lengths p1.isList p2.isList (by simpa using hl) (by omega) X.prog X.w X.xe _ (.bl _,H,I,U,?_)
  cases vs with
  | nil=>exact absurd l1.symm (by rw[<- l2]at hl;exact hl)
  | cons _ _=>exact k
def Gu:Q2:=λt u Q=>match t,u with
 | .l xs,.l []=>Q (.b (!xs.isEmpty))
 | _,_=>False
def DC:gf K (F6 K) Gu:=by
 intro dl H x y t u F G Q R D V P g k;unfold Gu at g
 split at g
 ·rename_i xs;let(p,vs,G1,U,U,h1,h2):=V.r.lst;let(p',q,G2,U,U,h3,h4):=P.r.lst;cases h4;refine(p,p',vs,U,U,SqL.of h1,SqL.of h3,k _ _ [] H (.refl D) (.c (.b _)) (λ_ z=>nomatch z) kr ?_)
  have e:vs.isEmpty=xs.isEmpty:=by
   have:=h2.len
   cases vs <;> cases xs <;> simp at this ⊢
  rw[e];exact g
 ·exact g.elim
def zA{xs:List T}:ve K dl (Ite K ϊ a) (nV xs) [(.ref a,.l xs)] where
 go:=λH i D h hi=>by
  let(F,r):=h (.ref a,.l xs) (by simp)
  let(p,vs,G,e,_,h1,h2):=r.r.lst;cases e;rw[hZ]at hi;have l1:i<vs.length:=by rw[h2.len];omega
  exact(vs,vs[i],SqL.of h1,by simp[l1])
 yld:=λH i x fp v H' D h hx y=>by
  have r:=h (.ref a,.l xs) (by simp)
  let(p,vs,G,e,eF,h1,h2):=r.r.lst;cases e;let(x1,V,U):=nU hx;let(w1,G1,ah,Q,ai):=h2.get V;let(q,u1,hq,U,U,P):=y;have e1:=P vs (SqL.of h1);rw[ah]at e1;cases e1;have sub:∀ b∈G1,b∈fp (.ref a,.l xs):=λb g=>by rw[eF];exact c5 _ (ai b g)
  have rs:Rps K dl H [.int (i),w1] [.i (i),x1] ([]++(G1 ++ [])):=Rps.cons (.i _,λ_ z=>nomatch z) (Rps.cons (Q,λb g=>r.n b (sub b g)) (.nil,λ_ z=>nomatch z))
  refine((Evo.refl D).new hq,_,rs.tup D hq,λc g=>.inr ?_)
  rw[ko]at g;exact(_,by simp,sub c g)
 stop:=λH D h=>by
  let(F,r):=h (.ref a,.l xs) (by simp)
  let(p,vs,G,e,_,h1,h2):=r.r.lst;cases e;exact(vs,SqL.of h1,by rw[hZ,h2.len];exact lx _)
def LZ(i:Nat):QJ:=λq Q=>match q[i]? with
 | some (.o (.l xs))=>Q (nV xs) (q.set i (.r (.l xs)))
 | some (.r (.l xs))=>Q (nV xs) q
 | _=>False
def Gh{a:Expr}{x1}{pos:Pos}(hg:Gl X "enumerate")(hm:X.mg "enumerate" = Y)(tZ:bootBuiltins "enumerate" = Z (.type "enumerate"))(h:PE X a (bP i))(hs:iS [a] X.env = [(ϊ,eval a X.env)]:=by rfl)(ah:iS [a] X.env =(ϊ,eval a X.env)::iS [] X.env:=by rfl)(hK:X.K=K:=by rfl) :
  QPJ X K (.Tuple elts x1 pos') (.Call (.Name "enumerate" p) [a] [] pos) (Cz K ϊ (cw (bP i) fY)) (LZ i):=(yH hK hg hm tZ (bj h eT ah) hs,λdl H₀ hs H σ q Q R (F0,V) hq k=>by
 unfold LZ at hq
 split at hq
 ·rename_i xs e1;let(v,hv,r):=V.g i _ _ e1 U;have r1:=(V.down e1).hold r λj u P b hb=>by
   rcases get_set P with⟨_,z,_⟩ |⟨ne,P⟩
   ·cases z
   ·exact(V.o j u P).2.2 i (λz=>ne z.symm) b hb
  let(p,vs,G,U,_,h1,h2):=r.r.lst;exact(_,hv,p,U,(vs,SqL.of h1),k _ _ _ H _ (F0,r1) zA hq)
 ·rename_i xs e1;let(v,hv,r):=V.g i _ _ e1 U;have r1:=V.hold r λj u P b hb=>(V.o j u P).2.2 i (λz=>by subst z;rw[e1]at P;cases P) b hb
  let(p,vs,G,U,_,h1,h2):=r.r.lst;exact(_,hv,p,U,(vs,SqL.of h1),k _ _ _ H _ (F0,r1) zA hq)
 ·exact hq.elim)
end
variable{tg:Expr}{iter:Expr}{body:List Stmt}{g:Tg}
section
variable{X:Cx}{K:W.Frag}{rest:List Stmt}{e c:Expr}{pos:Pos}{tc:TT}{qc:QT}{ts:(St->XK)->TS}{qs:QSX}
def XOk.holds{hs hv:List (V×T)}{W:Sq->QW}{Es:St->XK}(x:XOk K dl H₀ hs W Es):XOk K dl H₀ (hv++hs) W Es:=λH σ q a C ns us (F,r) g hw=>x H σ q a C ns us (F,r.iC) g hw
def wm{wi:TI}{iq:QJ}(hp:UH (model X.prog X.w) X.A X.env X.xe)(hc:X.calm=O)(hi:QPJ X K tg iter wi iq)(hg:PG X tg (g.h K))(hb:jZ X K body ts qs)
  (hs:∀ x,foldedSetIterable iter X.env x=pure x:=by intro _;rfl):mS X K (.For tg iter body [] pos) (λEs=>Mn wi (g.h K) (ts Es)) (λW=>PU iq g (qs W)):=(λEs a b=>AU hp hc hi.h hg (hb.h Es a b) hs,λdl H₀ hs H σ q Dq D W Es r hq E x=>by
 refine hi.s dl H₀ hs H σ q _ _ r hq λxs Vn hv H1 q1 r1 it hz=>?_
 let(I,i0,turn,fin):=hz;refine(λi m σ H=>m=xs.length - i/\i<=xs.length/\∃ q,c7 K dl H₀ (hv++hs) H σ q/\I i q,(xs.length,by simp,Fq _,q1,r1,i0),?_)
 rintro i m σ H ⟨rfl,aj,q,⟨F,r⟩,hI⟩
 have held:∀ p∈hv,∃ F,Rp K dl H p.1 p.2 F:=λp hp=>let(Fp,h,_):=r.h p (oE _ hp);(Fp,h)
 by_cases P:i<xs.length
 ·refine .inr (it.go H i r.d held P,λQ H'=>∃ q,c7 K dl H₀ (hv++hs) H' Q q/\I (i+1) q,λQ H' h=>(xs.length - (i+1),by omega,U,P,h),λv H' y=>?_)
  let(fp,V):=r.fps;have hx:xs[i]? = Z xs[i]:=by simp[P]
  let(e1,G,rx,hG):=it.yld H i xs[i] fp v H' r.d (λp hp=>(V p hp).1) hx y
  let(q',ai,hz):=turn i xs[i] q hx hI;refine AG (r.evo e1) rx (λj u hj b hb z=>?_) ai λah r2=>hb.s dl H₀ (hv++hs) H' ah q' _ _ W Es r2 hz (λH σ q r n=>(q,r,n),λH σ q (F,r) n=>E.nx H σ q (F,r.iC) n,λH σ q r n=>(q,r,n),E.rt,λH σ q F0 v t F r=>E.ru H σ q F0 v t F r.iC) x.holds
  rcases hG b z with h |⟨p,hp,h⟩
  ·exact(r.bI hb).no h
  ·exact(V p hp).2 j u hj b hb h
 ·have e:i=xs.length:=by omega
  subst e;exact .inl (it.stop H r.d held,E.nx H σ q (F,r.iC) (fin q hI)))
def g9(hp:UH (model X.prog X.w) X.A X.env X.xe)(P:QPT X K c tc qc)(Q:jZ X K rest ts qs):mS X K (.While c rest [] pos) (λEs=>vZ tc (ts Es)) (λW=>Gr qc (qs W)):=(λEs a b=>sZ hp P.h (Q.h Es a b),λdl H₀ hs H σ q Dq D V Es r hq E x=>by
 let(W,(m0,w0),turn):=hq;refine(λm σ H=>∃ q,c7 K dl H₀ hs H σ q/\W m q,(m0,q,r,w0),?_)
 rintro m σ H ⟨q,⟨F,r⟩,w⟩
 refine P.s dl H σ q _ _ r.rd (turn m q w) λb H1 e1 z=>?_
 cases b with
 | false=>exact E.nx H1 σ q (F,r.evo e1) z
 | true =>
  let(N,hN,z):=z;refine(λg H'=>∃ q',c7 K dl H₀ hs H' g q'/\N q',λg H' (q',r',n')=>?_,?_)
  ·let(m',hm,w'):=hN q' n';exact(m',hm,q',r',w')
  ·exact Q.s dl H₀ hs H1 σ q _ _ V Es (F,r.evo e1) z (λH σ q r n=>(q,r,n),λH σ q r n=>E.nx H σ q r n,λH σ q r n=>(q,r,n),E.rt,E.ru) x)
end
variable{N':List Str}{sc:Scope}{C:J}{fp:List J}
section
variable{X:Cx}{K:W.Frag}{e a b:Expr}{es:List Expr}{te ta tb:TE}{qe qa qb:QE}{tl:TA}{ql:QA}{pos:Pos}{k k':Nat}{f:J}{prs:List Str}
structure Dn(K:W.Frag)(mg:Str->Option B)(x:Str)(st:Stmt)(f:J)(fd:FuncData)(ps:List Str):Prop where
 F:Fun K x x st f fd
 m:mg x=Z (.ref f)
 b:Binds K fd ps []
def bq{ps:PSp}(F:aR X.prog X.w X.K X.mg X.base CX0 k f fd prs (spQ K ps))(hr:bM k' X.A)(D:Dn X.K X.mg x st f fd prs)(ha:QPA X K (e::es) tl ql)(z:k<=k':=by first|decide|omega)(hg:Gl X x:=by exact U)
  (q:(x ==("__debug__":Str))=false:=by decide) (he:iS (e::es) X.env =(ϊ,eval e X.env)::iS es X.env:=by rfl) (g:(backTo pos (iS es X.env)).any (·.1)=false:=by rfl) :
  QPF X K (.Call (.Name x p) (e::es) [] pos) (yg (spQ K ps) [] E0 tl) (Gz ps ql):=JI F (hr.mono z) hg D.m D.F.kp D.b ha q he g
def aC:QPA X K [] fY MO:=xN.w aF
def ar{i j}:QPE X K (.Constant (.int i) j pos) (tC (.int i)) (qC (.i i)):=QPF.w bN
def kP(hm:X.mg "len" = Y)(ha:QPA X K (e::es) tl ql)(hg:Gl X "len":=by exact U)(q:X.K=K:=by exact U)
  (he:iS (e::es) X.env =(ϊ,eval e X.env)::iS es X.env:=by rfl) (g:(backTo pos (iS es X.env)).any (·.1)=false:=by rfl):QPF X K (.Call (.Name "len" p) (e::es) [] pos) (tCB (F8 K) tl) (qCB PJ ql):=du (EK q) Jq hg hm (by kernel_rfl) ha (by decide) (by decide) he g
def a8(i:Nat)(g:X.N.Nodup)(he:QPF X K e te qe)(hi:X.N[i]? = Z x:=by rfl)(hx:Loc X.env.scope x:=by first|exact .inl rfl|exact .inr U)(hs:swapsWith e (Z (.Name x pos')) pos.line X.env=pure false:=by rfl)(hf:X.fn x=O\/X.env.scope.names.lookup x=Z .local:=by first|exact .inl rfl|exact .inr rfl|assumption) :
  QPS X K (.Assign [.Name x pos'] e pos) (mW te (gP i)) (JJ i qe):=ME g hi hx he hs hf
def gR(i:Nat)(g:X.N.Nodup)(hi:X.N[i]? = Z x:=by rfl)(hx:Loc X.env.scope x:=by first|exact .inl rfl|exact .inr U)(hf:X.fn x=O\/X.env.scope.names.lookup x=Z .local:=by first|exact .inl rfl|exact .inr rfl|assumption):PG X (.Name x pos) (gP i):=nC g hi hx hf
def pF{cl:List (Str×J)}{s₂:ϋ}{H₂:Hp}(i:Nat)(g:N'.Nodup:=by decide +kernel)(hi:N'[i]? = Z x:=by rfl)(hx:Loc (blk X N' sc cl C s₂ H₂ fp).env.scope x:=by first|exact .inl rfl|exact .inr U)(hf:(blk X N' sc cl C s₂ H₂ fp).env.scope.names.lookup x=Z .local:=by rfl):PG (blk X N' sc cl C s₂ H₂ fp) (.Name x pos) (gP i):=nC (X:=blk X N' sc cl C s₂ H₂ fp) g hi hx (.inr hf)
def AX{q g:Str}{t1 t2:TG}{j:Nat}(h1:PG X (.Name q p1) t1)(h2:PG X (.Name g p2) t2)(Q:X.K=K:=by exact U)(P:X.calm=true:=by exact U)
  (hn:(assignEach [.Name q p1,.Name g p2] X.env).length=2:=by rfl) (z:(assignEach [.Name q p1,.Name g p2] X.env).findIdx? (·.1)=none:=by rfl):PG X (.Tuple [.Name q p1,.Name g p2] j pos) (K4 K 2 (CB t1 (CB t2 Oy))):=wF Q P (fQ h1 (fQ h2 wD)) hn z
def gN(g:X.A.units+1<cLine)(ha:QPE X K a ta qa)(q:QPE X K b tb qb)(z:X.K=K:=by exact U):QPT X K (.Compare a [.Eq] [b] pos) (yf (tOp (MB K) ta tb)) (jU (qOp JM qa qb)):=cS (mz g z) jq (bH _) ha q
def B7(ha:QPE X K a ta qa)(g:QPE X K b tb qb):=cS (pos:=pos) LI (oX (K:=K) (g':=λi j=>.b (decide (i<j))) λ_ _ _ _=>.b _) (bH _) ha g
def Gb(ha:QPE X K a ta qa)(g:QPE X K b tb qb):=cS (pos:=pos) G5 (oX (K:=K) (g':=λi j=>.b (decide (j<i))) λ_ _ _ _=>.b _) (bH _) ha g
end
abbrev NI(K:W.Frag)(x:Str)(f:J):Prop:=W.nsIn K mainGlobals x=Z (Z (.ref f))
abbrev LK(K:W.Frag)(f:J)(x q:Str)(st:Stmt)(oc:B)(od:Option J)(kV dc pm:B)(an:Option J)(cd ct:B)(sl:Array (Option B)):Prop:=K.lookup f=Z (oc,od,.func (W.fnOf x q (gx st) (cc st) (aq st) .none kV dc pm an cd ct),sl)
abbrev CI(K:W.Frag)(cd:B)(x:Str):Prop:=W.codeIn K cd x=O
abbrev KI(K:W.Frag)(f:J):Prop:=W.keepIn K (.ref f)=O
section
variable{K:W.Frag}{q:Str}{f:J}{oc kV dc pm cd ct:B}{od an:Option J}{sl:Array (Option B)}
abbrev NB(K:W.Frag)(x:Str):Prop:=W.nsIn K mainGlobals x=Z Y
inductive DY(K:W.Frag)(x:Str)(st:Stmt)(f:J):Prop
 | mk(n:NI K x f)(fd:FuncData)(F:Fun K x x st f fd)
inductive DM(K:W.Frag)(C:J)(x q:Str)(st:Stmt)(f:J):Prop
 | mk(M:Meth K C x f)(fd:FuncData)(F:Fun K x q st f fd)
def DY.of(n:NI K x f)(l:LK K f x x st oc od kV dc pm an cd ct sl)(c:CI K cd x)(k:KI K f):DY K x st f:=(n,_,xp l c k)
theorem DM.of(m:W.findIn K (.ref C) x=Z (Z (.ref f)))(l:LK K f x q st oc od kV dc pm an cd ct sl)(c:CI K cd q)(k:KI K f)(i:W.isFn K (.ref f)=O):DM K C x q st f:=((m,i,k),_,xp l c k)
theorem Fun.b1{p1:Str}(F:Fun K x q st f fd)(z:∀ kV dc pm an cd ct g,bindArgs (W.fnOf x q (gx st) (cc st) (aq st) .none kV dc pm an cd ct) ([g],[])=pure [(p1,g)]:=by intros;rfl):Binds K fd [p1] []:=F.binds λkV dc pm an cd ct us hl=>Qv (P:=λus=>bindArgs _ (us,[])=pure (Vj _ us)) (z kV dc pm an cd ct) us hl
theorem Fun.b2{p1 p2:Str}(F:Fun K x q st f fd)(Q:∀ kV dc pm an cd ct z g,bindArgs (W.fnOf x q (gx st) (cc st) (aq st) .none kV dc pm an cd ct) ([z,g],[])=pure [(p1,z),(p2,g)]:=by intros;rfl):Binds K fd [p1,p2] []:=F.binds λkV dc pm an cd ct us hl=>Qu (P:=λus=>bindArgs _ (us,[])=pure (Vj _ us)) (Q kV dc pm an cd ct) us hl
theorem Fun.b3{p1 p2 V:Str}(F:Fun K x q st f fd)(hb:∀ kV dc pm an cd ct Q z g,bindArgs (W.fnOf x q (gx st) (cc st) (aq st) .none kV dc pm an cd ct) ([Q,z,g],[])=pure [(p1,Q),(p2,z),(V,g)]:=by intros;rfl):Binds K fd [p1,p2,V] []:=F.binds λkV dc pm an cd ct us hl=>Qt (P:=λus=>bindArgs _ (us,[])=pure (Vj _ us)) (hb kV dc pm an cd ct) us hl
theorem Fun.b5{p1 p2 p3 p4 p5:Str}(F:Fun K x q st f fd)(hb:∀ kV dc pm an cd ct u1 V Q z g,bindArgs (W.fnOf x q (gx st) (cc st) (aq st) .none kV dc pm an cd ct) ([u1,V,Q,z,g],[])=pure [(p1,u1),(p2,V),(p3,Q),(p4,z),(p5,g)]:=by intros;rfl):Binds K fd [p1,p2,p3,p4,p5] []:=F.binds λkV dc pm an cd ct us hl=>Sv (P:=λus=>bindArgs _ (us,[])=pure (Vj _ us)) (hb kV dc pm an cd ct) us hl
end
variable{prs:List Str}
theorem aR.calm{w:World}{K:W.Frag}{k:Nat}{f:J}{ps:BF}(F:aR P w K mg base (CX1 P w) k f fd prs (Ji K ps)):aR P w K mg base CX0 k f fd prs (spQ K λts Q=>ps ts Q λ_ _ _=>False) where
 len:=λvs H Q E h=>by
  let(dl,ts,G,Qp,h1,h2,h3,h4):=h;exact F.len vs H Q (λ_ _ _=>False) (dl,ts,G,Qp,_,h1,h2,h3,h4,λ_ _ _ _ _ _ _ z=>z)
 run:=λA outer s H args us vs Q E hr he q hv h=>by
  let(dl,ts,G,Qp,h1,h2,h3,h4):=h;refine codeAny_mono (F.run A outer s H args us vs Q (λ_ _ _=>False) hr he q hv (dl,ts,G,Qp,_,h1,h2,h3,h4,λ_ _ _ _ _ _ _ z=>z)) λr s' g=>?_
  cases r with
  | ok o=>cases o <;> exact g
  | error e =>
   let(a,C,dx,T,H',_,_,_,_,_,_,_,_,_,z):=g;exact z.elim
mutual
def T.pln:T->Bool
 | .n=>O
 | .b _=>O
 | .i _=>O
 | .s _=>O
 | .t xs=>T.wC xs
 | .zl xs=>T.wC xs
 | .fd _ _ ks=>T.Nk ks
 | _=>ϊ
def T.wC:List T->Bool
 | []=>O
 | x::r=>x.pln&&T.wC r
def T.Nk:List (Key×T)->Bool
 | []=>O
 | (_,x)::r=>x.pln&&T.Nk r
end
def nof{A:Prop}(h:ϊ=O):A:=absurd h qd
theorem aJ.plain{K:W.Frag}(kt:∀ a vs,H a=Z (.tup vs)->H' a=Z (.tup vs))(z:∀ a o u,H a=Z (.frz o u)->H' a=Z (.frz o u)){v:V}{t:T}{F:List J}(h:aJ K dl H v t F):t.pln=O->aJ K dl H' v t F :=
 aJ.rec (motive_2:=λv t F _=>T.wC t=O->au K dl H' v t F) (motive_3:=λv t F _=>T.Nk t=O->fW K dl H' v t F)
  (λ_=>.n) (λx _=>.b x) (λx _=>.i x) (λx _=>.s x) (λ_ h=>nof h) (λh _ g q=>.t (kt _ _ h) (g q)) (λ_ _ _ h=>nof h) (λ_ _ _ h=>nof h) (λ_ h=>nof h) (λ_ h=>nof h) (λ_ h=>nof h) (λh _ g q=>.fd (z _ _ _ h) (g q)) (λ_ h=>nof h) (λ_ _ _ h=>nof h)
  (λ_ _ h=>nof h) (λ_ _ _ h=>nof h) (λ_ _ _ h=>nof h) (λ_ _ _ h=>nof h) (λh _ g q=>.zl (z _ _ _ h) (g q)) (λ_ h=>nof h) (λ_ _ _ _ _ h=>nof h) (λ_=>.nil) (λ_ _ i1 i2 q=>.cons (i1 (qp _ _▸q).1) (i2 (qp _ _▸q).2)) (λ_=>.nil) (λ_ _ i1 i2 q=>.cons (i1 (qp _ _▸q).1) (i2 (qp _ _▸q).2)) h
theorem au.plain{K:W.Frag}{dl:Dl}{H H':Hp}(kt:∀ a vs,H a=Z (.tup vs)->H' a=Z (.tup vs))(g:∀ a o u,H a=Z (.frz o u)->H' a=Z (.frz o u)){vs:List V}{ts:List T}{F:List J}(h:au K dl H vs ts F):T.wC ts=O->au K dl H' vs ts F :=
 h.ind (λ_=>.nil) (λ_ _ _ _ _ _ h _ z q=>.cons (h.plain kt g (qp _ _▸q).1) (z (qp _ _▸q).2))
theorem aJ.Nl{K:W.Frag}{v:V}{t:T}{F:List J}(h:aJ K dl H v t F):t.pln=O->F = [] :=
 aJ.rec (motive_3:=λ_ _ _ _=>True)
  (λ_=>rfl) (λ_ _=>rfl) (λ_ _=>rfl) (λ_ _=>rfl) (λ_ h=>nof h) (λ_ _ g=>g) (λ_ _ _ h=>nof h) (λ_ _ _ h=>nof h) (λ_ h=>nof h) (λ_ h=>nof h) (λ_ h=>nof h) (λ_ _ _ _=>rfl) (λ_ h=>nof h) (λ_ _ _ h=>nof h)
  (λ_ _ h=>nof h) (λ_ _ _ h=>nof h) (λ_ _ _ h=>nof h) (λ_ _ _ h=>nof h) (λ_ _ _ _=>rfl) (λ_ h=>nof h) (λ_ _ _ _ _ h=>nof h) (λ_=>rfl) (λ_ _ i1 i2=>xi i1 i2) trivial (λ_ _ _ _=>trivial) h
theorem au.Nl{K:W.Frag}{dl:Dl}{H:Hp}{vs:List V}{ts:List T}{F:List J}(h:au K dl H vs ts F):T.wC ts=O->F = []:=h.ind (λ_=>rfl) (λ_ _ _ _ _ _ h _ g=>xi h.Nl g)
section
variable{X:Cx}{K:W.Frag}{gd:List (J×Obj)}{σ:St}{s:ϋ}{e o:Expr}{te:TE}{qe:QE}
def Inv.K5{xs:List V}(I:Inv X gd σ H s)(ha:H a=Z (.lst xs)):∃ o,Inv X gd σ (upd H a (.frz o (.lst xs))) s:=by
 have g:∀ o v,X.H₀ a≠Z (.frz o v):=λo v e=>by
  have:=I.base.nT a o v e
  rw[ha]at this;cases this
 let(z,its,n,r,e):=(I.hok a _ ha);exact(_,I.Pk ha (λ_ z=>nomatch z) (λ_ z=>nomatch z) (λ_ z=>nomatch z) g (e,z,its,n,r,e))
def Lw(te:TE):TE:=λσ H Q=>te σ H λv H1=>∃ a xs,v = .ref a/\H1 a=Z (.lst xs)/\∀ o,Q v (upd H1 a (.frz o (.lst xs)))
def J7(he:PE X e te):PE X e (Lw te):=by
 intro gd s σ H Q I h;refine thn (he gd s σ H _ I h) λu s' g=>?_
 let(v,H',P,r,a,xs,V,z,q):=g;let(o,K):=P.K5 z;exact(v,_,K,r,q o)
def PR(qe:QE):QE:=λq Q=>qe q λt=>match t with
 | .l ts=>T.wC ts=O/\Q (.zl ts)
 | _=>False
def JH(he:QPF X K e te qe):QPF X K e (Lw te) (PR qe):=(J7 he.h,λdl H σ q Q R rd V k=>he.s dl H σ q _ _ rd V λv t F H1 e1 P f1 n1 g=>by
 split at g
 ·let(p,vs,G,U,U,h1,h2):=P.r.lst;obtain rfl:=h2.Nl g.1;refine(p,vs,U,h1,λo=>?_)
  have e2:=e1.fresh (o:=.frz o (.lst vs)) (f1 p dZ) (P.n p dZ);have ne:∀{a:J}{u:HO},H1 a=Z u ->(∀ xs,u ≠ .lst xs)->a≠p:=λh n z=>by rw[z,h1]at h;exact n _ (Option.some.inj h).symm
  have ts:=h2.plain (H':=upd H1 p (.frz o (.lst vs))) (λa us h=>by rw[ao (ne h λ_ z=>nomatch z)];exact h) (λa o u h=>by rw[ao (ne h λ_ z=>nomatch z)];exact h) g.1
  exact k _ (.zl _) [] _ e2 (.zl aB ts,λ_ z=>nomatch z) (λ_ z=>nomatch z) kr g.2
 ·exact g.elim)
end
end L2
namespace L2
open PySem PySem.Spec PyProof.Rows
def gO(H:Hp)(F:List J):Hp:=λb=>if b∈F then Y else H b
variable{H:Hp}
def nM{F:List J}{b:J}(h:b∈F):gO H F b=none:=if_pos h
def jg{F:List J}{b:J}(h:b ∉ F):gO H F b=H b:=if_neg h
structure c8(dl:Dl)(H:Hp)(F:List J)(H':Hp):Prop where
 k:∀ b o,H b=Z o->b ∉ F->Nd dl b->NR o->H' b=Z o
 r:∀ a x,H a=Z (.room x)->a ∉ F->∃ y,y<=x/\H' a=Z (.room y)
 l:∀ b xs,b∈F->H b=Z (.lst xs)->∃ ys,H' b=Z (.lst ys)
 d:Dls dl H'
abbrev rQ:=List T ->(T->T->Prop)->Prop
inductive Oth(K:W.Frag)(dl:Dl)(H:Hp)(vs:List V)(ts:List T)(j:Nat)(F0:List J):Prop
 | mk(G:Nat->List J)(h1:(∀ i v t,i≠j->vs[i]? = Z v->ts[i]? = Z t->Rp K dl H v t (G i)/\∀ b∈G i,b ∉ F0))(h2:∀ i,ts.length<=i->G i = [])
variable{dl:Dl}{j:Nat}
theorem Oth.im{K:W.Frag}{vs:List V}{ts:List T}{F0:List J}(h:∀ i v t,i≠j->vs[i]? = Z v->ts[i]? = Z t->Rp K dl H v t []):Oth K dl H vs ts j F0:=(λ_=>[],λi v t h1 h2 h3=>(h i v t h1 h2 h3,λ_ z=>nomatch z),λ_ _=>rfl)
inductive spL(K:W.Frag)(j:Nat)(ps:rQ)(vs:List V)(H:Hp)(Q:VK)(_:XK):Prop
 | mk(dl:Dl)(ts:List T)(v0:V)(t0:T)(F0:List J)(Qp:T->T->Prop)(h1:Dls dl H)(h2:vs.length=ts.length)(h3:vs[j]? = Z v0)(h4:ts[j]? = Z t0)(h5:Rp K dl H v0 t0 F0)(h6:F0.Nodup)(h7:Oth K dl H vs ts j F0)(h8:ps ts Qp)(h9:∀ v r Fr t' F' H',c8 dl H F0 H'->Rp K dl H' v0 t' F'->F'.Nodup ->(∀ b∈F',b∈F0\/H b=Y)->Rp K dl H' v r Fr->Fr.Nodup ->(∀ b∈Fr,b∈F0\/H b=Y) ->(∀ b∈Fr,b ∉ F')->Qp r t'->Q v H')
def hsq(H:Hp)(F:List J):List (V×T):=F.filterMap λb=>match H b with
 | some (.lst _)=>Z (.ref b,.q)
 | _=>Y
theorem Hv{K:W.Frag}{F:List J}:∀ p∈hsq H F,Rp K dl H p.1 p.2 []:=λp hp=>by
 let(b,_,e):=T6.mp hp
 split at e
 ·rename_i xs h;cases e;exact(.q h,λ_ z=>nomatch z)
 ·cases e
def CA{F:List J}{b:J}{xs:List V}(g:b∈F)(h:H b=Z (.lst xs)):(V.ref b,T.q)∈hsq H F:=T6.mpr (b,g,by rw[h])
variable{N:List Str}
theorem AH{K:W.Frag}{vs:List V}{ts:List T}{v0:V}{t0:T}{F0:List J}{hs:List (V×T)}(D:Dls dl H)(hl:vs.length=ts.length)(hv:vs[j]? = Z v0)(r0:Rp K dl H v0 t0 F0)(n0:F0.Nodup){G:Nat->List J}(ro:∀ i v t,i≠j->vs[i]? = Z v->ts[i]? = Z t->Rp K dl H v t (G i)/\∀ b∈G i,b ∉ F0)(rz:∀ i,ts.length<=i->G i = [])(hj:j<ts.length)(hh:∀ p∈hs,Rp K dl H p.1 p.2 []) :
  Rel K dl (gO H F0) hs H (start N vs) ((ts.map Sl.r).set j (.o t0)++uA (N.length - ts.length) .no) (λi=>if i=j then F0 else G i):=by
 have lk:∀ i y,((ts.map Sl.r).set j (.o t0)++uA (N.length - ts.length) Sl.no)[i]? = Z y ->(i=j/\y = .o t0)\/(i≠j/\∃ t,ts[i]? = Z t/\y = .r t)\/(ts.length<=i/\y = .no):=λi y h=>by
  by_cases hi:i<ts.length
  ·rw[z9 (by simpa using hi)]at h
   rcases get_set h with⟨e1,Q,_⟩ |⟨e1,Q⟩
   ·exact .inl (e1,Q)
   ·rw[qx,xT hi]at Q;exact .inr (.inl (e1,ts[i],by simp,(Option.some.inj Q).symm))
  ·rw[BK (by simpa using hi),Tv]at h
   split at h
   ·exact .inr (.inr (by omega,(Option.some.inj h).symm))
   ·cases h
 have g:∀ i v,vs[i]? = Z v ->(start N vs)[i]? = Z (Z v):=λi v e=>by
  have hi:=(j2.mp e).1;show(vs.map Z++uA (N.length - vs.length) Y)[i]? = _;rw[z9 (by simpa using hi),qx,e]
  rfl
 have q:∀ b o,gO H F0 b=Z o->H b=Z o:=λb o h=>by
  by_cases e:b∈F0
  ·rw[nM e]at h;cases h
  ·rw[jg e]at h;exact h
 refine(D,λi y t h1 h2=>?_,λi y h1 h2=>?_,λi hi=>?_,λi t h1=>?_,λp hp=>([],hh p hp,λ_ _ _ _ _ z=>nomatch z),(λb o h _ _=>q b o h,λb x h=>(x,Tf _,q b _ h)),?_)
 ·rcases lk i y h1 with⟨rfl,rfl⟩ |⟨ne,u,e,rfl⟩ |⟨_,rfl⟩
  ·cases h2;refine(v0,g _ _ hv,?_);rw[if_pos rfl];exact r0
  ·cases h2;obtain⟨v,ev⟩:∃ v,vs[i]? = Z v:=(vs[i]'(by rw[hl];exact(j2.mp e).1),xT _)
   refine(v,g _ _ ev,?_);rw[if_neg ne];exact(ro i v t ne ev e).1
  ·cases h2
 ·rcases lk i y h1 with⟨rfl,rfl⟩ |⟨ne,u,e,rfl⟩ |⟨hi,rfl⟩
  ·cases h2
  ·cases h2
  ·rw[if_neg (by lia)];exact rz i hi
 ·have ah:ts.length<=i:=by simp at hi;lia
  rw[if_neg (by lia)];exact rz i ah
 ·rcases lk i _ h1 with⟨rfl,e⟩ |⟨ne,u,e,z⟩ |⟨_,z⟩
  ·refine(by rw[if_pos rfl];exact n0,λb P=>?_,λk hk b P=>?_)
   ·rw[if_pos rfl]at P;exact nM P
   ·rw[if_pos rfl]at P;rw[if_neg hk];intro z;by_cases ai:k<ts.length
    ·exact(ro k (vs[k]'(by lia)) ts[k] hk (xT _) (xT _)).2 b z P
    ·rw[rz k (by omega)]at z;cases z
  ·cases z
  ·cases z
 ·show _ =(vs.map Z++uA (N.length - vs.length) Y).length;simp[hl]
def T.adr:T->Option J
 | .lp a _=>Z a
 | .dp a _=>Z a
 | .om a _ _ _=>Z a
 | _=>Y
theorem aJ.adr{K:W.Frag}{dl:Dl}{H:Hp}{v:V}{t:T}{F:List J}{a:J}(h:aJ K dl H v t F)(e:t.adr=Z a):v = .ref a:=by
 cases t with
 | lp b xs=>cases e;let(_,_,z,_):=h.lpp;exact z
 | dp b xs=>cases e;let(_,_,z,_):=h.dpp;exact z
 | om b _ _ _=>cases e;let(_,_,_,z,_):=h.omm;exact z
 | _=>cases e
def fX.ow(j:Nat)(a:J)(Q:T->T->Prop):fX:={ nx:=λq=>∃ t',q[j]? = Z (.o t')/\t'.adr=Z a/\Q .n t',rt:=λ_=>False,ru:=λq r=>∃ t',q[j]? = Z (.o t')/\t'.adr=Z a/\Q r t' }
variable{P:Program}{mg:Str->Option B}{base:Heap}{x:Str}{qual:Str}{st:Stmt}{fd:FuncData}{ps:List Str}
theorem Fun.okL{w:World}{K:W.Frag}{f:J}{k:Nat}{ah:rQ}(F:Fun K x qual st f fd)(S:aE N ps (aq st))(len:∀ ts Q,ah ts Q->ts.length=ps.length)
  (iz:∀(cdv:B)(A:Around)(outer:List Env)(s:ϋ)(H:Hp)(E:XK),bM k (A.deeper (envOfC qual (aq st) s.heap.objs.size f cdv)) ->
   ∃ t qs,rP (mK CX0 P w K mg base N qual (aq st) f cdv A outer s H E).nox K (cc st) t qs/\∀ ts Q t0 a,ah ts Q->ts[j]? = Z t0->t0.adr=Z a->qs (.ow j a Q) ((ts.map Sl.r).set j (.o t0)++uA (N.length - ts.length) .no))
  (Ov:∀ ts Q,ah ts Q->∃ t0 a,ts[j]? = Z t0/\t0.adr=Z a):aR P w K mg base CX0 (k+1) f fd ps (spL K j ah):=by
 refine F.ok S (λvs H Q E h=>?_) (λcdv A outer s H vs Q E hr h=>?_)
 ·let(dl,ts,v0,t0,F0,Qp,_,hl,_,_,_,_,_,h,_):=h;rw[hl];exact len ts Qp h
 ·let(dl,ts,v0,t0,F0,Qp,D,hl,hv,ht,r0,n0,ro,h,fin):=h;let(t,qs,hb,hq):=iz cdv A outer s H E hr;refine(t,hb.h,?_);let(ax,a,aj,ea):=Ov ts Qp h;rw[ht]at aj;cases aj;have z:=hq ts Qp t0 a h ht ea;have hj:=(j2.mp ht).1;let(G,ro,rz):=ro;have R:=AH (N:=N) (hs:=hsq H F0) D hl hv r0 n0 ro rz hj Hv;have ak:=r0.r.adr ea;have ai:∀{b:J}{o:HO},H b=Z o->b ∉ F0->gO H F0 b=Z o:=λh n=>by rw[jg n];exact h
  have bo:∀{H':Hp}{σ:St}{q:Sq}{F':Nat->List J},Rel K dl (gO H F0) (hsq H F0) H' σ q F'->c8 dl H F0 H':=λ{H' σ q F'} r' =>
   (λb o e n nd nr=>r'.f.k b o (ai e n) nd nr,λb x e n=>r'.f.r b x (ai e n),λb xs hb e=>(by
    let(Fp,rq,_):=r'.h _ (CA hb e);cases rq.r with
    | q h=>exact(_,h)),r'.d)
  have fr:∀{b:J},gO H F0 b=Y->b∈F0\/H b=none:=λ{b} h=>by
   by_cases e:b∈F0
   ·exact .inl e
   ·rw[jg e]at h;exact .inr h
  have at':∀{H':Hp}{σ:St}{q:Sq}{F':Nat->List J}{t':T},Rel K dl (gO H F0) (hsq H F0) H' σ q F'->q[j]? = Z (.o t')->t'.adr=Z a->Rp K dl H' v0 t' (F' j):=λ{H' σ q F' t'} r' e1 e2=>by
   let(v',_,rp):=r'.g j _ _ e1 U;rw[ak,<- rp.r.adr e2];exact rp
  refine hb.s dl (gO H F0) (hsq H F0) H _ _ _ _ (_,R) z (λH' σ q hr V=>?_,λ_ _ _ _ V=>V.elim,λ_ _ _ _ V=>V.elim,λ_ _ _ _ _ _ _ _ _ V=>V.elim,λH' σ q F' v r Fr r' rv f1 n1 dj V=>?_)
  ·let(F',r'):=hr;let(t',e1,e2,V):=V;let(o1,o2,_):=r'.o j t' e1;exact fin .non .n [] t' (F' j) H' (bo r') (at' r' e1 e2) o1 (λb hb=>fr (o2 b hb)) (.n,λ_ z=>nomatch z) kr (λ_ z=>nomatch z) (λ_ z=>nomatch z) V
  ·let(t',e1,e2,V):=V;let(o1,o2,_):=r'.o j t' e1;exact fin v r Fr t' (F' j) H' (bo r') (at' r' e1 e2) o1 (λb hb=>fr (o2 b hb)) rv n1 (λb hb=>fr (f1 b hb)) (dj j) V
variable{i:Nat}{F':List J}
section
variable{K:W.Frag}{H₀ H':Hp}{hs:List (V×T)}{σ:St}{q:Sq}{F:Nat->List J}
def Rel.Qq{t t':T}{v:V}(r:Rel K dl H₀ hs H σ q F)(hi:q[i]? = Z (.o t))(hv:σ[i]? = Z (Z v))(f:c8 dl H (F i) H')(hr:Rp K dl H' v t' F')(n':F'.Nodup)(hF:∀ b∈F',b∈F i\/H b=Y):Rel K dl H₀ hs H' σ (q.set i (.o t')) (DG F i F'):=by
 have th:∀{b:J},b∈F i->fF H b:=λP=>r.bI P
 have ne:∀{b:J}{o:HO},H b=Z o->o.mt=ϊ->b ∉ F i:=λ{b o} h n1 z=>by
  let(_,e,m):=th z;rw[h]at e;cases e;rw[n1]at m;cases m
 have tf:TF H H':=(λb vs h=>f.k b _ h (ne h U) (r.d.nd h (λ_ z=>nomatch z) λ_ z=>nomatch z) (λ_ z=>nomatch z),λb o u h=>f.k b _ h (ne h U) (r.d.nd h (λ_ z=>nomatch z) λ_ z=>nomatch z) (λ_ z=>nomatch z),
  λb φ h=>f.k b _ h (ne h U) (r.d.nd h (λ_ z=>nomatch z) λ_ z=>nomatch z) (λ_ z=>nomatch z),λb xs h=>(by
  by_cases P:b∈F i
  ·exact f.l b xs P h
  ·by_cases hn:Nd dl b
   ·exact(xs,f.k b _ h P hn (λ_ z=>nomatch z))
   ·obtain⟨p,hp,z⟩:∃ p∈dl,¬(b≠p.1/\b≠p.2):=Classical.byContradiction λc=>hn λp hp=>Classical.byContradiction λz=>c (p,hp,z)
    let(s,n,ls,Q):=r.d p hp;let(s',n',ls',Q'):=f.d p hp;have h1:=fR h Q.hd (λz=>nomatch z)
    have h2:=Classical.byContradiction λz'=>z (h1,z')
    exact(_,by rw[h2];exact Q'.hl)),λb x h=>f.r b x h (ne h U))
 have st:∀{w:V}{u:T}{Fw:List J},Rp K dl H w u Fw ->(∀ b∈Fw,b ∉ F i)->Rp K dl H' w u Fw:=λ{w u Fw} h np =>
  (h.r.c6 tf (λ_ z=>z) λb P o e=>f.k b o e (np b P) (h.n b P) (.of (h.r.there b P) e),h.n)
 let(o1,o2,o3):=r.o i t hi;have out:∀ j,j≠i->∀ b∈F',b ∉ F j:=λj hj b P z=>by
  rcases hF b P with h|h
  ·exact o3 j hj b h z
  ·exact(r.bI z).no h
 refine(f.d,λj x u h1 h2=>?_,λj x h1 h2=>?_,λj hj=>?_,λj u h1=>?_,λp hp=>?_,(λb o h n nr=>?_,λb x h=>?_),by simp[r.l])
 ·rcases get_set h1 with⟨rfl,rfl,_⟩ |⟨ne',h1⟩
  ·cases h2;exact(v,hv,by rw[bW];exact hr)
  ·let(w,h3,h4):=r.g j x u h1 h2;exact(w,h3,by rw[bf ne'];exact st h4 λb P z=>o3 j ne' b z P)
 ·rcases get_set h1 with⟨rfl,rfl,_⟩ |⟨ne',h1⟩
  ·cases h2
  ·rw[bf ne'];exact r.n j x h1 h2
 ·have hl:=(j2.mp hi).1;rw[BH]at hj;rw[bf (by lia)]
  exact r.z j hj
 ·rcases get_set h1 with⟨rfl,e,_⟩ |⟨ne',h1⟩
  ·rw[bW];exact(n',λb P=>(hF b P).elim (o2 b) r.fz,λk hk b P=>by rw[bf hk];exact out k hk b P)
  ·let(p1,p2,p3):=r.o j u h1;rw[bf ne'];refine(p1,p2,λk hk b P z=>?_)
   by_cases ek:k=i
   ·subst ek;rw[bW]at z;exact out j ne' b z P
   ·rw[bf ek]at z;exact p3 k hk b P z
 ·let(Fp,h1,h2):=r.h p hp;refine(Fp,st h1 (λb P z=>h2 i t hi b z P),λj u hj b P z=>?_)
  rcases get_set hj with⟨rfl,e,_⟩ |⟨ne',hj⟩
  ·rw[bW]at P;rcases hF b P with h|h
   ·exact h2 j t hi b h z
   ·exact fF.no (h1.r.there b z) h
  ·rw[bf ne']at P;exact h2 j u hj b P z
 ·exact f.k b o (r.f.k b o h n nr) (λz=>by rw[o2 b z]at h;cases h) n nr
 ·let(y,hy,e1):=r.f.r b x h;let(y',ah,e2):=f.r b y e1 (λz=>by rw[o2 b z]at h;cases h)
  exact(y',Tz ah hy,e2)
end
section
variable{X:Cx}{K:W.Frag}{H₀ H':Hp}{hs:List (V×T)}{σ:St}{q:Sq}{F:Nat->List J}{a b e o:Expr}{te tk tv:TE}{qe qk qv:QE}{pos pos' p:Pos}
def Rel.FW{t t':T}(r:Rel K dl H₀ hs H σ q F)(hi:q[i]? = Z (.o t))(Q:∀ v,σ[i]? = Z (Z v)->aJ K dl H v t (F i)->aJ K dl H v t' (F i)):Rel K dl H₀ hs H σ (q.set i (.o t')) F:=by
 refine(r.d,λj x u h1 h2=>?_,λj x h1 h2=>?_,λj P=>r.z j (by rw[BH]at P;exact P),λj u h1=>?_,λp hp=>?_,r.f,by simp[r.l])
 ·rcases get_set h1 with⟨rfl,rfl,_⟩ |⟨ne,h1⟩
  ·cases h2;let(v,h3,h4):=r.g j _ t hi U;exact(v,h3,Q v h3 h4.r,h4.n)
  ·exact r.g j x u h1 h2
 ·rcases get_set h1 with⟨rfl,rfl,_⟩ |⟨ne,h1⟩
  ·cases h2
  ·exact r.n j x h1 h2
 ·rcases get_set h1 with⟨rfl,_,_⟩ |⟨ne,h1⟩
  ·exact r.o j t hi
  ·exact r.o j u h1
 ·let(Fp,h1,h2):=r.h p hp;refine(Fp,h1,λj u P=>?_)
  rcases get_set P with⟨rfl,_,_⟩ |⟨ne,P⟩
  ·exact h2 j t hi
  ·exact h2 j u P
def Rel.asL{p:J}{xs:List T}(r:Rel K dl H₀ hs H σ q F)(hi:q[i]? = Z (.o (.lp p xs))):Rel K dl H₀ hs H σ (q.set i (.o (.l xs))) F:=r.FW hi λv _ h=>by
 let(vs,G,U,e,h1,h2):=h.lpp;rw[e];exact .l h1 h2
def Rel.asP{p:J}{xs:List T}(r:Rel K dl H₀ hs H σ q F)(hi:q[i]? = Z (.o (.l xs)))(hv:σ[i]? = Z (Z (.ref p))):Rel K dl H₀ hs H σ (q.set i (.o (.lp p xs))) F:=r.FW hi λv h3 h=>by
 rw[hv]at h3;cases h3;let(z,vs,G,g,e,h1,h2):=h.lst;cases g;rw[e];exact .lp h1 h2
def dG(he:QPF X K e te qe):QPS X K (.Return (Z e) pos) (Ff te) (λD q=>qe q λr=>D.ru q r):=(mq he.h,λdl H₀ hs H σ q Dq D (F,r) hq E =>
 he.s dl H σ q _ _ r.rd hq λv t F' H' e1 P f1 Q V=>E.ru H' σ q F v t F' (r.evo e1) P (λb g=>r.fz (f1 b g)) Q (λ_ b g z=>(r.bI z).no (f1 b g)) V)
def LA(i:Nat):QE:=λq Q=>match q[i]? with
 | some (.o (.lp _ xs))=>Q (.l xs)
 | _=>False
def qvp(i:Nat){pos:Pos}(V:X.N[i]? = Z x:=by rfl)(hv:Vis X.env.scope x:=by first|exact Or.inl rfl|exact Or.inr (Or.inl U)|exact Or.inr (Or.inr U))(hd:(x ==("__debug__":Str))=false:=by decide)
  (P:(x ==("__classdict__":Str))=false:=by decide):QPE X K (.Name x pos) (bP i) (LA i):=(wG V hv hd P,λdl H σ q Q R rd z k=>by
 unfold LA at z
 split at z
 ·rename_i a ks e;let(v,F,h1,h2):=rd.g i _ _ e U;let(vs,G,U,U,h3,h4):=h2.r.lpp;exact(_,h1,k _ (.l ks) _ H (.refl rd.d) (.l h3 h4,h2.n) z)
 ·exact z.elim)
def Gs(i:Nat)(qk qv:QE):QS:=λD q=>qv q λt=>match q[i]? with
 | some (.o (.lp a xs))=>qk q λu=>match u with
  | .i k=>∃ j,ixN xs.length k=Z j/\T.ims xs=O/\t.im=O/\D.nx (q.set i (.o (.lp a (xs.set j t))))
  | _=>False
 | _=>False
def DB(hk:mQ K tk qk)(hv:mQ K tv qv):zZ K (mW tv (Ox (bP i) tk FZ)) (Gs i qk qv):=λdl H₀ hs H σ q Dq D (F,r) P E=>by
 refine hv dl H σ q _ _ r.rd P λw t F1 H1 e1 r1 P=>?_
 split at P
 ·rename_i a xs ei;let(v,Q,rp):=(r.evo e1).g i _ _ ei U;refine(v,Q,hk dl H1 σ q _ _ (r.rd.evo e1) P λy u F2 H2 e2 r2 P=>?_)
  split at P
  ·let(j,hj,hm,ht,P):=P;let(U,_):=r2.r.int;obtain rfl:=r1.r.im ht;have ah:=rp.evo e1.d e2;let(vs,G,U,eF,h1,h2):=ah.r.lpp;have eG:=h2.im hm;subst eG;have V:i<q.length:=(j2.mp ei).1;refine(a,vs,_,j,U,U,h1,by rw[h2.len];exact hj,?_)
   have rA:=r.asL ei;let(F3,r3):=rA.mn (i:=i) (xs:=xs) (rW V) Q eF (e1.trans e2) (au.set (r1.evo e1.d e2).r j h2 U) kr λ_ z=>nomatch z
   have r4:=r3.asP (i:=i) (rW (by rw[BH];exact V)) Q
   rw[List.set_set,List.set_set]at r4;exact E.nx _ _ _ (_,r4) P
  ·exact P.elim
 ·exact P.elim
def yu(ho:PE X o (bP i))(q:QPE X K a tk qk)(hv:QPE X K b tv qv)(hs:swapsWithSole [.Subscript o a pos'] b pos.line X.env=pure false:=by rfl)(hw:swappedStores [.Subscript o a pos'] b X.env=pure none:=by rfl)
  (h1:(assignEach [.Subscript o a pos'] X.env).map (·.2) = [assign (.Subscript o a pos') X.env]:=by rfl)
  (ha:∀ v,assign (.Subscript o a pos') X.env v =(do
   let g <- holding [v] (eval o X.env)
   let iv <- holding [v,g] (eval a X.env)
   standAt pos'
   holding [v,g,iv] (setItem g iv v)
   release [v,g,iv] []):=by intro _;rfl):QPS X K (.Assign [.Subscript o a pos'] b pos) (mW tv (Ox (bP i) tk FZ)) (Gs i qk qv) :=
 (GH hv.h (Nr ho q.h set_list ha) hs hw h1,DB q.s hv.s)
end
end L2
namespace L2
end L2
namespace L2
open PySem PySem.Spec PyProof.Rows
abbrev Way:=List (Sum Str Nat)
def putN(f:Str):List Str->List Str
 | []=>[f]
 | g::r=>if g=f then g::r else g::putN f r
def d9{α:Type}(f:Str)(y:α):List Str->List α->List α
 | [],_=>[y]
 | g::r,x::ts=>if g=f then y::ts else x::d9 f y r ts
 | _::_,[]=>[]
def T.sub:Way->T->Option T
 | [],x=>Z x
 | .inl f::p,.om _ _ ns ts=>match(ns.zip ts).lookup f with
  | some u=>T.sub p u
  | none=>Y
 | .inr m::p,.l ts=>match ts[m]? with
  | some u=>T.sub p u
  | none=>Y
 | .inr m::p,.lp _ ts=>match ts[m]? with
  | some u=>T.sub p u
  | none=>Y
 | _::_,_=>Y
def T.put(u:T):Way->T->T
 | [],_=>u
 | .inl f::p,.om a C ns ts=>match(ns.zip ts).lookup f with
  | some x=>.om a C ns (d9 f (T.put u p x) ns ts)
  | none=>.om a C ns ts
 | .inr m::p,.l ts=>match ts[m]? with
  | some x=>.l (ts.set m (T.put u p x))
  | none=>.l ts
 | .inr m::p,.lp a ts=>match ts[m]? with
  | some x=>.lp a (ts.set m (T.put u p x))
  | none=>.lp a ts
 | _::_,x=>x
def VAt(H:Hp):Way->V->V->Prop
 | [],v,w=>v=w
 | .inl f::p,v,w=>∃ a C dx fs x,v = .ref a/\H a=Z (.ins C dx fs)/\fs.lookup f=Z x/\VAt H p x w
 | .inr m::p,v,w=>∃ a xs x,v = .ref a/\H a=Z (.lst xs)/\xs[m]? = Z x/\VAt H p x w
variable{H:Hp}
def VAt.uniq{p:Way}:∀{v w K:V},VAt H p v w->VAt H p v K->w=K:=by
 induction p with
 | nil=>exact λh h'=>h.symm.trans h'
 | cons s p Q =>
  intro v w K h h';cases s with
  | inl f =>
   let(a,C,dx,fs,x,e,h1,h2,h3):=h;let(a',C',aj,ai,x',P,z,q,g):=h';subst e;cases P;cases h1.symm.trans z;cases h2.symm.trans q;exact Q h3 g
  | inr m =>
   let(a,xs,x,e,h1,h2,h3):=h;let(a',ah,x',P,z,q,g):=h';subst e;cases P;cases h1.symm.trans z;cases h2.symm.trans q;exact Q h3 g
def VAt.snoc{s:Sum Str Nat}{p:Way}:∀{v w x:V},VAt H p v w->VAt H [s] w x->VAt H (p ++ [s]) v x:=by
 induction p with
 | nil=>intro v w x h h';cases h;exact h'
 | cons t p g =>
  intro v w x h h';cases t with
  | inl f=>let(a,C,dx,fs,x,e,h1,h2,h3):=h;exact(a,C,dx,fs,x,e,h1,h2,g h3 h')
  | inr m=>let(a,xs,x,e,h1,h2,h3):=h;exact(a,xs,x,e,h1,h2,g h3 h')
def T.BY{f:Str}{p:Way}{y u:T}(h:T.sub (.inl f::p) y=Z u):∃ a C ns ts x,y = .om a C ns ts/\(ns.zip ts).lookup f=Z x/\T.sub p x=Z u:=by
 cases y with
 | om a C ns ts =>
  unfold T.sub at h;cases e:(ns.zip ts).lookup f with
  | none=>rw[e]at h;cases h
  | some x=>rw[e]at h;exact(a,C,ns,ts,x,U,e,h)
 | _=>cases h
def T.BX{m:Nat}{p:Way}{y u:T}(h:T.sub (.inr m::p) y=Z u):∃ ts x,(y = .l ts\/∃ a,y = .lp a ts)/\ts[m]? = Z x/\T.sub p x=Z u:=by
 cases y with
 | l ts =>
  unfold T.sub at h;cases e:ts[m]? with
  | none=>rw[e]at h;cases h
  | some x=>rw[e]at h;exact(ts,x,.inl U,e,h)
 | lp a ts =>
  unfold T.sub at h;cases e:ts[m]? with
  | none=>rw[e]at h;cases h
  | some x=>rw[e]at h;exact(ts,x,.inr (a,U),e,h)
 | _=>cases h
def T.sub_snoc{s:Sum Str Nat}{p:Way}:∀{t u x:T},T.sub p t=Z u->T.sub [s] u=Z x->T.sub (p ++ [s]) t=Z x:=by
 induction p with
 | nil=>intro t u x h h';cases h;exact h'
 | cons r p g =>
  intro t u x h h';cases r with
  | inl f =>
   let(a,C,ns,ts,y,U,e,h):=T.BY h;show T.sub (.inl f ::(p ++ [s])) _=_;unfold T.sub;rw[e];exact g h h'
  | inr m =>
   obtain⟨ts,y,rfl |⟨_,rfl⟩,e,h⟩:=T.BX h <;>
   ·show T.sub (.inr m ::(p ++ [s])) _=_;unfold T.sub;rw[e];exact g h h'
def BO{f:Str}{v:V}:∀{ns:List Str}{vs:List V},ns.length=vs.length->dR f v (ns.zip vs) =(putN f ns).zip (d9 f v ns vs):=by
 intro ns
 induction ns with
 | nil=>intro vs h;cases vs with|nil=>rfl|cons=>cases h
 | cons g r q =>
  intro vs h;cases vs with
  | nil=>cases h
  | cons x vs =>
   show dR f v ((g,x)::r.zip vs)=_;unfold dR putN d9
   split
   ·rfl
   ·rw[q (Nat.succ.inj h)];rfl
theorem wz{α:Type}{f:Str}{y:α}:∀{ns:List Str}{ts:List α},ns.length=ts.length ->(putN f ns).length =(d9 f y ns ts).length
 | [],[],_=>rfl
 | g::r,x::ts,h=>by
  unfold putN d9
  split
  ·exact h
  ·exact congrArg (· + 1) (wz (Nat.succ.inj h))
theorem yE{f:Str}{v:V}:∀{ns:List Str}{vs:List V},(ns.zip vs).lookup f=Z v->putN f ns=ns/\(ns.length=vs.length->d9 f v ns vs=vs)
 | [],_,h=>by cases h
 | g::r,[],h=>by cases h
 | g::r,x::vs,h=>by
  rw[show(g::r).zip (x::vs) =(g,x)::r.zip vs from U,ui]at h;unfold putN d9;by_cases e:g=f
  ·subst e;rw[beq_self_eq_true]at h;cases h;exact(if_pos U,λ_=>if_pos U)
  ·have q:=beq_eq_false_iff_ne.mpr λz=>e z.symm
   rw[q]at h;let(h1,h2):=yE h;rw[if_neg e,if_neg e,h1];exact(U,λl=>by rw[h2 (Nat.succ.inj l)])
theorem vx{α β:Type}{f:Str}:∀{ns:List Str}{vs:List α}{ts:List β},vs.length=ts.length ->((ns.zip ts).lookup f=Y ↔ (ns.zip vs).lookup f=Y)
 | [],_,_,_=>by simp
 | g::r,[],[],_=>by simp
 | g::r,x::vs,y::ts,h=>by
  rw[show(g::r).zip (x::vs) =(g,x)::r.zip vs from U,show(g::r).zip (y::ts) =(g,y)::r.zip ts from U,ui,ui]
  split
  ·simp
  ·exact vx (Nat.succ.inj h)
variable{a:J}{i:Nat}
section
variable{K:W.Frag}{dl:Dl}
theorem au.fld{f:Str}{vs:List V}{ts:List T}{F:List J}(h:au K dl H vs ts F):∀{ns:List Str}{c:T},(ns.zip ts).lookup f=Z c->∃ w Fc G,(ns.zip vs).lookup f=Z w/\aJ K dl H w c Fc/\F.Perm (Fc++G) /\
  ∀ H' Q c' q,TF H H' ->(∀ b∈G,∀ o,H b=Z o->H' b=Z o)->aJ K dl H' Q c' q->∃ F',au K dl H' (d9 f Q ns vs) (d9 f c' ns ts) F'/\F'.Perm (q++G) :=
 h.ind (M:=λvs ts F=>∀{ns:List Str}{c:T},(ns.zip ts).lookup f=Z c->∃ w Fc G,(ns.zip vs).lookup f=Z w/\aJ K dl H w c Fc/\F.Perm (Fc++G) /\   ∀ H' Q c' q,TF H H' ->(∀ b∈G,∀ o,H b=Z o->H' b=Z o)->aJ K dl H' Q c' q->∃ F',au K dl H' (d9 f Q ns vs) (d9 f c' ns ts) F'/\F'.Perm (q++G)) 
  (λ{ns c} e=>by cases ns <;> cases e) λv x vs ts F G hx hr ih ns c e=>by
  cases ns with
  | nil=>cases e
  | cons g r =>
   rw[show(g::r).zip (x::ts) =(g,x)::r.zip ts from U,ui]at e;by_cases eg:g=f
   ·subst eg;rw[beq_self_eq_true]at e;cases e;refine(v,F,G,?_,hx,.refl _,λH' Q c' q tf k h'=>(q++G,?_,.refl _))
    ·rw[show(g::r).zip (v::vs) =(g,v)::r.zip vs from U,ui,beq_self_eq_true]
    ·unfold d9;rw[if_pos U,if_pos rfl];exact .cons h' (hr.c6 tf (λ_ z=>z) k)
   ·have P:=beq_eq_false_iff_ne.mpr λz=>eg z.symm
    rw[P]at e;let(w,Fc,G1,h1,h2,h3,h4):=ih e;refine(w,Fc,F++G1,?_,h2,((h3.append_left F).trans (Q8 _ _ _)),λH' Q c' q tf k h'=>?_)
    ·rw[show(g::r).zip (v::vs) =(g,v)::r.zip vs from U,ui,P];exact h1
    ·let(F',q1,q2):=h4 H' Q c' q tf (λb P=>k b (j0 _ P)) h'
     unfold d9;rw[if_neg eg,if_neg eg];exact(F++F',.cons (hx.c6 tf (λ_ z=>z) λb P=>k b (oE _ P)) q1,(q2.append_left F).trans (Q8 _ _ _))
theorem au.Bs{f:Str}{w:V}{c:T}{P:List J}(hw:aJ K dl H w c P):∀{ns:List Str}{vs:List V}{ts:List T}{F:List J},au K dl H vs ts F->ns.length=ts.length ->(ns.zip ts).lookup f=Y->au K dl H (d9 f w ns vs) (d9 f c ns ts) (F++(P ++ []))
 | [],_,_,_,.nil,_,_=>.cons (F:=P) hw .nil
 | [],_,_,_,.cons _ _,l,_=>nomatch l
 | g::r,_,_,_,.nil,l,_=>nomatch l
 | g::r,_,_,_,.cons (x:=x) (ts:=ts) hx hr,l,e=>by
  rw[show(g::r).zip (x::ts) =(g,x)::r.zip ts from U,ui]at e;by_cases q:g=f
  ·subst q;rw[beq_self_eq_true]at e;cases e
  ·have Q:=beq_eq_false_iff_ne.mpr λz=>q z.symm
   rw[Q]at e;unfold d9;rw[if_neg q,if_neg q,BI];exact .cons hx (au.Bs hw hr (Nat.succ.inj l) e)
theorem au.itm{vs:List V}{ts:List T}{F:List J}(h:au K dl H vs ts F):∀{i:Nat}{c:T},ts[i]? = Z c->∃ w Q G,vs[i]? = Z w/\aJ K dl H w c Q/\F.Perm (Q++G) /\
  ∀ H' q P g,TF H H' ->(∀ b∈G,∀ o,H b=Z o->H' b=Z o)->aJ K dl H' q P g->∃ F',au K dl H' (vs.set i q) (ts.set i P) F'/\F'.Perm (g++G) :=
 h.ind (M:=λvs ts F=>∀{i:Nat}{c:T},ts[i]? = Z c->∃ w Q G,vs[i]? = Z w/\aJ K dl H w c Q/\F.Perm (Q++G) /\   ∀ H' q P g,TF H H' ->(∀ b∈G,∀ o,H b=Z o->H' b=Z o)->aJ K dl H' q P g->∃ F',au K dl H' (vs.set i q) (ts.set i P) F'/\F'.Perm (g++G)) 
  (λ{i c} e=>nomatch e) λv x vs ts F G hx hr ih i c e=>by
  cases i with
  | zero =>
   cases e;exact(v,F,G,U,hx,.refl _,λH' q P g tf k h'=>(g++G,.cons h' (hr.c6 tf (λ_ z=>z) k),.refl _))
  | succ i =>
   let(w,Q,G1,h1,h2,h3,h4):=ih (by simpa using e)
   refine(w,Q,F++G1,by simpa using h1,h2,((h3.append_left F).trans (Q8 _ _ _)),λH' q P g tf k h'=>?_)
   let(F',q1,q2):=h4 H' q P g tf (λb hb=>k b (j0 _ hb)) h'
   exact(F++F',.cons (hx.c6 tf (λ_ z=>z) λb hb=>k b (oE _ hb)) q1,(q2.append_left F).trans (Q8 _ _ _))
def pm2{b:J}{A Vm C:List J}:(a::b ::(A++Vm++C)).Perm (A++(a::b ::(Vm++C))):=by
 rw[BI];exact(Ve.trans (List.perm_middle.cons _)).symm
def pm1{A Vm C:List J}:(a ::(A++Vm++C)).Perm (A++(a ::(Vm++C))):=by
 rw[BI];exact Ve.symm
def DF{α:Type}{xs:List α}{x:α}(h:xs[i]? = Z x):xs.set i x=xs:=by
 let(hl,U):=j2.mp h;exact List.set_getElem_self hl
theorem aJ.zip:∀(p:Way){v:V}{t u:T}{F:List J},aJ K dl H v t F->T.sub p t=Z u->∃ w z G,(∀ H1:Hp,(∀ b∈G,∀ o,H b=Z o->H1 b=Z o)->VAt H1 p v w)/\aJ K dl H w u z/\F.Perm (z++G) /\
  ∀ H' u' g,TF H H' ->(∀ b∈G,∀ o,H b=Z o->H' b=Z o)->aJ K dl H' w u' g->∃ F',aJ K dl H' v (T.put u' p t) F'/\F'.Perm (g++G):=by
 intro p
 induction p with
 | nil =>
  intro v y u F h ex;cases ex;exact(v,F,[],λ_ _=>rfl,h,by rw[ko],λH' u' g _ _ h'=>(g,h',by rw[ko]))
 | cons s p ih =>
  intro v y u F h ex;cases s with
  | inl f =>
   let(a,C,ns,ts,c,U,ec,ex):=T.BY ex;let(dx,vs,G0,U,U,h1,h2,h3,h4):=h.omm;let(w1,F1,Q,a1,a2,a3,a4):=h4.fld ec;let(w,z,G2,b1,b2,b3,b4):=ih a2 ex;refine(w,z,a::dx ::(G2++Q),λH1 k1=>(a,C,dx,_,w1,U,k1 a dZ _ h1,a1,b1 H1 λb q=>k1 b (c5 _ (c5 _ (oE _ q)))),b2,((a3.trans (b3.append_right Q)).cons dx |>.cons a).trans pm2,λH' u' g tf k h'=>?_)
   let(F',q1,q2):=b4 H' u' g tf (λb q=>k b (c5 _ (c5 _ (oE _ q)))) h'
   let(F2,q3,q4):=a4 H' w1 _ F' tf (λb q=>k b (c5 _ (c5 _ (j0 _ q)))) q1
   let(s1,s2):=yE a1;have hl:=h4.len;rw[s2 (by lia)]at q3
   refine(a::dx::F2,?_,((q4.trans (q2.append_right Q)).cons dx |>.cons a).trans pm2)
   unfold T.put;rw[ec];exact .om (k a dZ _ h1) (k dx (c5 _ dZ) _ h2) (h3.trans (h4.len.symm.trans q3.len)) q3
  | inr m =>
   let(ts,c,ey,ec,ex):=T.BX ex;have go:∀{a vs G0},F=a::G0->v = .ref a->H a=Z (.lst vs)->au K dl H vs ts G0 ->(∀{H' ah P F2},H' a=Z (.lst ah)->au K dl H' ah P F2->aJ K dl H' (.ref a) (match y with | .lp c0 _=>.lp c0 P | _=>.l P) (a::F2))->∃ w z G,(∀ H1:Hp,(∀ b∈G,∀ o,H b=Z o->H1 b=Z o)->VAt H1 (.inr m::p) v w)/\aJ K dl H w u z/\F.Perm (z++G) /\
     ∀ H' u' g,TF H H' ->(∀ b∈G,∀ o,H b=Z o->H' b=Z o)->aJ K dl H' w u' g->∃ F',aJ K dl H' v (T.put u' (.inr m::p) y) F'/\F'.Perm (g++G):=by
    intro a vs G0 e1 e2 h1 h4 back;subst e1 e2;let(w1,F1,Q,a1,a2,a3,a4):=h4.itm ec;let(w,z,G2,b1,b2,b3,b4):=ih a2 ex;refine(w,z,a ::(G2++Q),λH1 k1=>(a,_,w1,U,k1 a dZ _ h1,a1,b1 H1 λb q=>k1 b (c5 _ (oE _ q))),b2,((a3.trans (b3.append_right Q)).cons a).trans pm1,λH' u' g tf k h'=>?_)
    let(F',q1,q2):=b4 H' u' g tf (λb q=>k b (c5 _ (oE _ q))) h'
    let(F2,q3,q4):=a4 H' w1 _ F' tf (λb q=>k b (c5 _ (j0 _ q))) q1
    rw[DF a1]at q3;refine(a::F2,?_,((q4.trans (q2.append_right Q)).cons a).trans pm1);have bk:=back (k a dZ _ h1) q3;rcases ey with rfl |⟨b,rfl⟩ <;>
    ·unfold T.put;rw[ec];exact bk
   rcases ey with rfl |⟨b,rfl⟩
   ·let(a,vs,G0,e1,e2,h1,h4):=h.lst;exact go e2 e1 h1 h4 λg1 g2=>.l g1 g2
   ·let(vs,G0,e1,e2,h1,h4):=h.lpp;exact go e2 e1 h1 h4 λg1 g2=>.lp g1 g2
end
variable{dl:Dl}{H':Hp}
def c8.tf{F:List J}(f:c8 dl H F H')(th:∀ b∈F,fF H b)(D:Dls dl H):TF H H':=by
 have ne:∀{b:J}{o:HO},H b=Z o->o.mt=ϊ->b ∉ F:=λ{b o} h K z=>by
  let(_,e,m):=th b z;rw[h]at e;cases e;rw[K]at m;cases m
 refine(λb vs h=>f.k b _ h (ne h U) (D.nd h (λ_ z=>nomatch z) λ_ z=>nomatch z) (λ_ z=>nomatch z),λb o u h=>f.k b _ h (ne h U) (D.nd h (λ_ z=>nomatch z) λ_ z=>nomatch z) (λ_ z=>nomatch z),
  λb φ h=>f.k b _ h (ne h U) (D.nd h (λ_ z=>nomatch z) λ_ z=>nomatch z) (λ_ z=>nomatch z),λb xs h=>?_,λb x h=>f.r b x h (ne h U))
 by_cases g:b∈F
 ·exact f.l b xs g h
 ·by_cases hn:Nd dl b
  ·exact(xs,f.k b _ h g hn (λ_ z=>nomatch z))
  ·obtain⟨p,hp,z⟩:∃ p∈dl,¬(b≠p.1/\b≠p.2):=Classical.byContradiction λc=>hn λp hp=>Classical.byContradiction λz=>c (p,hp,z)
   let(s,n,ls,Q):=D p hp;let(s',V,ls',P):=f.d p hp;have h1:=fR h Q.hd (λz=>nomatch z)
   have h2:=Classical.byContradiction λq=>z (h1,q)
   exact(_,by rw[h2];exact P.hl)
variable{G:List J}{j:Nat}
section
variable{K:W.Frag}{H₀:Hp}{hs:List (V×T)}{σ:St}{q:Sq}{F:Nat->List J}
def Rel.modZ{t u:T}{v w:V}{Fu:List J}{put:T->T}(r:Rel K dl H₀ hs H σ q F)(hi:q[i]? = Z (.o t))(hv:σ[i]? = Z (Z v))(h2:aJ K dl H w u Fu)(h3:(F i).Perm (Fu++G))(h4:∀ H' u' Q,TF H H' ->(∀ b∈G,∀ o,H b=Z o->H' b=Z o)->aJ K dl H' w u' Q->∃ F',aJ K dl H' v (put u') F'/\F'.Perm (Q++G)):Rp K dl H w u Fu/\Fu.Nodup /\
  ∀ H' u' Q,c8 dl H Fu H'->Rp K dl H' w u' Q->Q.Nodup ->(∀ b∈Q,b∈Fu\/H b=Y)->∃ F',Rel K dl H₀ hs H' σ (q.set i (.o (put u'))) F':=by
 let(v',ah,rp):=r.g i _ t hi U;let(o1,o2,o3):=r.o i t hi;have nd:=(h3.nodup_iff.mp o1);let(n1,n2,n3):=xQ.mp nd;have P:∀ b,b∈Fu\/b∈G->b∈F i:=λb hb=>h3.mem_iff.mpr (j1.mpr hb)
 refine((h2,λb hb=>rp.n b (P b (.inl hb))),n1,λH' u' Q f r' n' hF=>?_)
 have kG:=λb hb o e=>f.k b o e (λz=>n3 b z b hb U) (rp.n b (P b (.inr hb))) (.of (r.bI (P b (.inr hb))) e)
 let(F',q1,q2):=h4 H' u' Q (f.tf (λb hb=>h2.there b hb) r.d) kG r'.r
 have f2:c8 dl H (F i) H':=(λb o e n=>f.k b o e λz=>n (P b (.inl z)),λb x e n=>f.r b x e λz=>n (P b (.inl z)),λb xs hb e=>(by
  by_cases z:b∈Fu
  ·exact f.l b xs z e
  ·exact(xs,f.k b _ e z (rp.n b hb) λ_ z=>nomatch z)),f.d)
 refine(_,r.Qq hi hv f2 (q1,λb hb=>?_) (q2.nodup_iff.mpr (xQ.mpr (n',n2,λx hx y hy e=>?_))) λb hb=>?_)
 ·rcases j1.mp (q2.mem_iff.mp hb)with z|z
  ·exact r'.n b z
  ·exact rp.n b (P b (.inr z))
 ·subst e;rcases hF x hx with z|z
  ·exact n3 x z x hy U
  ·exact(r.bI (P x (.inr hy))).no z
 ·rcases j1.mp (q2.mem_iff.mp hb)with z|z
  ·rcases hF b z with z|z
   ·exact .inl (P b (.inl z))
   ·exact .inr z
  ·exact .inl (P b (.inr z))
def Rel.mod{p:Way}{t u:T}(r:Rel K dl H₀ hs H σ q F)(hi:q[i]? = Z (.o t))(hu:T.sub p t=Z u):∃ v w P,σ[i]? = Z (Z v)/\(∀ H1,Evo dl H H1->VAt H1 p v w)/\Rp K dl H w u P/\P.Nodup /\
  ∀ H' u' z,c8 dl H P H'->Rp K dl H' w u' z->z.Nodup ->(∀ b∈z,b∈P\/H b=Y)->∃ F',Rel K dl H₀ hs H' σ (q.set i (.o (T.put u' p t))) F':=by
 let(v,hv,rp):=r.g i _ t hi U;let(w,P,G,h1,h2,h3,h4):=rp.r.zip p hu;let(a,b,c):=r.modZ hi hv h2 h3 h4;have Q:∀ b,b∈G->b∈F i:=λb V=>h3.mem_iff.mpr (j0 _ V)
 exact(v,w,P,hv,λH1 e=>h1 H1 λb V o eo=>e.k b o eo (rp.n b (Q b V)) (.of (r.bI (Q b V)) eo),a,b,c)
def RdR.part{p:Way}{t u:T}{v w:V}(rd:RdR K dl H σ q)(hj:q[j]? = Z (.o t))(hv:σ[j]? = Z (Z v))(hu:T.sub p t=Z u)(hw:VAt H p v w):∃ P,Rp K dl H w u P:=by
 let(v',F,h1,Q):=rd.g j _ t hj U;rw[hv]at h1;cases h1;let(w',P,G,h1,h2,h3,_):=Q.r.zip p hu;cases hw.uniq (h1 H λ_ _ _ z=>z)
 exact(P,h2,λb hb=>Q.n b (h3.mem_iff.mpr (oE _ hb)))
end
abbrev QL:=Sq ->(Way->T->Prop)->Prop
def OV(K:W.Frag)(j:Nat)(te:TE)(ql:QL):Prop:=∀(dl:Dl)(H:Hp)(σ:St)(q:Sq)(P:Way->T->Prop)(R:V->Hp->Prop),RdR K dl H σ q->ql q P ->
 (∀ t v p u w,q[j]? = Z (.o t)->σ[j]? = Z (Z v)->T.sub p t=Z u->VAt H p v w->P p u->R w H)->te σ H R
structure QPL(X:Cx)(K:W.Frag)(j:Nat)(e:Expr)(te:TE)(ql:QL):Prop where
 h:PE X e te
 s:OV K j te ql
variable{x:Str}
section
variable{X:Cx}{K:W.Frag}{a b e o:Expr}{te tb:TE}{ql:QL}{pos:Pos}{f:Str}{C:J}
def Ly(j:Nat):QL:=λq P=>match q[j]? with
 | some (.o t)=>P [] t
 | _=>False
def aL{pos:Pos}(V:X.N[j]? = Z x:=by rfl)(hv:Vis X.env.scope x:=by first|exact Or.inl rfl|exact Or.inr (Or.inl U)|exact Or.inr (Or.inr U))(hd:(x ==("__debug__":Str))=false:=by decide)
  (Q:(x ==("__classdict__":Str))=false:=by decide):QPL X K j (.Name x pos) (bP j) (Ly j):=(wG V hv hd Q,λdl H σ q P R rd z k=>by
 unfold Ly at z
 split at z
 ·rename_i t e;let(v,F,h1,h2):=rd.g j _ t e U;exact(v,h1,k t v [] t v e h1 U U z)
 ·exact z.elim)
def PB(C:J)(f:Str)(ql:QL):QL:=λq P=>ql q λp u=>match u with
 | .om _ g ns ts=>g=C/\∃ x,(ns.zip ts).lookup f=Z x/\P (p ++ [.inl f]) x
 | _=>False
def kM(hc:Cls K C)(hn:bJ K C f)(he:QPL X K j e te ql)(hb:attributeBase e f X.env (eval e X.env)=eval e X.env:=by rfl)(hK:X.K=K:=by rfl):QPL X K j (.Attribute e f pos) (Mp K te f) (PB C f ql) :=
 (by subst hK;exact GW he.h hb,λdl H σ q P R rd hq k=>he.s dl H σ q _ _ rd hq λt v p u w V hv hs hw g=>by
  split at g
  ·rename_i x C' ns ts;let(U,y,Q,g):=g;let(Fu,rp):=rd.part V hv hs hw;let(dx,vs,G,U,U,h1,h2,h3,h4):=rp.r.omm;let(z,_,_,l1,_):=h4.fld Q;exact(x,_,dx,_,z,U,h1,hc,hn,l1,k t v _ y z V hv (T.sub_snoc hs (by unfold T.sub;rw[Q];rfl)) (hw.snoc (show VAt H [.inl f] (.ref x) z from(x,_,dx,_,z,U,h1,l1,U))) g)
  ·exact g.elim)
def R5(n:Int)(ql:QL):QL:=λq P=>ql q λp u=>match u with
 | .l xs=>∃ m x,ixN xs.length n=Z m/\xs[m]? = Z x/\P (p ++ [.inr m]) x
 | _=>False
def Py{n:Int}(he:QPL X K j e te ql)(hb:PE X b tb)(hn:∀ σ H R,R (.int n) H->tb σ H R)(hs:oB b:=by intro _ _;rfl)(hK:X.K=K:=by rfl):QPL X K j (.Subscript e b pos) (tOp (rIx K) te tb) (R5 n ql) :=
 (by subst hK;exact Cj xg he.h hb hs,λdl H σ q P R rd hq k=>he.s dl H σ q _ _ rd hq λt v p u w Q hv hs hw g=>by
  split at g
  ·let(m,x,hm,hx,g):=g;let(Fu,V):=rd.part Q hv hs hw;let(a,vs,G,U,U,h1,h2):=V.r.lst;let(z,_,_,l1,_):=h2.itm hx;refine hn _ _ _ (.inl (a,vs,n,z,U,U,SqL.of h1,mM (by rw[h2.len];exact hm) l1,k t v _ x z Q hv (T.sub_snoc hs (by unfold T.sub;rw[hx];rfl)) (hw.snoc (show VAt H [.inr m] (.ref a) z from(a,_,z,U,h1,l1,U))) g))
  ·exact g.elim)
def R8(ql:QL):QE:=λq Q=>ql q λ_ u=>Q u
def eR(he:QPL X K j e te ql):QPE X K e te (R8 ql):=(he.h,λdl H σ q Q R rd P k=>he.s dl H σ q _ _ rd P λt v p u w V hv hs hw z=>by
 let(Fu,g):=rd.part V hv hs hw;exact k w u Fu H (.refl rd.d) g z)
end
def Ae{x b:J}{o:HO}{S:List J}(hx:x ∉ S)(g:b∈S):upd H x o b=H b:=ao λz=>hx (by rw[<- z];exact g)
def E6{x b:J}{o:HO}{S:List J}(hx:x∈S)(g:b ∉ S):upd H x o b=H b:=ao λz=>g (by rw[z];exact hx)
variable{H1:Hp}
def c8.uO{g:List J}{x:J}{o:HO}(e:Evo dl H H1)(hx:x∈g)(hn:∀ b∈g,Nd dl b)(hl:∀ xs,H x=Z (.lst xs)->∃ ys,o = .lst ys):c8 dl H g (upd H1 x o) where
 k:=λb ob h nb n q=>by rw[E6 hx nb];exact e.k b ob h n q
 r:=λb y h nb=>by rw[E6 hx nb];exact e.r b y h
 l:=λb xs K h=>by
  by_cases z:b=x
  ·subst z;let(ys,U):=hl xs h;exact(ys,aB)
  ·exact(xs,by rw[ao z];exact e.k b _ h (hn b K) λ_ z=>nomatch z)
 d:=λp hp=>(e.d p hp).other (hn x hx p hp).1 (hn x hx p hp).2
section
variable{K:W.Frag}
theorem Rp.dR{f:Str}{x C dx:J}{ns:List Str}{vs:List V}{ts:List T}{G Fy:List J}{y:V}{ty:T}{w:V}(hu:Rp K dl H w (.om x C ns ts) (x::dx::G))(e:Evo dl H H1)(D:Dls dl H)(q:H1 x=Z (.ins C dx (ns.zip vs)))(hy:Rp K dl H1 y ty Fy)(nu:(x::dx::G).Nodup)(ny:Fy.Nodup)(fy:∀ b∈Fy,H b=Y)(hv:vs.length=ns.length) :
  ∃ ah,Rp K dl (upd H1 x (.ins C dx (L2.dR f y (ns.zip vs)))) w (.om x C (putN f ns) (d9 f ty ns ts)) ah/\ah.Nodup/\∀ b∈ah,b∈x::dx::G\/H b=none:=by
 have ak:=hu.evo D e;let(aG,aA,G',U,eG,h1,h2,h3,h4):=ak.r.omm;injection eG with _ eG
 injection eG with e1 eG
 subst e1 eG;rw[q]at h1;injection h1 with h1
 injection h1 with _ _ h1
 have ax:=h4.len;obtain rfl:=zip_inj hv (ax.trans h3.symm) h1;have ai:x≠dx:=λz=>(rX.mp nu).1 (by rw[z];exact dZ)
 have Q:=λz=>(rX.mp nu).1 (c5 _ z)
 have P:TF H1 (upd H1 x (.ins C dx (L2.dR f y (ns.zip vs)))):=c8.tf (c8.uO (.refl e.d) (dZ) (λb g=>by rw[bB.mp g];exact hu.n x dZ) (λxs h=>by rw[h]at q;cases q)) (λb g=>by rw[bB.mp g];exact(_,q,U)) e.d
 have th:=λb g=>hu.r.there b g
 have yx:=λb g z=>(th b z).no (fy b g)
 have ky:∀ b∈Fy,∀ o,H1 b=Z o->upd H1 x (.ins C dx (L2.dR f y (ns.zip vs))) b=Z o:=λb g o h=>by
  rw[ao λz=>yx b g (by rw[z];exact dZ)];exact h
 have ry:=hy.r.c6 P (λ_ z=>z) ky
 have hd2:upd H1 x (.ins C dx (L2.dR f y (ns.zip vs))) dx=Z (.own x):=by rw[ao ai.symm];exact h2
 have aj:upd H1 x (.ins C dx (L2.dR f y (ns.zip vs))) x=Z (.ins C dx ((putN f ns).zip (d9 f y ns vs))):=by rw[aB,BO (by lia)]
 obtain⟨F',q1,q2,q3⟩:∃ F',au K dl (upd H1 x (.ins C dx (L2.dR f y (ns.zip vs)))) (d9 f y ns vs) (d9 f ty ns ts) F'/\F'.Nodup/\∀ b∈F',b∈G\/b∈Fy:=by
  have nG:=(rX.mp (rX.mp nu).2).2;cases hl:(ns.zip ts).lookup f with
  | none =>
   refine(G++(Fy ++ []),au.Bs ry (h4.c6 P (λ_ z=>z) λb g o h=>by rw[Ae Q g];exact h) h3 hl,?_,λb g=>?_)
   ·rw[ko];exact xQ.mpr (nG,ny,λa ha b g z=>yx b g (by rw[<- z];exact c5 _ (c5 _ ha)))
   ·rw[ko]at g;exact j1.mp g
  | some c =>
   let(w1,Fc,G1,_,_,a3,a4):=h4.fld hl;let(F',q1,q2):=a4 _ y ty Fy P (λb g o h=>by rw[Ae Q (a3.mem_iff.mpr (j0 _ g))];exact h) ry
   have n1:=(xQ.mp (a3.nodup_iff.mp nG)).2.1;refine(F',q1,q2.nodup_iff.mpr (xQ.mpr (ny,n1,λa ha b g z=>yx a ha (by rw[z];exact c5 _ (c5 _ (a3.mem_iff.mpr (j0 _ g)))))),λb g=>?_)
   rcases j1.mp (q2.mem_iff.mp g)with z|z
   ·exact .inr z
   ·exact .inl (a3.mem_iff.mpr (j0 _ z))
 have out:∀ b∈F',b≠x/\b≠dx:=λb g=>by
  rcases q3 b g with z|z
  ·exact(λe=>Q (e▸z),λe=>(rX.mp (rX.mp nu).2).1 (e▸z))
  ·exact(λe=>yx b z (by rw[e];exact dZ),λe=>yx b z (by rw[e];exact c5 _ dZ))
 refine(x::dx::F',(.om aj hd2 (wz (by omega)) q1,λb g=>?_),rX.mpr (λz=>?_,rX.mpr (λz=>(out dx z).2 U,q2)),λb g=>?_)
 ·rcases i8.mp g with z|g
  ·rw[z];exact hu.n x dZ
  ·rcases i8.mp g with z|g
   ·rw[z];exact hu.n dx (c5 _ dZ)
   ·rcases q3 b g with z|z
    ·exact hu.n b (c5 _ (c5 _ z))
    ·exact hy.n b z
 ·rcases i8.mp z with z|z
  ·exact ai z
  ·exact(out x z).1 U
 ·rcases i8.mp g with z|g
  ·rw[z];exact .inl dZ
  ·rcases i8.mp g with z|g
   ·rw[z];exact .inl (c5 _ dZ)
   ·rcases q3 b g with z|z
    ·exact .inl (c5 _ (c5 _ z))
    ·exact .inr (fy b z)
end
section
variable{X:Cx}{K:W.Frag}{b o:Expr}{te tv:TE}{qv:QE}{ql:QL}{pos pos':Pos}{f:Str}{C:J}
def PF(j:Nat)(C:J)(f:Str)(ql:QL)(qv:QE):QS:=λD q=>qv q λy=>ql q λp u=>match u with
 | .om x g ns ts=>g=C/\ns.length<1000/\Ex3 (λt=>q[j]? = Z (.o t)) (λt=>(q.set j (.o (T.put (.om x C (putN f ns) (d9 f y ns ts)) p t)))) D.nx
 | _=>False
def lD(hc:Cls K C)(hn:bJ K C f)(he:QPL X K j o te ql)(hv:QPF X K b tv qv)(hs:swapsWith b (Z (.Attribute o f pos')) pos.line X.env=pure false:=by rfl)(hK:X.K=K:=by rfl) :
  QPS X K (.Assign [.Attribute o f pos'] b pos) (Jw K te tv f) (PF j C f ql qv):=(by subst hK;exact AV he.h hv.h hs,λdl H₀ hs H σ q Dq D (F,r) hq E=>by
 refine hv.s dl H σ q _ _ r.rd hq λy ty Fy H1 e1 r1 f1 n1 g=>(he.s dl H1 σ q _ _ (r.rd.evo e1) g λt v p u w hj ai hs hw g=>?_)
 split at g
 ·rename_i x C' ns ts;let(U,hl,t',V,g):=g;rw[hj]at V;cases V;let(v2,w2,Fu,Q,ah,ru,nu,md):=r.mod hj hs;rw[ai]at Q;cases Q;cases hw.uniq (ah H1 e1);let(dx,vs,G,U,U,h1,h2,h3,h4):=ru.r.omm;have ak:=h4.len;have P:=e1.k x _ h1 (ru.n x dZ) (λ_ z=>nomatch z)
  let(aj,q1,q2,q3):=Rp.dR ru e1 r.d P r1 nu n1 f1 (by lia)
  let(F',r'):=md _ _ aj (c8.uO e1 dZ ru.n λxs h=>by rw[h]at h1;cases h1) q1 q2 q3
  exact(x,_,dx,_,U,P,hc,hn,by rw[T4];lia,E.nx _ σ _ (_,r') g)
 ·exact g.elim)
end
section
variable{K:W.Frag}
def Rp.putL{l:J}{w:V}{xs ys:List T}{ws:List V}{q:List J}(P:Rp K dl H w (.l xs) (l::G))(D:Dls dl H)(nu:(l::G).Nodup)(e:Evo dl H H1)(rs:au K dl H1 ws ys q)(nG:∀ b∈q,Nd dl b)(hn:q.Nodup)(hG:∀ b∈q,b∈G\/H b=Y) :
  Rp K dl (upd H1 l (.lst ws)) w (.l ys) (l::q)/\(l::q).Nodup/\(∀ b∈l::q,b∈l::G\/H b=Y)/\c8 dl H (l::G) (upd H1 l (.lst ws)):=by
 let(l',vs,G0,U,eG,h1,h2):=P.r.lst;injection eG with e1 eG
 subst e1 eG;have lG:l ∉ q:=λz=>by
  rcases hG l z with z|z
  ·exact(rX.mp nu).1 z
  ·rw[h1]at z;cases z
 have ah:=e.k l _ h1 (P.n l dZ) (λ_ z=>nomatch z)
 have Q:=c8.tf (c8.uO (.refl e.d) (dZ) (λb g=>by rw[bB.mp g];exact P.n l dZ) (λxs _=>(ws,U))) (λb g=>by rw[bB.mp g];exact(_,ah,U)) e.d
 refine((.l aB (rs.c6 Q (λ_ z=>z) λb g o h=>by rw[Ae lG g];exact h),λb g=>?_),rX.mpr (lG,hn),λb g=>?_,c8.uO e dZ P.n λxs _=>(ws,U))
 ·rcases i8.mp g with z|z
  ·rw[z];exact P.n l dZ
  ·exact nG b z
 ·rcases i8.mp g with z|z
  ·rw[z];exact .inl dZ
  ·exact(hG b z).imp (c5 _) id
end
section
variable{X:Cx}{K:W.Frag}{a b e o:Expr}{te tv:TE}{qv:QE}{ql:QL}{pos apos aM eQ Fd:Pos}{f:Str}{C:J}
def PX(j:Nat)(C:J)(f:Str)(ql:QL)(qv:QE):QS:=λD q=>ql q λp u=>match u with
 | .om x g ns ts=>g=C/\ns.length<1000/\∃ n,(ns.zip ts).lookup f=Z (.i n)/\qv q λy=>match y with
  | .i m=>Ex3 (λt=>q[j]? = Z (.o t)) (λt=>(q.set j (.o (T.put (.om x C (putN f ns) (d9 f (.i (n+m)) ns ts)) p t)))) D.nx
  | _=>False
 | _=>False
def JC(hc:Cls K C)(hn:bJ K C f)(aj:OX X .Add MC)(he:QPL X K j o te ql)(hv:QPE X K b tv qv)(hK:X.K=K:=by rfl) :
  QPS X K (.AugAssign (.Attribute o f Fd) .Add b pos) (B4 K te tv MC f) (PX j C f ql qv):=(by subst hK;exact DS he.h hv.h aj,λdl H₀ hs H σ q Dq D (F,r) hq E=>by
 refine he.s dl H σ q _ _ r.rd hq λt v p u w hj ai hs hw g=>?_
 split at g
 ·rename_i x C' ns ts;let(U,hl,n,ak,g):=g;let(v2,w2,Fu,Q,ah,ru,nu,md):=r.mod hj hs;rw[ai]at Q;cases Q;cases hw.uniq (ah H (.refl r.d));let(dx,vs,G,U,U,h1,h2,h3,h4):=ru.r.omm;let(w1,_,_,l1,l2,_):=h4.fld ak;let(U,_):=l2.int;refine(x,_,dx,_,_,U,h1,hc,hn,l1,hv.s dl H σ q _ _ r.rd g λy ty Fy H1 e1 r1 g=>?_)
  split at g
  ·rename_i m;let(t',V,g):=g;rw[hj]at V;cases V;let(U,U):=r1.r.int;have aA:=h4.len;have P:=e1.k x _ h1 (ru.n x dZ) (λ_ z=>nomatch z)
   let(ax,q1,q2,q3):=Rp.dR ru e1 r.d P (.i _,λ_ z=>nomatch z) nu kr (λ_ z=>nomatch z) (by lia)
   let(F',r'):=md _ _ ax (c8.uO e1 dZ ru.n λxs h=>by rw[h]at h1;cases h1) q1 q2 q3
   exact(n,m,U,U,dx,_,P,by rw[T4];lia,E.nx _ σ _ (_,r') g)
  ·exact g.elim
 ·exact g.elim)
def PY(j:Nat)(ql:QL)(qv:QE):QS:=λD q=>ql q λp u=>match u with
 | .l xs=>xs.length<j5/\qv q λy=>Ex3 (λt=>q[j]? = Z (.o t)) (λt=>(q.set j (.o (T.put (.l (xs ++ [y])) p t)))) D.nx
 | _=>False
def JD(he:QPL X K j o te ql)(hv:QPF X K e tv qv)(hK:X.K=K:=by rfl)(cq:attributeBase o "append" X.env (eval o X.env)=eval o X.env:=by rfl)
  (iy:((backTo aM (iS [e] X.env)).all (λx=>!x.1)&&(backToKw aM (keywordEach [] X.env)).all (λx=>x.1.isSome)
   && decide (([e]:List Expr).length+([]:List Keyword).length+(if([]:List Keyword).isEmpty then 0 else 1)<30))=true:=by rfl)
  (cp:(apos.endLine==aM.line)=true:=by rfl) (hs:iS [e] X.env =(ϊ,eval e X.env)::iS [] X.env:=by rfl) (cn:(backTo aM (iS [] X.env)).any (·.1)=false:=by rfl)
  (ax:swapsWith (.Call (.Attribute o "append" apos) [e] [] aM) Y eQ.line X.env=pure false:=by rfl) :
  QPS X K (.Expr (.Call (.Attribute o "append" apos) [e] [] aM) eQ) (kz (tBM K "list" jA te (cw tv fY))) (PY j ql qv) :=
 (iJ (by subst hK;exact tF PySem.F.plainAttrs_list PySem.F.slot_list_append PySem.F.type_list_append vw he.h (bj hv.h eT hs) cq iy cp hs cn) ax,λdl H₀ hs H σ q Dq D (F,r) hq E=>by
 refine he.s dl H σ q _ _ r.rd hq λt v p u w hj ak hs hw g=>?_
 split at g
 ·let(hl,g):=g;let(v2,w2,Fu,Q,aj,ru,nu,md):=r.mod hj hs;rw[ak]at Q;cases Q;cases hw.uniq (aj H (.refl r.d));let(l,vs,G,U,U,h1,h2):=ru.r.lst;refine(.inl (U,vs,SqL.of h1),hv.s dl H σ q _ _ r.rd g λy ty Fy H1 e1 r1 f1 n1 g=>?_)
  let(t',V,g):=g;rw[hj]at V;cases V;have ai:=ru.evo r.d e1;let(l',aG,G',el,eG,ah,aA):=ai.r.lst;cases eG;have e0:=e1.k l _ h1 (ru.n l dZ) (λ_ z=>nomatch z)
  rw[e0]at ah;cases ah;let(q1,q2,q3,q4):=Rp.putL ru r.d nu e1 (aA.append (.cons r1.r .nil)) (λb P=>by
   rw[ko]at P;rcases j1.mp P with z|z
   ·exact ru.n b (c5 _ z)
   ·exact r1.n b z) (by
   rw[ko];exact xQ.mpr ((rX.mp nu).2,n1,λa ha b P z=>(ru.r.there a (c5 _ ha)).no (f1 a (by rw[z];exact P)))) (λb P=>by
   rw[ko]at P;rcases j1.mp P with z|z
   ·exact .inl z
   ·exact .inr (f1 b z))
  let(F',r'):=md _ _ _ q4 q1 q2 q3;exact(l,_,y,U,U,e0,by rw[h2.len];exact hl,E.nx _ σ _ (_,r') g)
 ·exact g.elim)
end
def c8.pre{F:List J}(e:Evo dl H H1)(f:c8 dl H1 F H')(hn:∀ b∈F,Nd dl b):c8 dl H F H' where
 k:=λb o h nb n g=>f.k b o (e.k b o h n g) nb n g
 r:=λb x h nb=>let(y,P,V):=e.r b x h;let(z,K,Q):=f.r b y V nb;(z,Tz K P,Q)
 l:=λb xs q h=>f.l b xs q (e.k b _ h (hn b q) λ_ z=>nomatch z)
 d:=f.d
variable{n:Nat}{H₀:Hp}{q:Sq}
section
variable{X:Cx}{K:W.Frag}{k:Nat}{b e o:Expr}{es:List Expr}{to:TE}{qo:QE}{tl:TA}{qa:QA}{ql:QL}{pos pos' apos eQ:Pos}{m:Str}{C f:J}{fd:FuncData}{prs:List Str}{ps:PSp}{pl:rQ}
def Gv(C:J)(m:Str)(ps:PSp)(qo:QE)(qa:QA):QE:=λq Q=>qo q λt=>match t with
 | .om x g ns ts=>g=C/\(ns.zip ts).lookup m=Y/\qa q λus=>ps (.om x g ns ts::us) Q
 | _=>False
def DD(ho:mQ K to qo)(ha:vd K n tl qa):lQ K (qj C m (spQ K ps) [] E0 to tl) (Gv C m ps qo qa):=λdl H σ q Q R rd hq kk=>ho dl H σ q _ _ rd hq λw t Fu H1 V r1 g=>by
 split at g
 ·rename_i x C' ns ts;let(U,hl,g):=g;let(dx,vs,G,U,U,h1,h2,h3,h4):=r1.r.omm;refine(x,dx,_,U,h1,(vx h4.len).mp hl,ha dl H1 σ q _ _ (rd.evo V) g λws us Fa H2 P r2 _ g=>?_)
  rw[ko];have z:=r1.evo V.d P;refine(dl,_,_,_,P.d,(.cons z.r r2.r,λb hb=>(j1.mp hb).elim (z.n b) (r2.n b)),g,λv t F' H' e3 r3 f3 n3 g=>kk v t F' H' ((V.trans P).trans e3) r3 (λb hb=>(V.trans P).free (f3 b hb)) n3 g)
 ·exact g.elim
def sN:vd K 0 fY (λ_ Q=>Q []):=λdl H σ q Q R rd P g=>g [] [] [] H (.refl rd.d) (.nil,λ_ z=>nomatch z) U P
def dy(P:Cls K C)(hm:Meth K C m f)(G:aR X.prog X.w X.K X.mg X.base CX0 k f fd prs (spQ K ps))(hr:bM k X.A)(V:Binds K fd prs [])(ho:QPE X K o to qo)(hK:X.K=K:=by rfl)
  {g:Sem Bool} (z:eval (.Call (.Attribute o m apos) [] [] pos) X.env =(do
   let q <- eval o X.env
   standAt apos.atName
   let(f,first) <- holding [q] (getMethod q m g)
   callWith pos f first (backTo pos (iS [] X.env)) (backToKw pos (keywordEach [] X.env))):=by rfl) :
  QPF X K (.Call (.Attribute o m apos) [] [] pos) (qj C m (spQ K ps) [] E0 to fY) (Gv C m ps qo λ_ Q=>Q []):=(by subst hK;exact tu ho.h P hm G hr V .nil qE z,DD ho.s sN)
def AN(j:Nat)(C:J)(m:Str)(pl:rQ)(ql:QL)(qa:QA)(q:Sq)(R:T->Sq->Prop):Prop:=ql q λp u=>match u with
 | .om x g ns ts=>g=C/\(ns.zip ts).lookup m=Y/\qa q λus=>T.ims us=O/\pl (.om x g ns ts::us) λr u'=>u'.adr=Z x/\r.im=O/\Ex3 (λt=>q[j]? = Z (.o t)) (λt=>q.set j (.o (T.put u' p t))) (R r)
 | _=>False
def vm{hs:List (V×T)}{σ:St}{R:T->Sq->Prop}{Q:VK}(ho:OV K j to ql)(ha:vd K n tl qa)(hr:c7 K dl H₀ hs H σ q)(hq:AN j C m pl ql qa q R)
  (kk:∀ v r q' H',c7 K dl H₀ hs H' σ q'->Rp K dl H' v r []->R r q'->Q v H'):qj C m (spL K 0 pl) [] E0 to tl σ H Q:=by
 let(F,r):=hr;refine ho dl H σ q _ _ r.rd hq λt v p u w hj hv ak hw g=>?_
 split at g
 ·rename_i x C' ns ts;let(U,hl,g):=g;let(v2,w2,Fu,P,aj,ru,nu,md):=r.mod hj ak;rw[hv]at P;cases P;cases hw.uniq (aj H (.refl r.d));let(dx,vs,G,U,eF,h1,h2,h3,h4):=ru.r.omm;refine(x,dx,_,U,h1,(vx h4.len).mp hl,ha dl H σ q _ _ r.rd g λws us Fa H2 e2 r2 _ g=>?_)
  let(ax,g):=g;rw[ko];refine(dl,_,.ref x,.om x C' ns ts,Fu,_,e2.d,by rw[mu,mu,r2.r.len],U,U,ru.evo r.d e2,nu,.im λi v t ne a1 a2=>?_,g,λv rr Fr t' F' H' bo ai n' aA rv _ _ _ g=>?_)
  ·cases i with
   | zero=>exact absurd U ne
   | succ i=>exact(r2.r.im1 ax i v t (by simpa using a1) (by simpa using a2),λ_ z=>nomatch z)
  ·let(_,ri,t0,ah,g):=g;rw[hj]at ah;cases ah;let(F2,r'):=md H' t' F' (bo.pre e2 ru.n) ai n' λb hb=>(aA b hb).imp id e2.free
   obtain rfl:=rv.r.im ri;exact kk v rr _ H' (F2,r') rv g
 ·exact g.elim
def Ge(hc:Cls K C)(hm:Meth K C m f)(G:aR X.prog X.w X.K X.mg X.base CX0 k f fd prs (spL K 0 pl))(hr:bM k X.A)(hb:Binds K fd prs [])(ho:QPL X K j o to ql)(ha:QPA X K (e::es) tl qa)(hK:X.K=K:=by rfl)
  {g:Sem Bool} (z:iS (e::es) X.env =(ϊ,eval e X.env)::iS es X.env:=by rfl) (P:(backTo pos (iS es X.env)).any (·.1)=false:=by rfl)
  (ht:eval (.Call (.Attribute o m apos) (e::es) [] pos) X.env =(do
   let Q <- eval o X.env
   standAt apos.atName
   let(f,first) <- holding [Q] (getMethod Q m g)
   callWith pos f first (backTo pos (iS (e::es) X.env)) (backToKw pos (keywordEach [] X.env))):=by rfl) (hs:swapsWith (.Call (.Attribute o m apos) (e::es) [] pos) Y eQ.line X.env=pure false:=by rfl) :
  QPS X K (.Expr (.Call (.Attribute o m apos) (e::es) [] pos) eQ) (kz (qj C m (spL K 0 pl) [] E0 to tl)) (λD q=>AN j C m pl ql qa q λ_ q'=>D.nx q') :=
 (iJ (by subst hK;exact J6 ho.h hc hm G hr hb .nil qE ha.h z P ht) hs,λdl H₀ hs H σ q Dq D r hq E=>vm ho.s ha.s r hq λv rr q' H' r' _ V=>E.nx H' σ q' r' V)
def au.each{vs:List V}{ts:List T}{F:List J}(h:au K dl H vs ts F):∃ G:Nat->List J,(∀ i v t,vs[i]? = Z v->ts[i]? = Z t->aJ K dl H v t (G i)/\∀ b∈G i,b∈F)/\∀ i,ts.length<=i->G i = [] :=
 h.ind (λ_=>[],λi v t h=>by simp at h,λ_ _=>rfl) λv x vs ts z P r _ q=>by
  let(G,g1,g2):=q;refine(λi=>match i with | 0=>z|i+1=>G i,λi w t h1 h2=>?_,λi hi=>?_)
  ·cases i with
   | zero=>cases h1;cases h2;exact(r,λb g=>oE _ g)
   | succ i=>exact((g1 i w t (by simpa using h1) (by simpa using h2)).1,λb g=>j0 _ ((g1 i w t (by simpa using h1) (by simpa using h2)).2 b g))
  ·cases i with
   | zero=>simp at hi
   | succ i=>exact g2 i (by simpa using hi)
def Gw(C:J)(pl:rQ)(qa:QA):QE:=λq Q=>qa q λus=>∀ x,pl (.om x C [] []::us) λr u'=>r = .n/\u'.adr=Z x/\Q u'
def DE(ha:vd K n tl qa):lQ K (BW C (spL K 0 pl) [] E0 tl) (Gw C pl qa):=λdl H σ q Q R rd hq kk=>ha dl H σ q _ _ rd hq λws us Fa H1 g r1 _ hz=>by
 intro x dx nx P ne;rw[ko];have e2:Evo dl H1 (upd (upd H1 dx (.own x)) x (.ins C dx [])):=((Evo.refl g.d).new P).new (by rw[ao ne.symm];exact nx)
 have r2:=r1.evo g.d e2;have ro:Rp K dl (upd (upd H1 dx (.own x)) x (.ins C dx [])) (.ref x) (.om x C [] []) [x,dx]:=(.om aB (by rw[ao ne,aB]) U .nil,λb V=>by
  rcases i8.mp V with z|z
  ·rw[z];exact g.d.nd0 nx
  ·rw[bB.mp z];exact g.d.nd0 P)
 refine(dl,_,.ref x,.om x C [] [],[x,dx],_,e2.d,by rw[mu,mu,r2.r.len],U,U,ro,by simp[ne.symm],?_,hz x,λv rr Fr t' F' H' bo ah n' ai rv _ _ _ hz=>?_)
 ·let(G,g1,g2):=r1.r.each;refine(λi=>match i with | 0=>[]|i+1=>G i,λi v t hi a1 a2=>?_,λi hi=>?_)
  ·cases i with
   | zero=>exact absurd U hi
   | succ i =>
    let(p1,p2):=g1 i v t (by simpa using a1) (by simpa using a2)
    have rp:Rp K dl H1 v t (G i):=(p1,λb V=>r1.n b (p2 b V))
    refine(rp.evo g.d e2,λb V z=>?_)
    have th:=p1.there b V;rcases i8.mp z with z|z
    ·rw[z]at th;exact th.no nx
    ·rw[bB.mp z]at th;exact th.no P
  ·cases i with
   | zero=>rfl
   | succ i=>exact g2 i (by simpa using hi)
 ·let(U,_,hz):=hz;let(U,_):=rv.r.non;have out:∀{b:J}{o:HO},H b=Z o->b ∉ [x,dx]:=λ{b o} h z=>by
   rcases i8.mp z with z|z
   ·rw[z,g.free nx]at h;cases h
   ·rw[bB.mp z,g.free P]at h;cases h
  have ev:Evo dl H H':=(λb o h n nr=>bo.k b o (e2.k b o (g.k b o h n nr) n nr) (out h) n nr,bo.d,λb y h=>let(y1,l1,h1):=(g.trans e2).r b y h;let(y2,l2,h2):=bo.r b y1 h1 (out h);(y2,Tz l2 l1,h2))
  refine(U,kk _ t' F' H' ev ah (λb V=>?_) n' hz)
  rcases ai b V with z|z
  ·rcases i8.mp z with z|z
   ·rw[z];exact g.free nx
   ·rw[bB.mp z];exact g.free P
  ·exact(g.trans e2).free z
def Gm(M:Mk K C f)(G:aR X.prog X.w X.K X.mg X.base CX0 k f fd prs (spL K 0 pl))(hr:bM (k+1) X.A)(hg:Gl X x)(hm:X.mg x=Z (.ref C))(P:Binds K fd prs [])(ha:QPA X K (e::es) tl qa)(Q:X.K=K:=by rfl)
  (z:(x ==("__debug__":Str))=false:=by decide) (g:iS (e::es) X.env =(ϊ,eval e X.env)::iS es X.env:=by rfl) (q:(backTo pos (iS es X.env)).any (·.1)=false:=by rfl) :
  QPF X K (.Call (.Name x pos') (e::es) [] pos) (BW C (spL K 0 pl) [] E0 tl) (Gw C pl qa):=(by subst Q;exact Ci M G hr hg hm P .nil qE ha.h z g q,DE ha.s)
end
end L2
namespace PySem
open Sem (wp)
end PySem
namespace L2
open PySem PySem.Spec PyProof.Rows
end L2
namespace PySem
open Sem (wp)
end PySem
namespace L2
open PySem PySem.Spec PyProof.Rows
variable{C:J}
section
variable{X:Cx}{K:W.Frag}{e b:Expr}{te:TE}{qe:QE}{pos:Pos}
def PV(C:J)(f:Str)(qe:QE):QE:=λq Q=>qe q λt=>match t with
 | .om _ g ns ts=>g=C/\Ex2 (λu=>(ns.zip ts).lookup f=Z u) Q
 | _=>False
def jB{f:Str}(hc:Cls K C)(hn:bJ K C f)(he:QPE X K e te qe)(z:attributeBase e f X.env (eval e X.env)=eval e X.env:=by rfl)(hK:X.K=K:=by rfl):QPE X K (.Attribute e f pos) (Mp K te f) (PV C f qe) :=
 (by subst hK;exact GW he.h z,λdl H σ q Q R rd hq k=>he.s dl H σ q _ _ rd hq λv t F H1 e1 V g=>by
  split at g
  ·let(U,u,hu,g):=g;let(dx,vs,G,U,U,h1,h2,h3,h4):=V.r.omm;let(P,Fc,G1,l1,l2,l3,_):=h4.fld hu;exact(_,_,dx,_,P,U,h1,hc,hn,l1,k P u Fc H1 e1 (l2,λb z=>V.n b (c5 _ (c5 _ (l3.mem_iff.mpr (oE _ z))))) g)
  ·exact g.elim)
end
variable{i:Nat}
section
variable{X:Cx}{K:W.Frag}{dl:Dl}{H₀ H H':Hp}{hs:List (V×T)}{σ:St}{q:Sq}{F:Nat->List J}{e o:Expr}{te:TE}{qe:QE}{apos aM eQ:Pos}
inductive yt(K:W.Frag)(x:V)(vs:List V)(H:Hp)(Q:VK):Prop
 | mk(l b xs zs:_)(h1:x = .ref l)(h2:vs = [.ref b])(h3:H l=Z (.lst xs))(h4:SqT K H b zs)(h5:xs.length+zs.length<=j5)(h6:Q .non (upd H l (.lst (xs++zs))))
theorem A6:MtM X "list.extend" (yt X.K):=by
 intro gd s σ H x vs v us Q I rx rv h;let(l,b,xs,zs,U,U,hH,hB,hz,q):=h;cases rx;let(u,U,ru):=rv.one;cases ru;let(z,its,n,r,hl,e):=I.Bc hH;let(g,V,p2,z2):=I.tuple hB;let(o2,e2,P,n2,hd2):=(p2);have ah:=V.length;have hsz:its.toArray.size+g.toArray.size<=j5:=by rw[qi,qi];lia
 have Hx:¬(!its.toArray.isEmpty&&Builtin.List.listTooLong (its.toArray.size+g.toArray.size))=true:=by
  rw[zg hsz,Uc];exact qd
 refine C5 F.slot_list_extend (_,e,U) F.entry_list_extend ?_ (F.args_list_extend_2 _ _);show wpAny _ _ (Builtin.List.listExtendWith (.ref l) (.ref b) .none) _ _ s;refine cO (TU (o2,e2,P) ?_);rw[if_pos (by simp)]
 refine cO (listItems_at e2 hd2 (cO (listItems_at e U ?_)));rw[if_neg Hx];refine cO (listUpdate_at e U (ot (_,U,(.non,_,I.Kz (its':=its++g) hH e (by simp) (r.append V) ?_,U,q))) (by rw[qi];omega) (by rw[U5];omega))
 rw[px];omega
def LF(i:Nat)(qe:QE):QS:=λD q=>match q[i]? with
 | some (.o (.l xs))=>qe q λt=>match t with
  | .t ys=>T.ims ys=O/\xs.length+ys.length<=j5/\D.nx (q.set i (.o (.l (xs++ys))))
  | _=>False
 | _=>False
def JB(ho:PE X o (bP i))(he:QPE X K e te qe)(hK:X.K=K:=by rfl)(cq:attributeBase o "extend" X.env (eval o X.env)=eval o X.env:=by rfl)
  (iy:((backTo aM (iS [e] X.env)).all (λx=>!x.1)&&(backToKw aM (keywordEach [] X.env)).all (λx=>x.1.isSome)
   && decide (([e]:List Expr).length+([]:List Keyword).length+(if([]:List Keyword).isEmpty then 0 else 1)<30))=true:=by rfl)
  (cp:(apos.endLine==aM.line)=true:=by rfl) (hs:iS [e] X.env =(ϊ,eval e X.env)::iS [] X.env:=by rfl) (cn:(backTo aM (iS [] X.env)).any (·.1)=false:=by rfl)
  (ai:swapsWith (.Call (.Attribute o "extend" apos) [e] [] aM) Y eQ.line X.env=pure false:=by rfl) :
  QPS X K (.Expr (.Call (.Attribute o "extend" apos) [e] [] aM) eQ) (kz (tBM K "list" (yt K) (bP i) (cw te fY))) (LF i qe) :=
 (iJ (by subst hK;exact tF PySem.F.plainAttrs_list PySem.F.slot_list_extend PySem.F.type_list_extend A6 ho (bj he.h eT hs) cq iy cp hs cn) ai,λdl H₀ hs H σ q Dq D (F,r) V E=>by
 unfold LF at V
 split at V
 ·rename_i xs ei;let(v,hv,rp):=r.g i _ _ ei U;let(o1,o2,o3):=r.o i _ ei;let(p,vs,G,U,eF,h1,h2):=rp.r.lst;refine(_,hv,.inl (U,vs,SqL.of h1),he.s dl H σ q _ _ r.rd V λw t F' H' e1 r1 P=>?_)
  split at P
  ·let(im,hl,P):=P;let(p2,ws,U,h3,h4):=r1.r.tup;obtain rfl:=h4.im im;have pn:=rp.n p (by rw[eF];exact dZ)
   refine(p,p2,vs,ws,U,U,e1.k p _ h1 pn (λ_ z=>nomatch z),SqT.of h3,by rw[h2.len,h4.len];exact hl,?_)
   have hG:=λb Q=>rp.n b (by rw[eF];exact c5 _ Q)
   have ah:=h2.c6 (e1.tf r.d) (λ_ z=>z) λb Q o eo=>e1.k b o eo (hG b Q) (.of (h2.there b Q) eo)
   refine E.nx _ σ _ (r.mn ei hv eF e1 (ah.append h4) ?_ λb Q=>?_) P
   ·rw[eF]at o1;rw[ko];exact(rX.mp o1).2
   ·rw[ko]at Q;exact .inl Q
  ·exact P.elim
 ·exact V.elim)
end
namespace TM
open Sem (wp)
open Builtin
end TM
end L2
namespace PySem
open AutoSeq1 (wpAny_loadPart')
open MeetsSeq MeetsSeq2 MeetsSeq3
end PySem
namespace L2
open PySem PySem.Spec PyProof.Rows
abbrev QEL:=Sq ->(T->Sq->Prop)->Prop
def RI(K:W.Frag)(te:TE)(qe:QEL):Prop:=∀(dl:Dl)(H₀:Hp)(hs:List (V×T))(H:Hp)(σ:St)(q:Sq)(R:T->Sq->Prop)(Q:VK),c7 K dl H₀ hs H σ q->qe q R ->(∀ v t q' H',c7 K dl H₀ hs H' σ q'->Rp K dl H' v t []->R t q'->Q v H')->te σ H Q
structure RM(X:Cx)(K:W.Frag)(e:Expr)(te:TE)(qe:QEL):Prop where
 h:PE X e te
 s:RI K te qe
section
variable{X:Cx}{K:W.Frag}{j k:Nat}{o:Expr}{to:TE}{ql:QL}{pos apos:Pos}{m:Str}{C f:J}{fd:FuncData}{prs:List Str}{pl:rQ}
def jf(hc:Cls K C)(hm:Meth K C m f)(G:aR X.prog X.w X.K X.mg X.base CX0 k f fd prs (spL K 0 pl))(hr:bM k X.A)(hb:Binds K fd prs [])(ho:QPL X K j o to ql)(hK:X.K=K:=by rfl)
  {g:Sem Bool} (V:eval (.Call (.Attribute o m apos) [] [] pos) X.env =(do
   let z <- eval o X.env
   standAt apos.atName
   let(f,first) <- holding [z] (getMethod z m g)
   callWith pos f first (backTo pos (iS [] X.env)) (backToKw pos (keywordEach [] X.env))):=by rfl) :
  RM X K (.Call (.Attribute o m apos) [] [] pos) (qj C m (spL K 0 pl) [] E0 to fY) (AN j C m pl ql λ_ Q=>Q []) :=
 (by subst hK;exact tu ho.h hc hm G hr hb .nil qE V,λdl H₀ hs H σ q R Q r hq P=>vm ho.s sN r hq P)
end
section
variable{X:Cx}{K:W.Frag}{b e o:Expr}{te to:TE}{qe qo:QE}{apos aM:Pos}
theorem vg:∀(ys:List Str)(tk:Nat),Vals (ys.map V.str) (strsFrom tk ys)
 | [],_=>.nil
 | y::r,tk=>.cons (tk,U) (vg r (tk+1))
inductive FY(x:V)(xs:List V)(H:Hp)(Q:VK):Prop
 | mk(z:Str)(c:Nat)(h1:x = .str z)(h2:xs = [.str ⟨#[c]⟩])(h3:z.length<j5)(h4:(Txt.split z ⟨#[c]⟩).length<=j5)(h5:∀ p,H p=Y->Q (.ref p) (upd H p (.lst ((Txt.split z ⟨#[c]⟩).map V.str))))
def Hc:MtR X "str.split" FY:=by
 intro gd s σ H x xs v us Q I g rs h;let(z,c,U,U,K,hn,q):=h;let(t,U):=g;let(u,U,ru):=Vals.one rs;let(u,U):=ru;have go:∀(its:List B)(tk:Nat),Vals ((Txt.split z ⟨#[c]⟩).map V.str) its->EP X gd σ Q (.ref s.heap.objs.size) { s with toks:=tk,heap:=s.heap.push { cls:=.type "list",data:=.seq its.toArray } }:=λits tk hv =>
  (.ref _,_,I.laid (o:=.lst ((Txt.split z ⟨#[c]⟩).map V.str)) (λb o e=>fx _ e) (lx _) (by rw[gV];exact hn,its,0,hv,oF _ U),U,q _ (I.hok.fresh (lx _)))
 have one:Txt.split z ⟨#[c]⟩ = [z]->Vals ((Txt.split z ⟨#[c]⟩).map V.str) [.str z t]:=λe=>by rw[e];exact .cons (t,U) .nil
 cases h1:(decide (z.length<(⟨#[c]⟩:Str).length)||decide (Builtin.Str.strKind z<Builtin.Str.strKind ⟨#[c]⟩))with
 | true =>
  have e:Txt.split z ⟨#[c]⟩ = [z]:=by unfold Txt.split;rw[if_pos h1]
  exact call_meets PySem.F.slot_str_split (typeIs_str _ _ _) PySem.F.entry_str_split (PySem.F.args_str_split_2 _ _) (meets_str_split_cannot_occur z ⟨#[c]⟩ t u h1) (go _ _ (one e))
 | false =>
  cases h2:(Builtin.Str.occurrences z ⟨#[c]⟩ 0 z.length (z.length+1)).isEmpty with
  | true =>
   have e:Txt.split z ⟨#[c]⟩ = [z]:=by unfold Txt.split;rw[if_neg (by rw[h1];exact qd),if_pos h2]
   exact call_meets PySem.F.slot_str_split (typeIs_str _ _ _) PySem.F.entry_str_split (PySem.F.args_str_split_2 _ _) (meets_str_split_not_found z ⟨#[c]⟩ t u h1 U h2) (go _ _ (one e))
  | false =>
   have e:Txt.split z ⟨#[c]⟩=Builtin.Str.partsBetween z (Builtin.Str.occurrences z ⟨#[c]⟩ 0 z.length (z.length+1)) (⟨#[c]⟩:Str).length:=by unfold Txt.split;rw[if_neg (by rw[h1];exact qd),if_neg (by rw[h2];exact qd)]
   exact call_meets PySem.F.slot_str_split (typeIs_str _ _ _) PySem.F.entry_str_split (PySem.F.args_str_split_2 _ _) (meets_str_split_sep z ⟨#[c]⟩ t u h1 U h2 (rV K) (by rw[<- e];exact hn)) (go _ _ (by rw[e];exact vg _ _))
def split_len(x:Str)(c:Nat):(Txt.split x ⟨#[c]⟩).length<=x.length+2:=by
 unfold Txt.split
 split
 ·simp
 ·split
  ·simp
  ·rw[PyProof.Rows.len_partsBetween]
   have:=StrLaws.occ_length_le x ⟨#[c]⟩ 0 x.length (x.length+1)
   omega
theorem au.ofS{dl:Dl}{H:Hp}:∀(ys:List Str),au K dl H (ys.map V.str) (ys.map T.s) []
 | []=>.nil
 | y::r=>.cons (F:=[]) (.s y) (au.ofS r)
def MM(qo qe:QE):QE:=λq Q=>qo q λs=>match s with
 | .s x=>qe q λt=>match t with
  | .s y=>∃ c,y =⟨#[c]⟩/\x.length+2<j5/\Q (.l ((Txt.split x ⟨#[c]⟩).map .s))
  | _=>False
 | _=>False
def yy(ho:QPE X K o to qo)(he:QPE X K e te qe)(hK:X.K=K:=by rfl)(cq:attributeBase o "split" X.env (eval o X.env)=eval o X.env:=by rfl)
  (iy:((backTo aM (iS [e] X.env)).all (λx=>!x.1)&&(backToKw aM (keywordEach [] X.env)).all (λx=>x.1.isSome)
   && decide (([e]:List Expr).length+([]:List Keyword).length+(if([]:List Keyword).isEmpty then 0 else 1)<30))=true:=by rfl)
  (cp:(apos.endLine==aM.line)=true:=by rfl) (hs:iS [e] X.env =(ϊ,eval e X.env)::iS [] X.env:=by rfl) (cn:(backTo aM (iS [] X.env)).any (·.1)=false:=by rfl) :
  QPF X K (.Call (.Attribute o "split" apos) [e] [] aM) (tBM K "str" FY to (cw te fY)) (MM qo qe):=(by
 subst hK;exact tF PySem.F.plainAttrs_str PySem.F.slot_str_split PySem.F.type_str_split Hc ho.h (bj he.h eT hs) cq iy cp hs cn,λdl H σ q Q R rd g k=>ho.s dl H σ q _ _ rd g λv t F H1 e1 r1 g=>by
  cases t with
  | s x =>
   let(U,_):=r1.r.str;refine(U,he.s dl H1 σ q _ _ (rd.evo e1) g λw u F2 H2 P r2 g=>?_)
   cases u with
   | s y =>
    let(U,_):=r2.r.str;let(c,U,hl,g):=g;have hn:=split_len x c;refine(x,c,U,U,by omega,by omega,λp hp=>?_)
    have rs:Rps K dl H2 ((Txt.split x ⟨#[c]⟩).map V.str) _ []:=(au.ofS _,λ_ z=>nomatch z)
    exact k _ _ [p] _ ((e1.trans P).new hp) (rs.lst P.d hp) (λb hb=>by rw[bB.mp hb];exact(e1.trans P).free hp) (by simp) g
   | _=>exact g.elim
  | _=>exact g.elim)
inductive F9(K:W.Frag)(x:V)(xs:List V)(H:Hp)(Q:VK):Prop
 | mk(sep l ys:_)(h1:x = .str sep)(h2:xs = [.ref l])(h3:SqT K H l (ys.map V.str))(h4:(ys.map (·.length)).sum+ys.length*sep.length<=16777216)(h5:Q (.str (Txt.join sep ys)) H)
def Hd:MtR X "str.join" (F9 X.K):=by
 intro gd s σ H x xs v us Q I g rs h;let(sep,l,ys,U,U,hl,hw,q):=h;let(t,U):=g;let(u,U,ru):=Vals.one rs;cases ru;let(its,r,pl,z):=I.tuple hl;exact join_tuple pl (by simpa using sI r) hw λt' k=>(.str _,H,I.tok k,(_,U),q)
def MQ(qo qe:QE):QE:=λq Q=>qo q λs=>match s with
 | .s sep=>qe q λt=>match t with
  | .t xs=>Ex4 (λys=>txs xs=Z ys) (λys=>(ys.map (·.length)).sum+ys.length*sep.length<=16777216) (λys=>(.s (Txt.join sep ys))) Q
  | _=>False
 | _=>False
def Gn(ho:QPE X K o to qo)(he:QPE X K e te qe)(hK:X.K=K:=by rfl)(cq:attributeBase o "join" X.env (eval o X.env)=eval o X.env:=by rfl)
  (iy:((backTo aM (iS [e] X.env)).all (λx=>!x.1)&&(backToKw aM (keywordEach [] X.env)).all (λx=>x.1.isSome)
   && decide (([e]:List Expr).length+([]:List Keyword).length+(if([]:List Keyword).isEmpty then 0 else 1)<30))=true:=by rfl)
  (cp:(apos.endLine==aM.line)=true:=by rfl) (hs:iS [e] X.env =(ϊ,eval e X.env)::iS [] X.env:=by rfl) (cn:(backTo aM (iS [] X.env)).any (·.1)=false:=by rfl) :
  QPF X K (.Call (.Attribute o "join" apos) [e] [] aM) (tBM K "str" (F9 K) to (cw te fY)) (MQ qo qe):=(by
 subst hK;exact tF PySem.F.plainAttrs_str PySem.F.slot_str_join PySem.F.type_str_join Hd ho.h (bj he.h eT hs) cq iy cp hs cn,λdl H σ q Q R rd g k=>ho.s dl H σ q _ _ rd g λv t F H1 P r1 g=>by
  cases t with
  | s sep =>
   let(U,_):=r1.r.str;refine(U,he.s dl H1 σ q _ _ (rd.evo P) g λw u F2 H2 e2 V g=>?_)
   cases u with
   | t xs =>
    let(ys,ey,hw,g):=g;let(l,vs,U,h1,h2):=V.r.tup;obtain rfl:=h2.txs ey;exact(sep,l,ys,U,U,SqT.of h1,hw,k _ _ [] H2 (P.trans e2) (.c (.s _)) (λ_ z=>nomatch z) kr g)
   | _=>exact g.elim
  | _=>exact g.elim)
def gS(n:Int):Str:=Str.ofString (toString n)
def vJ:dN X (.type "str") (λxs H Q=>∃ n:Int,xs = [.int n]/\n.natAbs.log2<1920/\Q (.str (gS n)) H):=by
 intro gd s σ H xs us Q I r h;let(n,U,hn,q):=h;let(u,U,ru):=Vals.one r;let(t,U):=ru;exact PySem.P.str_of_int hn (.str _,H,I.tok _,(_,U),q)
theorem EL:dN X (.type "int") (λxs H Q=>∃(x:Str)(n:Int),xs = [.str x]/\PySem.intText? x=Z n/\x.length<=640/\Q (.int n) H):=by
 intro gd s σ H xs us Q I r h;let(x,n,U,hn,hl,q):=h;let(u,U,ru):=Vals.one r;let(t,U):=ru;exact W.KIN.call_text hn hl (.int _,H,I.tok _,(_,U),q)
def PD:QC:=λts Q=>on1 ts λt=>match t with
 | .i n=>n.natAbs.log2<1920/\Q (.s (gS n))
 | _=>False
def PQ:QC:=λts Q=>on1 ts λt=>match t with
 | .s x=>Ex4 (λn=>PySem.intText? x=Z n) (λ_=>x.length<=640) (λn=>.i n) Q
 | _=>False
def yk:uy K (λxs H Q=>∃ n:Int,xs = [.int n]/\n.natAbs.log2<1920/\Q (.str (gS n)) H) PD:=by
 intro dl H vs ts F Q R D r g k
 replace g:=on1.inv g
 let(t,U,g):=g;let(v,U,q):=r.one;cases t with
 | i n =>
  let(U,_):=q.r.int;exact(n,U,g.1,k _ _ [] H (.refl D) (.c (.s _)) (λ_ z=>nomatch z) kr g.2)
 | _=>exact g.elim
def FG:uy K (λxs H Q=>∃(x:Str)(n:Int),xs = [.str x]/\PySem.intText? x=Z n/\x.length<=640/\Q (.int n) H) PQ:=by
 intro dl H vs ts F Q R D r g k
 replace g:=on1.inv g
 let(t,U,g):=g;let(v,U,q):=r.one;cases t with
 | s x =>
  let(U,_):=q.r.str;let(n,h1,h2,g):=g;exact(x,n,U,h1,h2,k _ _ [] H (.refl D) (.c (.i _)) (λ_ z=>nomatch z) kr g)
 | _=>exact g.elim
end
theorem CT{c:Nat}:∀{a b x y:List Nat},c ∉ a->c ∉ b->a++c::x=b++c::y->a=b/\x=y
 | [],[],_,_,_,_,h=>(U,(List.cons.inj h).2)
 | [],d::b,_,_,_,g,h=>absurd (List.cons.inj h).1.symm λz=>g (by rw[z];exact dZ)
 | d::a,[],_,_,ha,_,h=>absurd (List.cons.inj h).1 λz=>ha (by rw[z];exact dZ)
 | d::a,e::b,_,_,ha,g,h=>by
  let(h1,h2):=List.cons.inj h;let(h3,h4):=CT (λz=>ha (c5 _ z)) (λz=>g (c5 _ z)) h2
  exact(by rw[h1,h3],h4)
variable{x:Str}
def BZ{y:Str}(h:x.cps.toList=y.cps.toList):x=y:=by
 let⟨⟨a⟩⟩:=x;let⟨⟨b⟩⟩:=y;cases h;rfl
def ji{c:Nat}(x y:Str)(r:List Str):(Str.join ⟨#[c]⟩ (x::y::r)).cps.toList=x.cps.toList++c ::(Str.join ⟨#[c]⟩ (y::r)).cps.toList:=by
 show(x++⟨#[c]⟩++Str.join ⟨#[c]⟩ (y::r)).cps.toList=_;show((x.cps ++ #[c])++(Str.join ⟨#[c]⟩ (y::r)).cps).toList=_;simp
theorem zz{c:Nat}:∀{ps ws:List Str},ps ≠ []->ws ≠ [] ->(∀ p∈ps,c ∉ p.cps.toList) ->(∀ p∈ws,c ∉ p.cps.toList)->Str.join ⟨#[c]⟩ ps=Str.join ⟨#[c]⟩ ws->ps=ws
 | [],_,h,_,_,_,_=>absurd U h
 | _,[],_,h,_,_,_=>absurd U h
 | [p],[w],_,_,_,_,h=>by
  have h:p=w:=h;rw[h]
 | [p],w::K::r,_,_,hp,_,h=>by
  have h:=congrArg (λz:Str=>z.cps.toList) h
  rw[ji]at h;have h:p.cps.toList=w.cps.toList++c::_:=h;exact absurd (by rw[h];simp) (hp p dZ)
 | p::p2::r,[w],_,_,_,hw,h=>by
  have h:=congrArg (λz:Str=>z.cps.toList) h
  rw[ji]at h;have h:p.cps.toList++c::_=w.cps.toList:=h;exact absurd (by rw[<- h];simp) (hw w dZ)
 | p::p2::r,w::K::P,_,_,hp,hw,h=>by
  have h:=congrArg (λz:Str=>z.cps.toList) h
  rw[ji,ji]at h;let(h1,h2):=CT (hp p dZ) (hw w dZ) h;rw[BZ h1,zz (xU _ _) (xU _ _) (λq g=>hp q (c5 _ g)) (λq g=>hw q (c5 _ g)) (BZ h2)]
def Fm(x:Str)(c:Nat):Txt.split x ⟨#[c]⟩ ≠ []:=by
 unfold Txt.split
 split
 ·exact xU _ _
 ·split
  ·exact xU _ _
  ·intro z
   have:=PyProof.Rows.len_partsBetween x (Builtin.Str.occurrences x ⟨#[c]⟩ 0 x.length (x.length+1)) (⟨#[c]⟩:Str).length
   rw[z]at this;cases this
def sJ{c:Nat}{ws:List Str}(g:ws ≠ [])(hw:∀ p∈ws,c ∉ p.cps.toList):Txt.split (Txt.join ⟨#[c]⟩ ws) ⟨#[c]⟩=ws:=by
 have e:Txt.join ⟨#[c]⟩ ws=Str.join ⟨#[c]⟩ ws:=StrLaws.glued_eq_join _ _;rw[e];exact zz (Fm _ _) g (StrLaws.split_free _ c) hw (StrLaws.join_split _ _)
section
variable{K:W.Frag}{dl:Dl}{H₀ H H':Hp}{hs:List (V×T)}{σ:St}{q q':Sq}{F:Nat->List J}
def Rel.zq{S:List Nat}{u':Nat->T}{F':Nat->List J}(r:Rel K dl H₀ hs H σ q F)(hi:∀ i∈S,∃ t,q[i]? = Z (.o t))(f:c8 dl H (S.flatMap F) H')(hr:∀ i∈S,q'[i]? = Z (.o (u' i))->∃ v,σ[i]? = Z (Z v)/\Rp K dl H' v (u' i) (F' i))(n':∀ i∈S,(F' i).Nodup)(hF:∀ i∈S,∀ b∈F' i,b∈S.flatMap F\/H b=Y)(dj:∀ i∈S,∀ k∈S,k≠i->∀ b∈F' i,b ∉ F' k)
  (hl:q'.length=q.length) (qI:∀ i,i ∉ S->q'[i]? = q[i]?) (Eo:∀ i∈S,q'[i]? = Z (.o (u' i))\/q'[i]? = Z .no/\F' i = []):Rel K dl H₀ hs H' σ q' (λi=>if i∈S then F' i else F i):=by
 have ai:∀{b:J},b∈S.flatMap F->∃ i∈S,b∈F i:=λh=>TR.mp h
 have th:∀ b∈S.flatMap F,fF H b:=λb Q=>let(i,_,h):=ai Q;r.bI h
 have tf:=f.tf th r.d;have Qa:∀ j,j ∉ S->∀ b∈F j,b ∉ S.flatMap F:=λj hj b Q z=>by
  let(i,P,h):=ai z;let(t,ht):=hi i P;exact(r.o i t ht).2.2 j (λe=>hj (e▸P)) b h Q
 have st:∀{w:V}{u:T}{Fw:List J},Rp K dl H w u Fw ->(∀ b∈Fw,b ∉ S.flatMap F)->Rp K dl H' w u Fw:=λ{w u Fw} h np =>
  (h.r.c6 tf (λ_ z=>z) λb Q o e=>f.k b o e (np b Q) (h.n b Q) (.of (h.r.there b Q) e),h.n)
 have out:∀ i∈S,∀ j,j ∉ S->∀ b∈F' i,b ∉ F j:=λi P j hj b Q z=>by
  rcases hF i P b Q with h|h
  ·exact Qa j hj b z h
  ·exact(r.bI z).no h
 have H0:∀{b:J},b∈S.flatMap F->H₀ b=none:=λh=>by
  let(i,P,h):=ai h;let(t,ht):=hi i P;exact(r.o i t ht).2.1 _ h
 refine(f.d,λj x u h1 h2=>?_,λj x h1 h2=>?_,λj hj=>?_,λj u h1=>?_,λp hp=>?_,(λb o h n nr=>?_,λb x h=>?_),by rw[hl];exact r.l)
 ·by_cases P:j∈S
  ·rcases Eo j P with z |⟨z,_⟩
   ·let(v,h3,h4):=hr j P z;rw[z]at h1;cases h1;cases h2;exact(v,h3,by rw[if_pos P];exact h4)
   ·rw[z]at h1;cases h1;cases h2
  ·rw[qI j P]at h1;let(w,h3,h4):=r.g j x u h1 h2;exact(w,h3,by rw[if_neg P];exact st h4 (Qa j P))
 ·by_cases P:j∈S
  ·rcases Eo j P with z |⟨z,e⟩
   ·rw[z]at h1;cases h1;cases h2
   ·rw[if_pos P];exact e
  ·rw[qI j P]at h1;rw[if_neg P];exact r.n j x h1 h2
 ·by_cases P:j∈S
  ·rcases Eo j P with z |⟨z,e⟩
   ·rw[So (by omega)]at z
    cases z
   ·rw[if_pos P];exact e
  ·rw[if_neg P];exact r.z j (by omega)
 ·by_cases P:j∈S
  ·rw[if_pos P];refine(n' j P,λb Q=>(hF j P b Q).elim H0 r.fz,λk hk b Q=>?_)
   by_cases ah:k∈S
   ·rw[if_pos ah];exact dj j P k ah hk b Q
   ·rw[if_neg ah];exact out j P k ah b Q
  ·rw[qI j P]at h1;let(p1,p2,p3):=r.o j u h1;rw[if_neg P];refine(p1,p2,λk hk b Q z=>?_)
   by_cases ah:k∈S
   ·rw[if_pos ah]at z;exact out k ah j P b z Q
   ·rw[if_neg ah]at z;exact p3 k hk b Q z
 ·let(Fp,h1,h2):=r.h p hp;have np:∀ b∈Fp,b ∉ S.flatMap F:=λb Q z=>by
   let(i,P,h):=ai z;let(t,ht):=hi i P;exact h2 i t ht b h Q
  refine(Fp,st h1 np,λj u hj b Q z=>?_)
  by_cases P:j∈S
  ·rw[if_pos P]at Q;rcases hF j P b Q with h|h
   ·exact np b z h
   ·exact fF.no (h1.r.there b z) h
  ·rw[qI j P]at hj;rw[if_neg P]at Q;exact h2 j u hj b Q z
 ·exact f.k b o (r.f.k b o h n nr) (λz=>by rw[H0 z]at h;cases h) n nr
 ·let(y,hy,e1):=r.f.r b x h;let(y',aj,e2):=f.r b y e1 (λz=>by rw[H0 z]at h;cases h)
  exact(y',Tz aj hy,e2)
def Rel.HS{S:List Nat}(r:Rel K dl H₀ hs H σ q F)(hi:∀ i∈S,∃ t,q[i]? = Z (.o t))(f:c8 dl H (S.flatMap F) H')
  (hl:q'.length=q.length) (Q:∀ i,i ∉ S->q'[i]? = q[i]?) (P:∀ i∈S,q'[i]? = Z .no):c7 K dl H₀ hs H' σ q' :=
 (_,r.zq (S:=S) (u':=λ_=>.n) (F':=λ_=>[]) hi f (λi g z=>by rw[P i g]at z;cases z) (λ_ _=>kr) (λ_ _ _ z=>nomatch z) (λ_ _ _ _ _ _ z=>nomatch z) hl Q λi g=>.inr (P i g,U))
end
abbrev gK:=List T ->(T->List T->Prop)->QW->Prop
structure Told(K:W.Frag)(dl:Dl)(H H':Hp)(vs:List V)(js S:List Nat)(F:Nat->List J)(us:List T)(F':Nat->List J)(Fr:List J):Prop where
 l:us.length=js.length
 r:∀(n i:Nat)(u:T)(v:V),js[n]? = Z i->us[n]? = Z u->vs[i]? = Z v->Rp K dl H' v u (F' n)
 n:∀ n,n<js.length ->(F' n).Nodup/\(∀ b∈F' n,b∈S.flatMap F\/H b=Y)/\∀ b∈Fr,b ∉ F' n
 d:∀ n m,n≠m->n<js.length->m<js.length->∀ b∈F' n,b ∉ F' m
inductive spG(K:W.Frag)(js S:List Nat)(ps:gK)(vs:List V)(H:Hp)(Q:VK)(E:XK):Prop
 | mk(dl:Dl)(ts:List T)(F:Nat->List J)(Qp:T->List T->Prop)(Wp:QW)(h1:Dls dl H)(h2:vs.length=ts.length)(h3:∀ i v t,vs[i]? = Z v->ts[i]? = Z t->Rp K dl H v t (F i))(h4:∀ i,ts.length<=i->F i = [])(h5:∀ i∈S,(F i).Nodup/\∀ k,k≠i->∀ b∈F i,b ∉ F k)(h6:ps ts Qp Wp)
  (h7:∀ v r Fr us F' H',c8 dl H (S.flatMap F) H'->Told K dl H H' vs js S F us F' Fr->Rp K dl H' v r Fr->Fr.Nodup ->(∀ b∈Fr,b∈S.flatMap F\/H b=Y)->Qp r us->Q v H')
  (h8:∀ a C ns us H',c8 dl H (S.flatMap F) H'->Rp K dl H' (.ref a) (.xc C ns us) []->Wp C ns us->E (.ref C) (Z a) H')
def sls(js:List Nat):Nat->List T->Sq
 | _,[]=>[]
 | n,t::r=>(if js.elem n then .o t else .r t)::sls js (n+1) r
theorem mX{js:List Nat}:∀{n:Nat}{ts:List T},(sls js n ts).length=ts.length
 | _,[]=>rfl
 | n,t::r=>congrArg (· + 1) (mX (n:=n+1) (ts:=r))
theorem Ft{js:List Nat}:∀{n:Nat}{ts:List T}{i:Nat}{y:Sl},(sls js n ts)[i]? = Z y->∃ t,ts[i]? = Z t/\(n+i∈js/\y = .o t\/n+i ∉ js/\y = .r t)
 | n,[],i,y,h=>nomatch h
 | n,t::r,0,y,h=>by
  refine(t,U,?_);have h:(if js.elem n then Sl.o t else .r t)=y:=Option.some.inj h
  by_cases e:n∈js
  ·rw[if_pos (List.elem_eq_true_of_mem e)]at h;exact .inl (e,h.symm)
  ·rw[if_neg (λz=>e (List.mem_of_elem_eq_true z))]at h
   exact .inr (e,h.symm)
 | n,t::r,i+1,y,h=>by
  let(u,h1,h2):=Ft (n:=n+1) (ts:=r) (i:=i) (y:=y) h;rw[Nat.add_right_comm,Nat.add_assoc]at h2;exact(u,h1,h2)
variable{dl:Dl}{H:Hp}{N:List Str}{js:List Nat}
theorem AI{K:W.Frag}{vs:List V}{ts:List T}{F:Nat->List J}(D:Dls dl H)(hl:vs.length=ts.length)(hr:∀ i v t,vs[i]? = Z v->ts[i]? = Z t->Rp K dl H v t (F i))(P:∀ i,ts.length<=i->F i = [])(hs:∀ i∈js,(F i).Nodup/\∀ k,k≠i->∀ b∈F i,b ∉ F k) :
  Rel K dl (gO H (js.flatMap F)) (hsq H (js.flatMap F)) H (start N vs) (sls js 0 ts++uA (N.length - ts.length) .no) F:=by
 have lk:∀ i y,(sls js 0 ts++uA (N.length - ts.length) Sl.no)[i]? = Z y ->(∃ t,ts[i]? = Z t/\(i∈js/\y = .o t\/i ∉ js/\y = .r t))\/(ts.length<=i/\y = .no):=λi y h=>by
  by_cases hi:i<ts.length
  ·rw[z9 (by rw[mX];exact hi)]at h
   let(t,h1,h2):=Ft h;rw[Nat.zero_add]at h2;exact .inl (t,h1,h2)
  ·rw[BK (by rw[mX];omega),Tv]at h
   split at h
   ·exact .inr (by omega,(Option.some.inj h).symm)
   ·cases h
 have q:∀ i v,vs[i]? = Z v ->(start N vs)[i]? = Z (Z v):=λi v e=>by
  have hi:=(j2.mp e).1;show(vs.map Z++uA (N.length - vs.length) Y)[i]? = _;rw[z9 (by simpa using hi),qx,e]
  rfl
 have g:∀ b o,gO H (js.flatMap F) b=Z o->H b=Z o:=λb o h=>by
  by_cases e:b∈js.flatMap F
  ·rw[nM e]at h;cases h
  ·rw[jg e]at h;exact h
 refine(D,λi y t h1 h2=>?_,λi y h1 h2=>?_,λi hi=>?_,λi t h1=>?_,λp hp=>([],Hv p hp,λ_ _ _ _ _ z=>nomatch z),(λb o h _ _=>g b o h,λb x h=>(x,Tf _,g b _ h)),?_)
 ·rcases lk i y h1 with⟨u,e,z⟩ |⟨_,rfl⟩
  ·have:y.get=Z u:=by rcases z with⟨_,rfl⟩ |⟨_,rfl⟩ <;> rfl
   rw[this]at h2;cases h2;have hi:=(j2.mp e).1;have ev:vs[i]? = Z (vs[i]'(by omega)):=xT _
   exact(_,q _ _ ev,hr i _ _ ev e)
  ·cases h2
 ·rcases lk i y h1 with⟨u,e,⟨_,rfl⟩ |⟨_,rfl⟩⟩ |⟨hi,rfl⟩
  ·cases h2
  ·cases h2
  ·exact P i hi
 ·refine P i ?_;rw[px,mX,UN]at hi;omega
 ·rcases lk i _ h1 with⟨u,e,⟨hi,_⟩ |⟨_,z⟩⟩ |⟨_,z⟩
  ·exact((hs i hi).1,λb Q=>nM (TR.mpr (i,hi,Q)),(hs i hi).2)
  ·cases z
  ·cases z
 ·show _ =(vs.map Z++uA (N.length - vs.length) Y).length;simp[mX,hl]
def AZ:List Nat->List J->Sq->List T->Prop
 | [],[],_,[]=>True
 | j::js,a::as,q,u::us=>q[j]? = Z (.o u)/\u.adr=Z a/\AZ js as q us
 | _,_,_,_=>False
def ER:List Nat->List T->List J->Prop
 | [],_,[]=>True
 | j::js,ts,a::as=>(∃ t,ts[j]? = Z t/\t.adr=Z a)/\ER js ts as
 | _,_,_=>False
theorem AZ.at{q:Sq}{ts:List T}:∀{js:List Nat}{as:List J}{us:List T},AZ js as q us->ER js ts as->us.length=js.length/\∀(n i:Nat)(u:T),js[n]? = Z i->us[n]? = Z u->q[i]? = Z (.o u)/\∃ t a,ts[i]? = Z t/\t.adr=Z a/\u.adr=Z a
 | [],[],[],_,_=>(U,λ_ _ _ h=>nomatch h)
 | j::js,a::as,u::us,(h1,h2,h3),((t,h4,h5),h6)=>by
  let(e,h):=AZ.at h3 h6;refine(congrArg (· + 1) e,λn i w z g=>?_)
  cases n with
  | zero=>cases z;cases g;exact(h1,t,a,h4,h5,h2)
  | succ n=>exact h n i w z g
def fX.og(js:List Nat)(as:List J)(Q:T->List T->Prop):fX:={ nx:=λq=>∃ us,AZ js as q us/\Q .n us,rt:=λ_=>False,ru:=λq r=>∃ us,AZ js as q us/\Q r us }
variable{P:Program}{mg:Str->Option B}{base:Heap}{qual:Str}{st:Stmt}{fd:FuncData}{ps:List Str}
theorem Fun.okG{w:World}{K:PySem.W.Frag}{f:J}{k:Nat}{V:List Nat}{ah:gK}(F:Fun K x qual st f fd)(S:aE N ps (aq st))(len:∀ ts Q W,ah ts Q W->ts.length=ps.length)(ax:js.Nodup)(QV:∀ j∈js,j∈V)
  (iz:∀(cdv:B)(A:Around)(outer:List Env)(s:ϋ)(H:Hp)(E:XK),bM k (A.deeper (envOfC qual (aq st) s.heap.objs.size f cdv)) ->
   ∃ t qs,jZ (mK (CX1 P w) P w K mg base N qual (aq st) f cdv A outer s H E) K (cc st) t qs/\∀ ts Q W as,ah ts Q W->ER js ts as->qs (λ_=>W) (.og js as Q) (sls V 0 ts++uA (N.length - ts.length) .no))
  (Ov:∀ ts Q W,ah ts Q W->∃ as,ER js ts as):aR P w K mg base (CX1 P w) (k+1) f fd ps (spG K js V ah):=by
 refine F.okX S (λvs H Q E h=>?_) (λcdv A outer s H vs Q E hr h=>?_)
 ·let(dl,ts,_,Qp,Wp,_,hl,_,_,_,h,_,_):=h;rw[hl];exact len ts Qp Wp h
 ·let(dl,ts,F0,Qp,Wp,D,hl,aj,hz,ak,h,fin,fix):=h;let(t,qs,hb,hq):=iz cdv A outer s H E hr;refine(t λ_=>E,hb.h _ tG sT,?_)
  let(as,ha):=Ov ts Qp Wp h;have z:=hq ts Qp Wp as h ha;have R:=AI (N:=N) (js:=V) D hl aj hz ak;have ai:∀{b:J}{o:HO},H b=Z o->b ∉ V.flatMap F0->gO H (V.flatMap F0) b=Z o:=λh n=>by rw[jg n];exact h
  have bo:∀{H':Hp}{σ:St}{q:Sq}{F':Nat->List J},Rel K dl (gO H (V.flatMap F0)) (hsq H (V.flatMap F0)) H' σ q F'->c8 dl H (V.flatMap F0) H':=λ{H' σ q F'} r' =>
   (λb o e n nd nr=>r'.f.k b o (ai e n) nd nr,λb x e n=>r'.f.r b x (ai e n),λb xs hb e=>(by
    let(Fp,rq,_):=r'.h _ (CA hb e);cases rq.r with
    | q h=>exact(_,h)),r'.d)
  have fr:∀{b:J},gO H (V.flatMap F0) b=Y->b∈V.flatMap F0\/H b=none:=λ{b} h=>by
   by_cases e:b∈V.flatMap F0
   ·exact .inl e
   ·rw[jg e]at h;exact .inr h
  have told:∀{H':Hp}{σ:St}{q:Sq}{F':Nat->List J}{us:List T}{Fr:List J},Rel K dl (gO H (V.flatMap F0)) (hsq H (V.flatMap F0)) H' σ q F'->AZ js as q us ->(∀ j,∀ b∈Fr,b ∉ F' j)->Told K dl H H' vs js V F0 us (λn=>F' (js[n]?.getD 0)) Fr:=λ{H' σ q F' us Fr} r' ho aA=>by
   let(el,at'):=ho.at ha;have ix:∀ n,n<js.length->∃ i u,js[n]? = Z i/\us[n]? = Z u:=λn hn=>(js[n],us[n]'(by omega),xT _,xT _)
   refine(el,λn i u v e1 e2 e3=>?_,λn hn=>?_,λn m ne hn hm=>?_)
   ·let(h1,t0,a,h2,h3,h4):=at' n i u e1 e2;let(v',_,rp):=r'.g i _ _ h1 U;rw[e1,Um,(aj i v t0 e3 h2).r.adr h3,<- rp.r.adr h4];exact rp
   ·let(i,u,e1,e2):=ix n hn;let(h1,_):=at' n i u e1 e2;let(o1,o2,_):=r'.o i u h1;rw[e1,Um];exact(o1,λb hb=>fr (o2 b hb),aA i)
   ·let(i,u,e1,e2):=ix n hn;let(k,u2,e3,e4):=ix m hm;let(h1,_):=at' n i u e1 e2;rw[e1,e3,Um,Um];refine(r'.o i u h1).2.2 k λz=>ne ?_
    subst z;exact(List.getElem?_inj hn ax).mp (e1.trans e3.symm)
  refine hb.s dl (gO H (V.flatMap F0)) (hsq H (V.flatMap F0)) H _ _ _ _ _ _ (_,R) z (λH' σ q hr hz=>?_,λ_ _ _ _ hz=>hz.elim,λ_ _ _ _ hz=>hz.elim,λ_ _ _ _ _ _ _ _ _ hz=>hz.elim,λH' σ q F' v r Fr r' rv f1 n1 dj hz=>?_) λH' σ q a C ns us hr rx hw=>?_
  ·let(F',r'):=hr;let(us,ho,hz):=hz;exact fin .non .n [] us _ H' (bo r') (told r' ho λ_ _ z=>nomatch z) (.n,λ_ z=>nomatch z) kr (λ_ z=>nomatch z) hz
  ·let(us,ho,hz):=hz;exact fin v r Fr us _ H' (bo r') (told r' ho dj) rv n1 (λb hb=>fr (f1 b hb)) hz
  ·let(F',r'):=hr;exact fix a C ns us H' (bo r') rx hw
def lv(a:J):T->T
 | .l xs=>.lp a xs
 | t=>t
def lb:T->T->T
 | .l _,.lp _ ys=>.l ys
 | _,u=>u
variable{G:List J}{j:Nat}
section
variable{K:W.Frag}{H₀ H':Hp}{hs:List (V×T)}{σ:St}{q q':Sq}{F:Nat->List J}
def Cq{v:V}{t:T}(h:aJ K dl H v t G):∃ a,aJ K dl H v (lv a t) G/\∀ H' u g,aJ K dl H' v u g->aJ K dl H' v (lb t u) g:=by
 cases t with
 | l xs =>
  let(a,vs,P,U,U,h1,h2):=h.lst;refine(a,.lp h1 h2,λH' u g h=>?_)
  cases u with
  | lp b ys =>
   let(q,z,e,U,h3,h4):=h.lpp;cases e;exact .l h3 h4
  | _=>exact h
 | _=>exact(0,h,λ_ _ _ h=>h)
def au.im0{vs:List V}{ts:List T}{F:List J}(h:au K dl H vs ts F)(z:F = [])(i:Nat)(v:V)(t:T)(h1:vs[i]? = Z v)(h2:ts[i]? = Z t):aJ K dl H v t []:=by
 subst z;let(G,g,_):=h.each;let(a,b):=g i v t h1 h2;rw[List.eq_nil_iff_forall_not_mem.mpr λc q=>nomatch b c q]at a
 exact a
def LP{p:Way}{t u:T}{v w:V}{ws:List V}{ts:List T}{ps:gK}{R:T->Sq->Prop}{W:Sq->QW}{Q:VK}{Es:St->XK}(r:Rel K dl H₀ hs H σ q F)(hj:q[j]? = Z (.o t))(hv:σ[j]? = Z (Z v))(hu:T.sub p t=Z u)(hw:VAt H p v w)(rs:Rps K dl H ws ts [])
  (hp:∀ a,ps (lv a u::ts) (λr us=>r.im=O/\on1 us λu'=>R r (q.set j (.o (T.put (lb u u') p t)))) (W (q.set j .no))) (kk:∀ v t q' H',c7 K dl H₀ hs H' σ q'->Rp K dl H' v t []->R t q'->Q v H') (kx:XOk K dl H₀ hs W Es):spG K [0] [0] ps (w::ws) H Q (Es σ):=by
 let(v2,w2,Fu,ai,ak,ru,nu,md):=r.mod hj hu;rw[hv]at ai;cases ai;cases hw.uniq (ak H (.refl r.d));let(a,r1,bk):=Cq ru.r;have eU:[0].flatMap (λi=>if i=0 then Fu else [])=Fu:=by simp
 refine(dl,_,λi=>if i=0 then Fu else [],_,_,r.d,congrArg (· + 1) rs.r.len,λi x y e1 e2=>?_,λi hi=>if_neg ?_,λi hi=>?_,hp a,λv r' Fr us F' H' P told rv _ _ hz=>?_,λa C ns us H' P rx aj=>?_)
 ·cases i with
  | zero=>cases e1;cases e2;exact(r1,ru.n)
  | succ i=>exact(rs.r.im0 U i x y (by simpa using e1) (by simpa using e2),λ_ z=>nomatch z)
 ·rw[mu]at hi;omega
 ·rw[bB.mp hi];exact(nu,λk hk b _ z=>by rw[if_neg hk]at z;cases z)
 ·let(im,hz):=hz;let(u',U,hz):=on1.inv hz;have rp:=told.r 0 0 u' w U U U;let(n1,n2,_):=told.n 0 UM;rw[eU]at P n2;let(F2,r2):=md H' _ (F' 0) P (bk H' u' _ rp.r,rp.n) n1 n2;obtain rfl:=rv.r.im im;exact kk v r' _ H' (F2,r2) rv hz
 ·rw[eU]at P;have sub:∀ b∈Fu,b∈F j:=by
   let(v3,ah,rp):=r.g j _ t hj U;rw[hv]at ah;cases ah;let(w3,ax,G3,h1,h2,h3,_):=rp.r.zip p hu;cases hw.uniq (h1 H λ_ _ _ z=>z)
   intro b hb;rw[ru.r.uniq h2]at hb;exact h3.mem_iff.mpr (oE _ hb)
  have eF:[j].flatMap F=F j:=by simp
  have Hj:c8 dl H ([j].flatMap F) H':=by
   rw[eF];let(v3,ah,rp):=r.g j _ t hj U;exact(λb o e n=>P.k b o e λz=>n (sub b z),λb x e n=>P.r b x e λz=>n (sub b z),λb xs hb e=>(by
    by_cases z:b∈Fu
    ·exact P.l b xs z e
    ·exact(xs,P.k b _ e z (rp.n b hb) λ_ z=>nomatch z)),P.d)
  have r2:=r.HS (S:=[j]) (q':=q.set j .no) (λi hi=>by rw[bB.mp hi];exact(t,hj)) Hj (by simp) (λi hi=>rS λz=>hi (by rw[z];exact bB.mpr U)) (λi hi=>by rw[bB.mp hi];exact rW (j2.mp hj).1)
  exact kx H' σ _ a C ns us r2 rx aj
def LO{k:Nat}{p p2:Way}{t u t2 u2:T}{v w v2 w2:V}{ws:List V}{ts:List T}{ps:gK}{R:T->Sq->Prop}{W:Sq->QW}{Q:VK}{Es:St->XK}(r:Rel K dl H₀ hs H σ q F)(ai:j≠k)(hj:q[j]? = Z (.o t))(hv:σ[j]? = Z (Z v))(hu:T.sub p t=Z u)(hw:VAt H p v w)(hk:q[k]? = Z (.o t2))(aG:σ[k]? = Z (Z v2))(aX:T.sub p2 t2=Z u2)(aS:VAt H p2 v2 w2)(rs:Rps K dl H ws ts [])
  (hp:∀ a b,ps (lv a u::lv b u2::ts) (λr us=>r.im=O/\on2 us λx y=>R r ((q.set j (.o (T.put (lb u x) p t))).set k (.o (T.put (lb u2 y) p2 t2)))) (W ((q.set j .no).set k .no))) (kk:∀ v t q' H',c7 K dl H₀ hs H' σ q'->Rp K dl H' v t []->R t q'->Q v H') (kx:XOk K dl H₀ hs W Es):spG K [0,1] [0,1] ps (w::w2::ws) H Q (Es σ):=by
 let(v',ak,rp):=r.g j _ t hj U;rw[hv]at ak;cases ak;let(v',ak,aj):=r.g k _ t2 hk U;rw[aG]at ak;cases ak;let(w',Fu,G,a1,a2,a3,a4):=rp.r.zip p hu;cases hw.uniq (a1 H λ_ _ _ z=>z)
 let(w',ah,G2,b1,b2,b3,b4):=aj.r.zip p2 aX;cases aS.uniq (b1 H λ_ _ _ z=>z)
 let(a,r1,bk):=Cq a2;let(b,r2,a0):=Cq b2;let(o1,o2,o3):=r.o j t hj;let(q1,q2,q3):=r.o k t2 hk;have m1:∀ b,b∈Fu\/b∈G->b∈F j:=λb P=>a3.mem_iff.mpr (j1.mpr P)
 have m2:∀ b,b∈ah\/b∈G2->b∈F k:=λb P=>b3.mem_iff.mpr (j1.mpr P)
 let(n1,n2,n3):=xQ.mp (a3.nodup_iff.mp o1);let(k1,k2,k3):=xQ.mp (b3.nodup_iff.mp q1);have apart:∀ b,b∈F j->b ∉ F k:=λb P=>o3 k (Ne.symm ai) b P
 have eU:[0,1].flatMap (λi:Nat=>if i=0 then Fu else if i=1 then ah else [])=Fu++ah:=by simp
 have eF:[j,k].flatMap F=F j++F k:=by simp
 have sub:∀{b},b∈Fu++ah->b ∈ [j,k].flatMap F:=λ{b} h=>by
  rw[eF];exact(j1.mp h).elim (λz=>oE _ (m1 b (.inl z))) λz=>j0 _ (m2 b (.inl z))
 have widen:∀{H'},c8 dl H (Fu++ah) H'->c8 dl H ([j,k].flatMap F) H':=λ{H'} bo =>
  (λb o e n=>bo.k b o e λz=>n (sub z),λb x e n=>bo.r b x e λz=>n (sub z),λb xs P e=>(by
   by_cases z:b∈Fu++ah
   ·exact bo.l b xs z e
   ·rw[eF]at P;exact(xs,bo.k b _ e z ((j1.mp P).elim (rp.n b) (aj.n b)) λ_ z=>nomatch z)),bo.d)
 refine(dl,_,λi=>if i=0 then Fu else if i=1 then ah else [],_,_,r.d,congrArg (· + 2) rs.r.len,λi x y e1 e2=>?_,λi hi=>?_,λi hi=>?_,hp a b,λvr r' Fr us F' H' bo told rv _ _ hz=>?_,λa C ns us H' bo rx aM=>?_)
 ·match i with
  | 0=>cases e1;cases e2;exact(r1,λb P=>rp.n b (m1 b (.inl P)))
  | 1=>cases e1;cases e2;exact(r2,λb P=>aj.n b (m2 b (.inl P)))
  | i+2=>exact(rs.r.im0 U i x y (by simpa using e1) (by simpa using e2),λ_ z=>nomatch z)
 ·rw[mu,mu]at hi;rw[if_neg (by omega),if_neg (by omega)]
 ·rcases i8.mp hi with z|z
  ·rw[z];refine(n1,λm hm b P z=>?_)
   rw[if_neg hm]at z
   split at z
   ·exact apart b (m1 b (.inl P)) (m2 b (.inl z))
   ·cases z
  ·rw[bB.mp z];refine(k1,λm hm b P z=>?_)
   have P:b∈ah:=P
   split at z
   ·exact apart b (m1 b (.inl z)) (m2 b (.inl P))
   ·first|cases z |(rw[if_neg hm]at z;cases z)
 ·let(im,hz):=hz;let(x,y,U,hz):=on2.inv hz;have c1:=told.r 0 0 x w U U U;have c2:=told.r 1 1 y w2 U U U;let(d1,d2,_):=told.n 0 Nat.zero_lt_two;let(d3,d4,_):=told.n 1 Nat.one_lt_two;have d5:=told.d 0 1 Nat.zero_ne_one Nat.zero_lt_two Nat.one_lt_two;rw[eU]at bo d2 d4;have tf:=bo.tf (λb P=>(j1.mp P).elim (λz=>a2.there b z) λz=>b2.there b z) r.d
  let(E1,g1,g2):=a4 H' _ (F' 0) tf (λb P o e=>bo.k b o e (λz=>(j1.mp z).elim (λz=>n3 b z b P U) λz=>apart b (m1 b (.inr P)) (m2 b (.inl z))) (rp.n b (m1 b (.inr P))) (.of (r.bI (m1 b (.inr P))) e)) (bk H' x _ c1.r)
  let(E2,g3,g4):=b4 H' _ (F' 1) tf (λb P o e=>bo.k b o e (λz=>(j1.mp z).elim (λz=>apart b (m1 b (.inl z)) (m2 b (.inr P))) λz=>k3 b z b P U) (aj.n b (m2 b (.inr P))) (.of (r.bI (m2 b (.inr P))) e)) (a0 H' y _ c2.r)
  have a7:∀ b∈F' 0,b∈Fu++ah\/H b=none:=d2
  have hG:∀ b,b∈G->b ∉ F' 0/\b ∉ F' 1:=λb P=>(λz=>(d2 b z).elim (λz=>(j1.mp z).elim (λz=>n3 b z b P U) λz=>apart b (m1 b (.inr P)) (m2 b (.inl z))) λz=>(r.bI (m1 b (.inr P))).no z,λz=>(d4 b z).elim (λz=>(j1.mp z).elim (λz=>n3 b z b P U) λz=>apart b (m1 b (.inr P)) (m2 b (.inl z))) λz=>(r.bI (m1 b (.inr P))).no z)
  have aH:∀ b,b∈G2->b ∉ F' 0/\b ∉ F' 1:=λb P=>(λz=>(d2 b z).elim (λz=>(j1.mp z).elim (λz=>apart b (m1 b (.inl z)) (m2 b (.inr P))) λz=>k3 b z b P U) λz=>(r.bI (m2 b (.inr P))).no z,λz=>(d4 b z).elim (λz=>(j1.mp z).elim (λz=>apart b (m1 b (.inl z)) (m2 b (.inr P))) λz=>k3 b z b P U) λz=>(r.bI (m2 b (.inr P))).no z)
  have aA:∀{b},b∈E1->b∈F' 0\/b∈G:=λh=>j1.mp (g2.mem_iff.mp h)
  have ax:∀{b},b∈E2->b∈F' 1\/b∈G2:=λh=>j1.mp (g4.mem_iff.mp h)
  have aK:∀ b∈E1,b ∉ E2:=λb h1 h2=>by
   rcases aA h1 with h1|h1
   ·rcases ax h2 with h2|h2
    ·exact d5 b h1 h2
    ·exact(aH b h2).1 h1
   ·rcases ax h2 with h2|h2
    ·exact(hG b h1).2 h2
    ·exact apart b (m1 b (.inr h1)) (m2 b (.inr h2))
  have r3:=r.zq (S:=[j,k]) (u':=λi=>if i=j then T.put (lb u x) p t else T.put (lb u2 y) p2 t2) (F':=λi=>if i=j then E1 else E2) (q':=(q.set j (.o (T.put (lb u x) p t))).set k (.o (T.put (lb u2 y) p2 t2)))
   (λi hi=>?_) (widen bo) (λi hi _=>?_) (λi hi=>?_) (λi hi b P=>?_) (λi hi m hm ne b P=>?_) (by simp) (λi hi=>?_) (λi hi=>?_)
  ·obtain rfl:=rv.r.im im;exact kk vr r' _ H' (_,r3) rv hz
  ·rcases i8.mp hi with z|z
   ·rw[z];exact(t,hj)
   ·rw[bB.mp z];exact(t2,hk)
  ·rcases i8.mp hi with z|z
   ·rw[z];simp only[if_pos];exact(v,hv,g1,λb P=>(aA P).elim (c1.n b) λh=>rp.n b (m1 b (.inr h)))
   ·rw[bB.mp z];simp only[if_neg (Ne.symm ai)];exact(v2,aG,g3,λb P=>(ax P).elim (c2.n b) λh=>aj.n b (m2 b (.inr h)))
  ·rcases i8.mp hi with z|z
   ·rw[z,if_pos rfl];exact g2.nodup_iff.mpr (xQ.mpr (d1,n2,λa ha b P e=>(hG b P).1 (e▸ha)))
   ·rw[bB.mp z,if_neg (Ne.symm ai)];exact g4.nodup_iff.mpr (xQ.mpr (d3,k2,λa ha b P e=>(aH b P).2 (e▸ha)))
  ·rw[eF];rcases i8.mp hi with z|z
   ·rw[z,if_pos rfl]at P;rcases aA P with h|h
    ·exact(d2 b h).imp (λz=>eF▸sub z) id
    ·exact .inl (oE _ (m1 b (.inr h)))
   ·rw[bB.mp z,if_neg (Ne.symm ai)]at P;rcases ax P with h|h
    ·exact(d4 b h).imp (λz=>eF▸sub z) id
    ·exact .inl (j0 _ (m2 b (.inr h)))
  ·rcases i8.mp hi with z|z
   ·rw[z,if_pos rfl]at P;rw[if_neg (λe=>ne (e.trans z.symm))]
    exact aK b P
   ·have ei:=bB.mp z;rw[ei,if_neg (Ne.symm ai)]at P;rcases i8.mp hm with y|y
    ·rw[if_pos y];exact λh=>aK b h P
    ·exact absurd ((bB.mp y).trans ei.symm) ne
  ·rw[rS λz=>hi (by rw[z];exact c5 _ dZ),rS λz=>hi (by rw[z];exact dZ)]
  ·rcases i8.mp hi with z|z
   ·left;rw[z,if_pos U,rS (Ne.symm ai),rW (j2.mp hj).1]
   ·left;rw[bB.mp z,if_neg (Ne.symm ai),rW (by rw[BH];exact(j2.mp hk).1)]
 ·rw[eU]at bo;have r2:=r.HS (S:=[j,k]) (q':=(q.set j .no).set k .no) (λi hi=>?_) (widen bo) (by simp) (λi hi=>?_) (λi hi=>?_)
  ·exact kx H' σ _ a C ns us r2 rx aM
  ·rcases i8.mp hi with z|z
   ·rw[z];exact(t,hj)
   ·rw[bB.mp z];exact(t2,hk)
  ·rw[rS λz=>hi (by rw[z];exact c5 _ dZ),rS λz=>hi (by rw[z];exact dZ)]
  ·rcases i8.mp hi with z|z
   ·rw[z,rS (Ne.symm ai),rW (j2.mp hj).1]
   ·rw[bB.mp z,rW (by rw[BH];exact(j2.mp hk).1)]
end
abbrev QG:=Sq ->(T->Sq->Prop) ->(Sq->QW)->Prop
def RH(K:PySem.W.Frag)(te:(St->XK)->TE)(qg:QG):Prop:=∀(dl:Dl)(H₀:Hp)(hs:List (V×T))(H:Hp)(σ:St)(q:Sq)(R:T->Sq->Prop)(W:Sq->QW)(Q:VK)(Es:St->XK),c7 K dl H₀ hs H σ q->qg q R W ->(∀ v t q' H',c7 K dl H₀ hs H' σ q'->Rp K dl H' v t []->R t q'->Q v H')->XOk K dl H₀ hs W Es->te Es σ H Q
structure QPG(X:Cx)(K:W.Frag)(e:Expr)(te:(St->XK)->TE)(qg:QG):Prop where
 h:∀ Es,gY (CX1 X.prog X.w) X Es->PE X e (te Es)
 s:RH K te qg
abbrev QAG:=Sq ->(List T->Sq->Prop) ->(Sq->QW)->Prop
def RJ(K:PySem.W.Frag)(te:(St->XK)->TA)(qa:QAG):Prop:=∀(dl:Dl)(H₀:Hp)(hs:List (V×T))(H:Hp)(σ:St)(q:Sq)(R:List T->Sq->Prop)(W:Sq->QW)(Q:List V->Hp->Prop)(Es:St->XK),c7 K dl H₀ hs H σ q->qa q R W ->(∀ vs ts q' H',c7 K dl H₀ hs H' σ q'->Rps K dl H' vs ts []->R ts q'->Q vs H')->XOk K dl H₀ hs W Es->te Es σ H Q
structure xM(X:Cx)(K:W.Frag)(es:List Expr)(te:(St->XK)->TA)(qa:QAG):Prop where
 h:∀ Es,gY (CX1 X.prog X.w) X Es->PA X es (te Es)
 s:RJ K te qa
def oV(C:J)(m:Str)(sp:Sp)(Es:St->XK)(ta:TE)(t:TA):TE:=λσ H Q=>ta σ H λx H1=>∃ a dx fs,x = .ref a/\H1 a=Z (.ins C dx fs)/\fs.lookup m=Y/\t σ H1 λvs H2=>sp (x::vs) H2 Q (Es σ)
variable{gd:List (J×Obj)}{s:ϋ}{us:List B}{pl:Sem Bool}
section
variable{X:Cx}{CX:CXT}{k:Nat}{f C:J}{sp:Sp}{Es:St->XK}{m:Str}{pos apos:Pos}{e o:Expr}{es:List Expr}{ta:TE}{t:TA}
theorem B5{σ:St}{Q:VK}{vs:List V}(F:aR X.prog X.w X.K X.mg X.base CX k f fd ps sp)(hr:bM k X.A)(z:Binds X.K fd ps [])(hx:gY CX X Es)
  (I:Inv X gd σ H s) (r:Vals vs us) (h:sp vs H Q (Es σ)):wpAny (model X.prog X.w) X.A (call (.ref f) us) (EP X gd σ Q) X.xe s:=by
 have hl:(us ++ []).length=ps.length:=by rw[ko,<- r.length];exact F.len _ _ _ _ h
 have q:=z s us I.kIn hl;rw[ko]at q;refine wpAny_call (codeAny_mono (F.run X.A X.stack s H (us,[]) us vs Q (Es σ) hr I.HM q r h) λr s' g=>?_)
 cases r with
 | error e=>exact hx gd σ H s e s' I g
 | ok fl =>
  cases fl with
  | ret u=>exact I.after g
  | next=>exact False.elim g
  | brk=>exact False.elim g
  | cont=>exact False.elim g
theorem yJ{pl:Sem Bool}(he:PE X o ta)(c:Cls X.K C)(hm:Meth X.K C m f)(F:aR X.prog X.w X.K X.mg X.base CX k f fd ps sp)(hr:bM k X.A)(hb:Binds X.K fd ps [])(hx:gY CX X Es)(ha:PA X (e::es) t)
  (g:iS (e::es) X.env =(ϊ,eval e X.env)::iS es X.env:=by rfl) (z:(backTo pos (iS es X.env)).any (·.1)=false:=by rfl)
  (ht:eval (.Call (.Attribute o m apos) (e::es) [] pos) X.env =(do
   let ov <- eval o X.env
   standAt apos.atName
   let(f,first) <- holding [ov] (getMethod ov m pl)
   callWith pos f first (backTo pos (iS (e::es) X.env)) (backToKw pos (keywordEach [] X.env))):=by rfl) :
  PE X (.Call (.Attribute o m apos) (e::es) [] pos) (oV C m sp Es ta t):=by
 intro gd s σ H Q I h;refine W.methodCall_KW (thn (he gd s σ H _ I h) λu s1 P=>?_) ht
 let(x,H1,V,rx,a,dx,fs,ex,ea,l,q):=P;subst ex;obtain rfl:=rx;refine jN V ea c hm l ?_;exact W.callWith_K (h₀:=X.base) V.ok.mod.kin hm.kp (thn (ha pos gd s1 σ H1 _ V q) λus s2 (vs,H2,I2,r,q2)=>(I2.kIn,B5 (vs:=.ref a::vs) F hr hb hx I2 (.cons U r) q2)) g z
theorem DZ(he:PE X o ta)(c:Cls X.K C)(hm:Meth X.K C m f)(F:aR X.prog X.w X.K X.mg X.base CX k f fd ps sp)(hr:bM k X.A)(hb:Binds X.K fd ps [])(hx:gY CX X Es)
  (ht:eval (.Call (.Attribute o m apos) [] [] pos) X.env =(do
   let P <- eval o X.env
   standAt apos.atName
   let(f,first) <- holding [P] (getMethod P m pl)
   callWith pos f first (backTo pos (iS [] X.env)) (backToKw pos (keywordEach [] X.env))):=by rfl) :
  PE X (.Call (.Attribute o m apos) [] [] pos) (oV C m sp Es ta fY):=by
 intro gd s σ H Q I h;refine W.methodCall_KW (thn (he gd s σ H _ I h) λu s1 g=>?_) ht
 let(x,H1,z,V,a,dx,fs,ex,ea,l,q):=g;subst ex;obtain rfl:=V;refine jN z ea c hm l ?_;exact W.callWith_K0 z.kIn hm.kp (B5 (vs:=[.ref a]) F hr hb hx z (.cons U .nil) q)
end
variable{n:Nat}
section
variable{X:Cx}{K:W.Frag}{i k:Nat}{a b e o:Expr}{es:List Expr}{te to:TE}{tg:(St->XK)->TE}{ta:(St->XK)->TA}{qe:QE}{qg:QG}{qa:QAG}{tl:TA}{ql:QA}{qo:QL}{qel:QEL}{pos apos pos':Pos}{m:Str}{C f:J}{prs:List Str}{ps:gK}{pq:PSp}{H₀:Hp}{hs:List (V×T)}{σ:St}{q:Sq}
def c7.hold{v:V}{t:T}(r:c7 K dl H₀ hs H σ q)(h:Rp K dl H v t []):c7 K dl H₀ ((v,t)::hs) H σ q:=by
 let(F,r):=r;refine(F,r.d,r.g,r.n,r.z,r.o,λp hp=>?_,r.f,r.l)
 rcases i8.mp hp with z|z
 ·rw[z];exact([],h,λ_ _ _ _ _ z=>nomatch z)
 ·exact r.h p z
def c7.L9{v:V}{t:T}(r:c7 K dl H₀ ((v,t)::hs) H σ q)(im:t.im=O):c7 K dl H₀ hs H σ q/\Rp K dl H v t []:=by
 let(F,r):=r;let(Fp,g,_):=r.h (v,t) dZ;obtain rfl:=g.r.im im;exact((F,r.iC (hv:=[(v,t)])),g)
def f9(h:QPE X K e te qe):QPG X K e (λ_=>te) (λq R _=>qe q λt=>t.im=O/\R t q):=(λ_ _=>h.h,λdl H₀ hs H σ q R W Q Es (F,r) V z _=>h.s dl H σ q _ _ r.rd V λv t Fv H' e1 g (im,P)=>by
 obtain rfl:=g.r.im im;exact z v t q H' (F,r.evo e1) g P)
def sW(h:RM X K e te qel):QPG X K e (λ_=>te) (λq R _=>qel q R):=(λ_ _=>h.h,λdl H₀ hs H σ q R W Q Es r z g _=>h.s dl H₀ hs H σ q R Q r z g)
def cb:xM X K [] (λ_=>fY) (λq R _=>R [] q):=(λ_ _=>eT,λdl H₀ hs H σ q R W Q Es r P g _=>g [] [] q H r (.nil,λ_ z=>nomatch z) P)
def cx(he:QPG X K e tg qg)(hr:xM X K es ta qa)(hs:iS (e::es) X.env =(ϊ,eval e X.env)::iS es X.env:=by rfl):xM X K (e::es) (λEs=>cw (tg Es) (ta Es)) (λq R W=>qg q (λt q'=>t.im=O/\qa q' (λts P=>R (t::ts) P) W) W) :=
 (λEs a=>bj (he.h Es a) (hr.h Es a) hs,λdl H₀ hs H σ q R W Q Es r hq kk kx=>he.s dl H₀ hs H σ q _ W _ Es r hq (λv t q' H' r' rv (im,V) =>
  hr.s dl H₀ ((v,t)::hs) H' σ q' _ W _ Es (r'.hold rv) V (λvs ts P H2 r2 rs V=>by
   let(r3,g):=r2.L9 im;exact kk _ _ P H2 r3 (.cons (F:=[]) g.r rs.r,λ_ z=>nomatch z) V) (kx.holds (hv:=[(v,t)]))) kx)
def kN{P}(ha:xM X K es ta qa):QPG X K (.Tuple es P pos) (λEs=>Mh (ta Es)) (λq R W=>qa q (λts q'=>ts.length<=j5/\R (.t ts) q') W) :=
 (λEs a=>GO (ha.h Es a),λdl H₀ hs H σ q R W Q Es r hq kk V=>ha.s dl H₀ hs H σ q _ W _ Es r hq (λvs ts q' H' (F,r') rs (hl,hz)=>(by rw[rs.r.len];exact hl,λp hp=>by
  have ev:Evo dl H' (upd H' p (.tup vs)):=(Evo.refl r'.d).new hp;have g:=rs.evo r'.d ev;exact kk _ _ q' _ (F,r'.evo ev) (.t aB g.r,λ_ z=>nomatch z) hz)) V)
theorem DO(F:aR X.prog X.w X.K X.mg X.base CX0 k f fd prs (spQ K pq))(hr:bM k X.A)(hg:Gl X x)(hm:X.mg x=Z (.ref f))(hk:W.keepIn X.K (.ref f)=O)(hb:Binds X.K fd prs [])(ho:PE X o (bP i))(ha:xM X K es ta qa)
  (ai:(x ==("__debug__":Str))=false:=by decide) (he:iS (o::es) X.env =(ϊ,eval o X.env)::iS es X.env:=by rfl) (ah:(backTo pos (iS es X.env)).any (·.1)=false:=by rfl) :
  QPG X K (.Call (.Name x pos') (o::es) [] pos) (λEs=>yg (spQ K pq) [] E0 (cw (bP i) (ta Es))) (λq R W=>(∃ t,q[i]? = Z (.o t))/\qa q (λts q'=>Ex2 (λt=>q'[i]? = Z (.o t)) λt=>pq (t::ts) λt=>t.im=O/\R t q') W) :=
 (λEs a=>wI F hr hg hm hk hb .nil qE (bj ho (ha.h Es a) he) ai he ah,λdl H₀ hs H σ q R W Q Es r V kk kx=>by
  let((t0,e0),V):=V;let(F,r):=r;let(v,hv,ak):=r.g i _ _ e0 U;refine(v,hv,ha.s dl H₀ hs H σ q _ W _ Es (F,r) V (λvs ts q' H' (F,r') rs z=>?_) kx)
  let(t,e1,z):=z;let(v',P,rp):=r'.g i _ _ e1 U;rw[hv]at P;cases P;show spQ K pq (v::vs ++ []) H' Q E0;rw[ko];refine(dl,t::ts,F i ++ [],_,r'.d,(.cons rp.r rs.r,λb hb=>rp.n b (by rwa [ko]at hb)),z,λv t F' H2 ev rv _ _ aj=>?_)
  let(im,z):=aj;obtain rfl:=rv.r.im im;exact kk v t q' H2 (F,r'.evo ev) rv z)
def MU(i:Nat)(ps:gK)(qa:QAG):QG:=λq R W=>(∃ t,q[i]? = Z (.o t))/\qa q (λts q'=>Ex2 (λt=>q'[i]? = Z (.o t)) λt=>∀ a,ps (lv a t::ts) (λr us=>r.im=O/\on1 us λu=>R r (q'.set i (.o (lb t u)))) (W (q'.set i .no))) W
theorem ig(F:aR X.prog X.w X.K X.mg X.base (CX1 X.prog X.w) k f fd prs (spG K [0] [0] ps))(hr:bM k X.A)(hg:Gl X x)(hm:X.mg x=Z (.ref f))(hk:W.keepIn X.K (.ref f)=O)(hb:Binds X.K fd prs [])(ho:PE X o (bP i))(ha:xM X K es ta qa)
  (ah:(x ==("__debug__":Str))=false:=by decide) (he:iS (o::es) X.env =(ϊ,eval o X.env)::iS es X.env:=by rfl) (V:(backTo pos (iS es X.env)).any (·.1)=false:=by rfl) :
  QPG X K (.Call (.Name x pos') (o::es) [] pos) (λEs=>v5 (spG K [0] [0] ps) Es (cw (bP i) (ta Es))) (MU i ps qa) :=
 (λEs a=>tD F hr hg hm hk hb a (bj ho (ha.h Es a) he) ah he V,λdl H₀ hs H σ q R W Q Es r P kk kx=>by
  let((t0,e0),P):=P;let(F,r):=r;let(v,hv,ai):=r.g i _ _ e0 U;refine(v,hv,ha.s dl H₀ hs H σ q _ W _ Es (F,r) P (λvs ts q' H' (F,r') rs z=>?_) kx)
  let(t,e1,z):=z;exact LP r' e1 hv (p:=[]) U U rs z kk kx)
def MT(i j:Nat)(ps:gK)(qa:QAG):QG:=λq R W=>(∃ t,q[i]? = Z (.o t))/\(∃ t,q[j]? = Z (.o t))/\qa q (λts q'=>Ex2 (λt=>q'[i]? = Z (.o t)) λt=>Ex2 (λt=>q'[j]? = Z (.o t)) λt2=>∀ a b,ps (lv a t::lv b t2::ts) (λr us=>r.im=O/\on2 us λu g=>R r ((q'.set i (.o (lb t u))).set j (.o (lb t2 g)))) (W ((q'.set i .no).set j .no))) W
theorem Gj{o2:Expr}(aj:i≠j)(F:aR X.prog X.w X.K X.mg X.base (CX1 X.prog X.w) k f fd prs (spG K [0,1] [0,1] ps))(hr:bM k X.A)(hg:Gl X x)(hm:X.mg x=Z (.ref f))(hk:W.keepIn X.K (.ref f)=O)(hb:Binds X.K fd prs [])(ho:PE X o (bP i))(ai:PE X o2 (bP j))(ha:xM X K es ta qa)
  (ax:(x ==("__debug__":Str))=false:=by decide) (he:iS (o::o2::es) X.env =(ϊ,eval o X.env)::iS (o2::es) X.env:=by rfl) (ak:iS (o2::es) X.env =(ϊ,eval o2 X.env)::iS es X.env:=by rfl) (ah:(backTo pos (iS (o2::es) X.env)).any (·.1)=false:=by rfl) :
  QPG X K (.Call (.Name x pos') (o::o2::es) [] pos) (λEs=>v5 (spG K [0,1] [0,1] ps) Es (cw (bP i) (cw (bP j) (ta Es)))) (MT i j ps qa) :=
 (λEs a=>tD F hr hg hm hk hb a (bj ho (bj ai (ha.h Es a) ak) he) ax he ah,λdl H₀ hs H σ q R W Q Es r V kk kx=>by
  let((t0,e0),(t1,e1),V):=V;let(F,r):=r;let(v,hv,_):=r.g i _ _ e0 U;let(v2,z,_):=r.g j _ _ e1 U;refine(v,hv,v2,z,ha.s dl H₀ hs H σ q _ W _ Es (F,r) V (λvs ts q' H' (F,r') rs P=>?_) kx)
  let(t,e1,t2,e2,P):=P;exact LO r' aj e1 hv (p:=[]) U U e2 z (p2:=[]) U U rs P kk kx)
def AO(j:Nat)(C:J)(m:Str)(ps:gK)(ql:QL)(qa:QA):QG:=λq R W=>ql q λp u=>match u with
 | .om x g ns ts=>g=C/\(ns.zip ts).lookup m=Y/\qa q λus=>T.ims us=O/\Ex2 (λt=>q[j]? = Z (.o t)) λt=>ps (.om x g ns ts::us) (λr us=>r.im=O/\on1 us λu'=>R r (q.set j (.o (T.put u' p t)))) (W (q.set j .no))
 | _=>False
def vn(ho:OV K j to qo)(ha:vd K n tl ql):RH K (λEs=>oV C m (spG K [0] [0] ps) Es to tl) (AO j C m ps qo ql):=λdl H₀ hs H σ q R W Q Es hr hq kk kx=>by
 let(F,r):=hr;refine ho dl H σ q _ _ r.rd hq λt v p u w hj hv z hw g=>?_
 split at g
 ·rename_i x C' ns ts;let(U,hl,g):=g;let(Fu,ru):=r.rd.part hj hv z hw;let(dx,vs,G,U,eF,h1,h2,h3,h4):=ru.r.omm;let(v2,w2,aj,V,P,_):=r.mod hj z;rw[hv]at V;cases V;cases hw.uniq (P H (.refl r.d));refine(x,dx,_,U,h1,(vx h4.len).mp hl,ha dl H σ q _ _ r.rd g λws us Fa H2 e2 r2 _ g=>?_)
  let(ai,g):=g;obtain rfl:=r2.r.im ai;let(t',ah,g):=g;rw[hj]at ah;cases ah;exact LP (r.evo e2) hj hv z (P H2 e2) r2 (λ_=>g) kk kx
 ·exact g.elim
def fj(V:Cls K C)(hm:Meth K C m f)(G:aR X.prog X.w X.K X.mg X.base (CX1 X.prog X.w) k f fd prs (spG K [0] [0] ps))(hr:bM k X.A)(hb:Binds K fd prs [])(ho:QPL X K j o to qo)(ha:QPA X K (e::es) tl ql)(hK:X.K=K:=by rfl)
  {g:Sem Bool} (q:iS (e::es) X.env =(ϊ,eval e X.env)::iS es X.env:=by rfl) (z:(backTo pos (iS es X.env)).any (·.1)=false:=by rfl)
  (Q:eval (.Call (.Attribute o m apos) (e::es) [] pos) X.env =(do
   let P <- eval o X.env
   standAt apos.atName
   let(f,first) <- holding [P] (getMethod P m g)
   callWith pos f first (backTo pos (iS (e::es) X.env)) (backToKw pos (keywordEach [] X.env))):=by rfl) :
  QPG X K (.Call (.Attribute o m apos) (e::es) [] pos) (λEs=>oV C m (spG K [0] [0] ps) Es to tl) (AO j C m ps qo ql):=(λEs a=>by subst hK;exact yJ ho.h V hm G hr hb a ha.h q z Q,vn ho.s ha.s)
def cm(P:Cls K C)(hm:Meth K C m f)(G:aR X.prog X.w X.K X.mg X.base (CX1 X.prog X.w) k f fd prs (spG K [0] [0] ps))(hr:bM k X.A)(V:Binds K fd prs [])(ho:QPL X K j o to qo)(hK:X.K=K:=by rfl)
  {g:Sem Bool} (z:eval (.Call (.Attribute o m apos) [] [] pos) X.env =(do
   let q <- eval o X.env
   standAt apos.atName
   let(f,first) <- holding [q] (getMethod q m g)
   callWith pos f first (backTo pos (iS [] X.env)) (backToKw pos (keywordEach [] X.env))):=by rfl) :
  QPG X K (.Call (.Attribute o m apos) [] [] pos) (λEs=>oV C m (spG K [0] [0] ps) Es to fY) (AO j C m ps qo λ_ Q=>Q []):=(λEs a=>by subst hK;exact DZ ho.h P hm G hr V a z,vn ho.s sN)
def JL(j i:Nat)(C:J)(m:Str)(ps:gK)(ql:QL):QG:=λq R W=>ql q λp u=>match u with
 | .om x g ns ts=>g=C/\(ns.zip ts).lookup m=Y/\Ex2 (λt=>q[j]? = Z (.o t)) λt=>Ex2 (λt=>q[i]? = Z (.o t)) λt2=>∀ b,ps [.om x g ns ts,lv b t2] (λr us=>r.im=O/\on2 us λu' z=>R r ((q.set j (.o (T.put u' p t))).set i (.o (lb t2 z)))) (W ((q.set j .no).set i .no))
 | _=>False
def yw(aA:j≠i)(hc:Cls K C)(hm:Meth K C m f)(G:aR X.prog X.w X.K X.mg X.base (CX1 X.prog X.w) k f fd prs (spG K [0,1] [0,1] ps))(hr:bM k X.A)(hb:Binds K fd prs [])(ho:QPL X K j o to qo)(he:PE X e (bP i))(hK:X.K=K:=by rfl)
  {ak:Sem Bool} (ah:iS [e] X.env =(ϊ,eval e X.env)::iS [] X.env:=by rfl) (ax:(backTo pos (iS [] X.env)).any (·.1)=false:=by rfl)
  (ht:eval (.Call (.Attribute o m apos) [e] [] pos) X.env =(do
   let ov <- eval o X.env
   standAt apos.atName
   let(f,first) <- holding [ov] (getMethod ov m ak)
   callWith pos f first (backTo pos (iS [e] X.env)) (backToKw pos (keywordEach [] X.env))):=by rfl) :
  QPG X K (.Call (.Attribute o m apos) [e] [] pos) (λEs=>oV C m (spG K [0,1] [0,1] ps) Es to (cw (bP i) fY)) (JL j i C m ps qo):=(λEs a=>by subst hK;exact yJ ho.h hc hm G hr hb a (bj he eT ah) ah ax ht,λdl H₀ hs H σ q R W Q Es hr hq kk kx=>by
 let(F,r):=hr;refine ho.s dl H σ q _ _ r.rd hq λt v p u w hj hv ai hw P=>?_
 split at P
 ·rename_i x C' ns ts;let(U,hl,t',aj,t2,hi,P):=P;rw[hj]at aj;cases aj;let(Fu,ru):=r.rd.part hj hv ai hw;let(dx,vs,G,U,eF,h1,h2,h3,h4):=ru.r.omm;let(v2,V,_):=r.g i _ _ hi U;refine(x,dx,_,U,h1,(vx h4.len).mp hl,v2,V,?_);exact LO r aA hj hv ai hw hi V (p2:=[]) U U (ws:=[]) (ts:=[]) (.nil,λ_ z=>nomatch z) (λ_ b=>P b) kk kx
 ·exact P.elim)
end
variable{op:CmpOp}{rq:Q2}
section
variable{X:Cx}{K:W.Frag}{i:Nat}{a b e o c:Expr}{es:List Expr}{sa sb:List Stmt}{tb to:TE}{tg:(St->XK)->TE}{ta:(St->XK)->TA}{ts us:(St->XK)->TS}{qs qr:QSX}{qb:QE}{qg:QG}{qa:QAG}{qo:QL}{pos apos pos' aM eQ:Pos}{m:Str}{C f:J}{H₀:Hp}{hs:List (V×T)}{σ:St}{q:Sq}
def cT(he:QPG X K e tg qg)(hs:swapsWith e Y pos.line X.env=pure false:=by rfl):mS X K (.Expr e pos) (λEs=>kz (tg Es)) (λW D q=>qg q (λ_ q'=>D.nx q') W) :=
 (λEs a _=>iJ (he.h Es a) hs,λdl H₀ hs H σ q Dq D W Es r z E x=>he.s dl H₀ hs H σ q _ W _ Es r z (λv t q' H' r' _ g=>E.nx H' σ q' r' g) x)
def ni(he:QPG X K e tg qg):mS X K (.Return (Z e) pos) (λEs=>Ff (tg Es)) (λW D q=>qg q (λt q'=>D.ru q' t) W) :=
 (λEs a _=>mq (he.h Es a),λdl H₀ hs H σ q Dq D W Es r Q E x=>he.s dl H₀ hs H σ q _ W _ Es r Q (λv t q' H' (F,r') g P=>E.ru H' σ q' F v t [] r' g (λ_ z=>nomatch z) kr (λ_ _ z=>nomatch z) P) x)
def cC(V:X.N.Nodup)(he:QPG X K e tg qg)(hi:X.N[i]? = Z x:=by rfl)(hx:Loc X.env.scope x:=by first|exact .inl rfl|exact .inr U)(hs:swapsWith e (Z (.Name x pos')) pos.line X.env=pure false:=by rfl)(hf:X.fn x=O\/X.env.scope.names.lookup x=Z .local:=by first|exact .inl rfl|exact .inr rfl|assumption) :
  mS X K (.Assign [.Name x pos'] e pos) (λEs=>mW (tg Es) (gP i)) (λW D q=>qg q (λt q'=>D.nx (q'.set i (.o t))) W):=(λEs a _=>i5 V hi hx (he.h Es a) hs hf,λdl H₀ hs H σ q Dq D W Es r Q E x=>he.s dl H₀ hs H σ q _ W _ Es r Q (λv t q' H' (F,r') g P=>E.nx H' _ _ (r'.d9 (.refl r'.d) g (λ_ z=>nomatch z) kr) P) x)
def Gd(Q:X.N.Nodup)(ha:xM X K es ta qa)(hi:X.N[i]? = Z x:=by rfl)(hx:Loc X.env.scope x:=by first|exact .inl rfl|exact .inr U)(hs:swapsWith (.List es aM) (Z (.Name x pos')) pos.line X.env=pure false:=by rfl)(hf:X.fn x=O\/X.env.scope.names.lookup x=Z .local:=by first|exact .inl rfl|exact .inr rfl|assumption) :
  mS X K (.Assign [.Name x pos'] (.List es aM) pos) (λEs=>mW (Mm (ta Es)) (gP i)) (λW D q=>qa q (λts q'=>ts.length<=j5/\D.nx (q'.set i (.o (.l ts)))) W):=(λEs a _=>i5 Q hi hx (GQ (ha.h Es a)) hs hf,λdl H₀ hs H σ q Dq D W Es r P E x=>ha.s dl H₀ hs H σ q _ W _ Es r P (λvs ts q' H' (F,r') rs (hl,z)=>(by rw[rs.r.len];exact hl,λp hp=>by
  have ev:Evo dl H' (upd H' p (.lst vs)):=(Evo.refl r'.d).new hp;exact E.nx _ _ _ (r'.d9 ev (t:=.l ts) (F':=[p]) (.l aB (rs.evo r'.d ev).r,λb g=>by rw[bB.mp g];exact r'.d.nd0 hp) (λb g=>by rw[bB.mp g];exact hp) (by simp)) z)) x)
def iG(ho:PE X o (bP i))(he:QPG X K e tg qg)(hK:X.K=K:=by rfl)(cq:attributeBase o "append" X.env (eval o X.env)=eval o X.env:=by rfl)
  (iy:((backTo aM (iS [e] X.env)).all (λx=>!x.1)&&(backToKw aM (keywordEach [] X.env)).all (λx=>x.1.isSome)
   && decide (([e]:List Expr).length+([]:List Keyword).length+(if([]:List Keyword).isEmpty then 0 else 1)<30))=true:=by rfl)
  (cp:(apos.endLine==aM.line)=true:=by rfl) (hs:iS [e] X.env =(ϊ,eval e X.env)::iS [] X.env:=by rfl) (cn:(backTo aM (iS [] X.env)).any (·.1)=false:=by rfl)
  (aj:swapsWith (.Call (.Attribute o "append" apos) [e] [] aM) Y eQ.line X.env=pure false:=by rfl) :
  mS X K (.Expr (.Call (.Attribute o "append" apos) [e] [] aM) eQ) (λEs=>kz (tBM K "list" jA (bP i) (cw (tg Es) fY))) (λW D q=>(∃ xs,q[i]? = Z (.o (.l xs)))/\qg q (λt q'=>Ex2 (λxs=>q'[i]? = Z (.o (.l xs))) λxs=>xs.length<j5/\D.nx (q'.set i (.o (.l (xs ++ [t]))))) W) :=
 (λEs a _=>iJ (mE hK ho (he.h Es a) cq iy cp hs cn) aj,λdl H₀ hs H σ q Dq D W Es (F,r) hq E x=>by
  let((xs,ei),hq):=hq;let(v,hv,rp):=r.g i _ _ ei U;let(p,vs,G,U,eF,h1,h2):=rp.r.lst;refine(_,hv,.inl (U,vs,SqL.of h1),he.s dl H₀ hs H σ q _ W _ Es (F,r) hq (λw t q' H' (F',r') rw hz=>?_) x)
  let(ys,z,hl,hz):=hz;let(v',P,ai):=r'.g i _ _ z U;rw[hv]at P;cases P;let(o1,o2,o3):=r'.o i _ z;let(p',ah,G',e2,V,ak,Q):=ai.r.lst;cases e2;refine(p,ah,w,U,U,ak,by rw[Q.len];exact hl,?_)
  refine E.nx _ σ _ (r'.mn z hv V (.refl r'.d) (Q.append (.cons rw.r .nil)) ?_ λb hb=>?_) hz
  ·rw[ko,ko];rw[V]at o1;exact(rX.mp o1).2
  ·rw[ko,ko]at hb;exact .inl hb)
def Jz(hc:Cls K C)(hn:bJ K C m)(ho:QPL X K j o to qo)(he:QPG X K e tg qg)(hs:swapsWith e (Z (.Attribute o m pos')) pos.line X.env=pure false:=by rfl)(hK:X.K=K:=by rfl) :
  mS X K (.Assign [.Attribute o m pos'] e pos) (λEs=>Jw K to (tg Es) m) (λW D q=>qg q (λy q'=>qo q' λp u=>match u with
   | .om x C' ns ts=>C'=C/\ns.length<1000/\Ex3 (λt=>q'[j]? = Z (.o t)) (λt=>(q'.set j (.o (T.put (.om x C (putN m ns) (d9 m y ns ts)) p t)))) D.nx
   | _=>False) W):=(λEs a _=>by subst hK;exact AV ho.h (he.h Es a) hs,λdl H₀ hs H σ q Dq D W Es r hq E x=>by
 refine he.s dl H₀ hs H σ q _ W _ Es r hq (λy ty q' H1 (F,r) r1 g=>(ho.s dl H1 σ q' _ _ r.rd g λt v p u w hj ah hs hw g=>?_)) x
 split at g
 ·rename_i x C' ns ts;let(U,hl,t',Q,g):=g;rw[hj]at Q;cases Q;let(v2,w2,Fu,P,V,ru,nu,md):=r.mod hj hs;rw[ah]at P;cases P;cases hw.uniq (V H1 (.refl r.d));let(dx,vs,G,U,U,h1,h2,h3,h4):=ru.r.omm;have aj:=h4.len;let(ai,q1,q2,q3):=Rp.dR (f:=m) ru (.refl r.d) r.d h1 r1 nu kr (λ_ z=>nomatch z) (by omega)
  let(F',r'):=md _ _ ai (c8.uO (.refl r.d) dZ ru.n λxs h=>by rw[h]at h1;cases h1) q1 q2 q3
  exact(x,_,dx,_,U,h1,hc,hn,by rw[T4];omega,E.nx _ σ _ (_,r') g)
 ·exact g.elim)
def MD{r:R2}(V:OpR X (compareOp op) r)(Q:gf K r rq)(ah:behindInMarks op b=ϊ)(he:QPG X K a tg qg)(hb:QPE X K b tb qb)(h1:jZ X K sa ts qs)(h2:jZ X K sb us qr) :
  mS X K (.If (.Compare a [op] [b] aM) sa sb pos) (λEs=>Jg (yf (tOp r (tg Es) tb)) (ts Es) (us Es)) (λW D q=>qg q (λv q'=>qb q' λu=>rq v u λt=>match t with | .b c=>if c=O then qs W D q' else qr W D q' | _=>False) W) :=
 (λEs a b=>Cd (lI V (he.h Es a) hb.h ah) (h1.h Es a b) (h2.h Es a b),λdl H₀ hs H σ q Dq D W Es r hq E x=>by
  refine he.s dl H₀ hs H σ q _ W _ Es r hq (λv t q' H' (F,r') rv g=>?_) x
  refine hb.s dl H' σ q' _ _ r'.rd g λw u Fw H1 e1 P g=>?_
  refine Q dl H1 v w t u [] Fw _ _ e1.d (rv.evo r'.d e1) P g λy z Fx H2 e2 rx _ _ g=>?_
  have r2:c7 K dl H₀ hs H2 σ q':=(F,(r'.evo e1).evo e2);cases z with
  | b c =>
   let(U,_):=rx.r.bl;refine(c,U,?_);cases c with
   | true=>exact h1.s dl H₀ hs H2 σ q' Dq D W Es r2 g E x
   | false=>exact h2.s dl H₀ hs H2 σ q' Dq D W Es r2 g E x
  | _=>exact g.elim)
end
section
variable{X:Cx}{K:W.Frag}{i k:Nat}{a b e o c:Expr}{es:List Expr}{te tb to:TE}{ta:(St->XK)->TA}{qa:QAG}{ql:QA}{qo:QL}{pos apos pos' aM eQ:Pos}{m:Str}{C f:J}{prs:List Str}{ps:gK}{H₀:Hp}{hs:List (V×T)}{σ:St}{q:Sq}
def Pz(n:Int)(ql:QL):QL:=λq P=>ql q λp u=>match u with
 | .lp _ xs=>∃ m x,ixN xs.length n=Z m/\xs[m]? = Z x/\P (p ++ [.inr m]) x
 | _=>False
def Gg{n:Int}(he:QPL X K j e te qo)(hb:PE X b tb)(hn:∀ σ H R,R (.int n) H->tb σ H R)(hs:oB b:=by intro _ _;rfl)(hK:X.K=K:=by rfl):QPL X K j (.Subscript e b pos) (tOp (rIx K) te tb) (Pz n qo) :=
 (by subst hK;exact Cj xg he.h hb hs,λdl H σ q P R rd hq k=>he.s dl H σ q _ _ rd hq λt v p u w Q hv hs hw g=>by
  split at g
  ·let(m,x,hm,hx,g):=g;let(Fu,V):=rd.part Q hv hs hw;let(vs,G,U,U,h1,h2):=V.r.lpp;let(z,_,_,l1,_):=h2.itm hx;refine hn _ _ _ (.inl (_,vs,n,z,U,U,SqL.of h1,mM (by rw[h2.len];exact hm) l1,k t v _ x z Q hv (T.sub_snoc hs (by unfold T.sub;rw[hx];rfl)) (hw.snoc (show VAt H [.inr m] (.ref _) z from(_,_,z,U,h1,l1,U))) g))
  ·exact g.elim)
def Gf(Q:i≠j)(hc:Cls K C)(hn:bJ K C m)(ho:QPL X K j o to qo)(he:PE X e (bP i))(hs:swapsWith e (Z (.Attribute o m pos')) pos.line X.env=pure false:=by rfl)(hK:X.K=K:=by rfl) :
  QPS X K (.Assign [.Attribute o m pos'] e pos) (Jw K to (bP i) m) (λD q=>Ex2 (λy=>q[i]? = Z (.o y)) λy=>qo q λp u=>match u with
   | .om x V ns ts=>V=C/\ns.length<1000/\(ns.zip ts).lookup m=Y/\Ex3 (λt=>q[j]? = Z (.o t)) (λt=>((q.set i .no).set j (.o (T.put (.om x C (putN m ns) (d9 m y ns ts)) p t)))) D.nx
   | _=>False):=(by subst hK;exact AV ho.h he hs,λdl H₀ hs H σ q Dq D (F,r) hq E=>by
 let(y,hy,hq):=hq;let(vy,aG,ry):=r.g i _ y hy U;refine(vy,aG,ho.s dl H σ q _ _ r.rd hq λt v p u w hj hv aH hw hz=>?_)
 split at hz
 ·rename_i x V ns ts;let(U,hl,aK,t',ai,hz):=hz;rw[hj]at ai;cases ai;let(v',ah,rp):=r.g j _ t hj U;rw[hv]at ah;cases ah;let(w',Fu,G,a1,a2,a3,a4):=rp.r.zip p aH;cases hw.uniq (a1 H λ_ _ _ z=>z)
  let(dx,vs,G1,U,U,h1,h2,h3,h4):=a2.omm;let(o1,o2,o3):=r.o j t hj;let(y1,y2,y3):=r.o i y hy;have aM:=h4.len;have m1:∀ b,b∈x::dx::G1\/b∈G->b∈F j:=λb P=>a3.mem_iff.mpr (j1.mpr P)
  let(n1,n2,n3):=xQ.mp (a3.nodup_iff.mp o1);have apart:∀ b,b∈F j->b ∉ F i:=λb P=>o3 i Q b P
  have eF:[i,j].flatMap F=F i++F j:=by simp
  let H':=upd H x (.ins V dx (L2.dR m vy (ns.zip vs)))
  have xj:=m1 x (.inl dZ);have bo:c8 dl H [x] H':=c8.uO (.refl r.d) (bB.mpr U) (λb P=>by rw[bB.mp P];exact rp.n x xj) (λxs h=>by rw[h]at h1;cases h1)
  have tf:=bo.tf (λb P=>by rw[bB.mp P];exact r.bI xj) r.d
  have keep:∀ b,b≠x->∀ o,H b=Z o->H' b=Z o:=λb ne o h=>by show upd _ _ _ _=_;rw[ao ne];exact h
  have nx:=rX.mp n1;have aj:=ry.r.c6 tf (λ_ z=>z) λb P=>keep b λz=>apart b (z▸xj) P
  have ak:=h4.c6 tf (λ_ z=>z) λb P=>keep b λz=>nx.1 (by rw[<- z];exact c5 _ P)
  have rN:=au.Bs (f:=m) aj ak h3 aK;have hd2:H' dx=Z (.own x):=keep dx (λz=>nx.1 (by rw[<- z];exact dZ)) _ h2
  have aA:H' x=Z (.ins V dx ((putN m ns).zip (d9 m vy ns vs))):=by show upd _ _ _ _=_;rw[aB,BO (by omega)]
  have ax:aJ K dl H' (.ref x) (.om x V (putN m ns) (d9 m y ns ts)) _:=.om aA hd2 (wz (by omega)) rN
  let(F2,g1,g2):=a4 H' _ _ tf (λb P o h=>keep b (λz=>n3 x dZ b P z.symm) o h) ax
  have mem:∀ b∈F2,b∈F j\/b∈F i:=λb P=>by
   rcases j1.mp (g2.mem_iff.mp P)with z|z
   ·rcases i8.mp z with z|z
    ·exact .inl (z▸xj)
    ·rcases i8.mp z with z|z
     ·exact .inl (m1 b (.inl (by rw[z];exact c5 _ dZ)))
     ·rcases j1.mp z with z|z
      ·exact .inl (m1 b (.inl (c5 _ (c5 _ z))))
      ·rw[ko]at z;exact .inr z
   ·exact .inl (m1 b (.inr z))
  have nd:F2.Nodup:=by
   refine g2.nodup_iff.mpr ?_;rw[ko];have p0:(x::dx ::(G1++F i)++G).Perm ((x::dx::G1++G)++F i):=by
    show(x::dx ::(G1++F i++G)).Perm (x::dx ::(G1++G++F i));refine(List.Perm.cons _ (List.Perm.cons _ ?_));rw[BI,BI];exact List.perm_append_comm.append_left G1
   exact p0.nodup_iff.mpr (xQ.mpr (a3.nodup_iff.mp o1,y1,λc hc d hd e=>apart c (a3.mem_iff.mpr hc) (e▸hd)))
  have Hj:c8 dl H ([i,j].flatMap F) H':=by
   rw[eF];refine(λb o e n=>bo.k b o e λz=>n (by rw[bB.mp z];exact j0 _ xj),λb y e n=>bo.r b y e λz=>n (by rw[bB.mp z];exact j0 _ xj),λb xs P e=>?_,bo.d)
   by_cases z:b ∈ [x]
   ·exact bo.l b xs z e
   ·exact(xs,bo.k b _ e z ((j1.mp P).elim (ry.n b) (rp.n b)) λ_ z=>nomatch z)
  have r3:=r.zq (S:=[i,j]) (u':=λ_=>T.put (.om x V (putN m ns) (d9 m y ns ts)) p t) (F':=λn=>if n=j then F2 else []) (q':=(q.set i .no).set j (.o (T.put (.om x V (putN m ns) (d9 m y ns ts)) p t)))
   (λn hn=>by
    rcases i8.mp hn with z|z
    ·rw[z];exact(y,hy)
    ·rw[bB.mp z];exact(t,hj)) Hj
   (λn hn z=>by
    rcases i8.mp hn with e|e
    ·rw[e,rS Q.symm,rW (j2.mp hy).1]at z;cases z
    ·rw[bB.mp e];simp only[if_pos];exact(v,hv,g1,λb P=>(mem b P).elim (rp.n b) (ry.n b)))
   (λn hn=>by split;exact nd;exact kr)
   (λn hn b P=>by
    rw[eF]
    split at P
    ·exact .inl ((mem b P).elim (j0 _) (oE _))
    ·cases P)
   (λn hn l hl ne b P z=>by
    split at P
    ·rename_i e1
     split at z
     ·rename_i e2;exact ne (e2.trans e1.symm)
     ·cases z
    ·cases P)
   (by simp) (λn hn=>by rw[rS λz=>hn (by rw[z];exact c5 _ dZ),rS λz=>hn (by rw[z];exact dZ)])
   (λn hn=>by
    rcases i8.mp hn with e|e
    ·right;rw[e,rS Q.symm,rW (j2.mp hy).1];exact(U,if_neg Q)
    ·left;rw[bB.mp e,rW (by rw[BH];exact(j2.mp hj).1)])
  exact(x,V,dx,_,U,h1,hc,hn,by rw[T4];omega,E.nx _ σ _ (_,r3) hz)
 ·exact hz.elim)
def P9:Passes (CX1 X.prog X.w) X E0:=λ_ _ _ _ _ _ _ h=>by
 let(_,_,_,_,_,_,_,_,_,_,_,_,_,_,g):=h;exact g.elim
def MV(k i:Nat)(C:J)(ps:gK)(qa:QAG):QSX:=λW D q=>(∃ xs,q[k]? = Z (.o (.l xs)))/\(∃ t,q[i]? = Z (.o t))/\qa q (λts q'=>Ex2 (λxs=>q'[k]? = Z (.o (.l xs))) λxs=>Ex2 (λt=>q'[i]? = Z (.o t)) λt=>xs.length<j5/\∀ x,ps (.om x C [] []::t::ts) (λr us=>r = .n/\on1 us λu=>D.nx ((q'.set i .no).set k (.o (.l (xs ++ [u]))))) λ_ _ _=>False) W
def DN(ai:i≠k)(M:Mk K C f)(G:aR X.prog X.w X.K X.mg X.base (CX1 X.prog X.w) j f fd prs (spG K [0] [0,1] ps))(hr:bM (j+1) X.A)(hg:Gl X x)(hm:X.mg x=Z (.ref C))(P:Binds K fd prs [])(ho:PE X o (bP k))(hy:PE X b (bP i))(ha:xM X K es ta qa)(hK:X.K=K:=by rfl)
  (cq:attributeBase o "append" X.env (eval o X.env)=eval o X.env:=by rfl)
  (iy:((backTo aM (iS [.Call (.Name x pos') (b::es) [] pos] X.env)).all (λx=>!x.1)&&(backToKw aM (keywordEach [] X.env)).all (λx=>x.1.isSome)
   && decide (([.Call (.Name x pos') (b::es) [] pos]:List Expr).length+([]:List Keyword).length+(if([]:List Keyword).isEmpty then 0 else 1)<30))=true:=by rfl)
  (cp:(apos.endLine==aM.line)=true:=by rfl) (hs:iS [.Call (.Name x pos') (b::es) [] pos] X.env =(ϊ,eval (.Call (.Name x pos') (b::es) [] pos) X.env)::iS [] X.env:=by rfl) (cn:(backTo aM (iS [] X.env)).any (·.1)=false:=by rfl)
  (a3:swapsWith (.Call (.Attribute o "append" apos) [.Call (.Name x pos') (b::es) [] pos] [] aM) Y eQ.line X.env=pure false:=by rfl)
  (a7:(x ==("__debug__":Str))=false:=by decide) (aG:iS (b::es) X.env =(ϊ,eval b X.env)::iS es X.env:=by rfl) (a4:(backTo pos (iS es X.env)).any (·.1)=false:=by rfl) :
  mS X K (.Expr (.Call (.Attribute o "append" apos) [.Call (.Name x pos') (b::es) [] pos] [] aM) eQ) (λEs=>kz (tBM K "list" jA (bP k) (cw (BW C (spG K [0] [0,1] ps) [] E0 (cw (bP i) (ta Es))) fY))) (MV k i C ps qa) :=
 (λEs a _=>iJ (mE hK ho (by subst hK;exact Ci M G hr hg hm P .nil P9 (bj hy (ha.h Es a) aG) a7 aG a4) cq iy cp hs cn) a3,λdl H₀ hs H σ q Dq D W Es (F,r) hq E kx=>by
  let((xs,ek),(t0,ei),hq):=hq;let(v,hv,rp):=r.g k _ _ ek U;let(p,vs,G0,U,eF,h1,h2):=rp.r.lst;let(vy,aA,_):=r.g i _ _ ei U;refine(_,hv,.inl (U,vs,SqL.of h1),vy,aA,ha.s dl H₀ hs H σ q _ W _ Es (F,r) hq (λws ts q' H' (F',r') rs hz=>?_) kx)
  clear eF h1 h2 rp ek ei;let(xs,ek,t,ei,hl,hz):=hz;let(v',ah,rp):=r'.g k _ _ ek U;rw[hv]at ah;cases ah;let(p',vs,G0,ep,eF,h1,h2):=rp.r.lst;cases ep;let(v',ah,ry):=r'.g i _ _ ei U;rw[aA]at ah;cases ah;let(o1,o2,o3):=r'.o k _ ek;let(y1,y2,y3):=r'.o i _ ei;have apart:∀ b,b∈F' k->b ∉ F' i:=λb P=>o3 i ai b P
  intro z dz nz V ne;show spG K [0] [0,1] ps (.ref z ::(vy::ws ++ [])) _ _ E0;rw[ko];have Q:Evo dl H' (upd (upd H' dz (.own z)) z (.ins C dz [])):=((Evo.refl r'.d).new V).new (by rw[ao ne.symm];exact nz)
  have ro:Rp K dl (upd (upd H' dz (.own z)) z (.ins C dz [])) (.ref z) (.om z C [] []) [z,dz]:=(.om aB (by rw[ao ne,aB]) U .nil,λb P=>by
   rcases i8.mp P with e|e
   ·rw[e];exact r'.d.nd0 nz
   ·rw[bB.mp e];exact r'.d.nd0 V)
  have old:∀{n b},b∈F' n->b ∉ [z,dz]:=λ{n b} P e=>by
   have th:=r'.bI P;rcases i8.mp e with e|e
   ·rw[e]at th;exact th.no nz
   ·rw[bB.mp e]at th;exact th.no V
  have eU:[0,1].flatMap (λn:Nat=>if n=0 then [z,dz]else if n=1 then F' i else []) = [z,dz]++F' i:=by simp
  have ax:=ry.evo r'.d Q;have a0:=rs.evo r'.d Q;refine(dl,_,λn=>if n=0 then [z,dz]else if n=1 then F' i else [],_,_,Q.d,congrArg (· + 2) rs.r.len,λn x y e1 Q=>?_,λn hn=>?_,λn hn=>?_,hz z,λvr r2 Fr us F2 H2 bo told rv _ _ hz=>?_,λ_ _ _ _ _ _ _ hw=>hw.elim)
  ·match n with
   | 0=>cases e1;cases Q;exact ro
   | 1=>cases e1;cases Q;exact ax
   | n+2=>exact(a0.r.im0 U n x y (by simpa using e1) (by simpa using Q),λ_ z=>nomatch z)
  ·rw[mu,mu]at hn;rw[if_neg (by omega),if_neg (by omega)]
  ·rcases i8.mp hn with e|e
   ·rw[e];refine(by simp[ne.symm],λl hl b P h=>?_)
    rw[if_neg hl]at h
    split at h
    ·exact old h P
    ·cases h
   ·rw[bB.mp e];refine(y1,λl hl b P h=>?_)
    split at h
    ·exact old P h
    ·first|cases h |(rw[if_neg hl]at h;cases h)
  ·let(U,hz):=hz;let(u,U,hz):=on1.inv hz;let(U,_):=rv.r.non;have c1:=told.r 0 0 u (.ref z) U U U;let(d1,d2,_):=told.n 0 UM;rw[eU]at bo d2;have sep:∀ b∈F' k,b ∉ [z,dz]++F' i:=λb P h=>(j1.mp h).elim (old P) (apart b P)
   have kp:∀ b∈F' k,∀ o,H' b=Z o->H2 b=Z o:=λb P o h=>bo.k b o (Q.k b o h (rp.n b P) (.of (r'.bI P) h)) (sep b P) (rp.n b P) (.of (r'.bI P) h)
   have pk:p∈F' k:=by rw[eF];exact dZ
   have gk:∀ b∈G0,b∈F' k:=λb P=>by rw[eF];exact c5 _ P
   have aH:=kp p pk _ h1;have aK:∀ b ∈ [z,dz]++F' i,fF (upd (upd H' dz (.own z)) z (.ins C dz [])) b:=λb P=>(j1.mp P).elim (λh=>ro.r.there b h) λh=>ax.r.there b h
   have ak:=(Q.tf r'.d);have aX:=bo.tf aK Q.d;have l2:=(h2.c6 ak (λ_ z=>z) λb P o h=>Q.k b o h (rp.n b (gk b P)) (.of (r'.bI (gk b P)) h)).c6 aX (λ_ z=>z) λb P o h=>bo.k b o h (sep b (gk b P)) (rp.n b (gk b P)) (.of ((h2.c6 ak (λ_ z=>z) λb P o h=>Q.k b o h (rp.n b (gk b P)) (.of (r'.bI (gk b P)) h)).there b P) h)
   have pn:=rp.n p pk;have ND:∀ b∈F2 0,b ∉ F' k:=λb P h=>(d2 b P).elim (sep b h) λe=>(r'.bI h).no (Q.free e)
   have aS:=c8.tf (c8.uO (o:=.lst (vs ++ [.ref z])) (.refl bo.d) (bB.mpr U) (λb P=>by rw[bB.mp P];exact pn) (λxs _=>(_,U))) (λb P=>by rw[bB.mp P];exact(_,aH,U)) bo.d
   rw[eF]at o1;have aj:=rX.mp o1;have rl:aJ K dl (upd H2 p (.lst (vs ++ [.ref z]))) (.ref p) (.l (xs ++ [u])) (p ::(G0++(F2 0 ++ []))):=.l aB ((l2.append (.cons c1.r .nil)).c6 aS (λ_ z=>z) λb P o h=>by
    rw[ao λe=>?_];exact h
    subst e;rcases j1.mp P with P|P
    ·exact aj.1 P
    ·rw[ko]at P;exact ND _ P pk)
   rw[ko]at rl;have eS:[i,k].flatMap F'=F' i++F' k:=by simp
   have Qr:c8 dl H' ([i,k].flatMap F') (upd H2 p (.lst (vs ++ [.ref z]))):=by
    rw[eS];refine(λb o e n nd nr=>?_,λb y e n=>?_,λb ys P e=>?_,λd hd=>(bo.d d hd).other (pn d hd).1 (pn d hd).2)
    ·rw[ao λe=>n (by rw[e];exact j0 _ pk)]
     exact bo.k b o (Q.k b o e nd nr) (λh=>(j1.mp h).elim (λh=>by
      rcases i8.mp h with h|h
      ·rw[h,nz]at e;cases e
      ·rw[bB.mp h,V]at e;cases e) λh=>n (oE _ h)) nd nr
    ·rw[ao λe=>n (by rw[e];exact j0 _ pk)]
     let(y1,g1,g2):=Q.r b y e;let(y2,g3,g4):=bo.r b y1 g2 (λh=>(j1.mp h).elim (λh=>by
      rcases i8.mp h with h|h
      ·rw[h,nz]at e;cases e
      ·rw[bB.mp h,V]at e;cases e) λh=>n (oE _ h))
     exact(y2,Tz g3 g1,g4)
    ·by_cases ep:b=p
     ·rw[ep];exact(_,aB)
     ·rw[ao ep];rcases j1.mp P with P|P
      ·exact bo.l b ys (j0 _ P) (Q.k b _ e (ry.n b P) λ_ z=>nomatch z)
      ·exact(ys,kp b P _ e)
   have r3:=r'.zq (S:=[i,k]) (u':=λ_=>.l (xs ++ [u])) (F':=λn=>if n=k then p ::(G0++F2 0)else []) (q':=(q'.set i .no).set k (.o (.l (xs ++ [u]))))
    (λn hn=>by
     rcases i8.mp hn with e|e
     ·rw[e];exact(t,ei)
     ·rw[bB.mp e];exact(_,ek)) Qr
    (λn hn e=>by
     rcases i8.mp hn with h|h
     ·rw[h,rS ai.symm,rW (j2.mp ei).1]at e;cases e
     ·rw[bB.mp h];simp only[if_pos];refine(.ref p,hv,rl,λb P=>?_)
      rcases i8.mp P with e|P
      ·rw[e];exact pn
      ·exact(j1.mp P).elim (λh=>rp.n b (gk b h)) (c1.n b))
    (λn hn=>by
     split
     ·refine rX.mpr (λh=>(j1.mp h).elim aj.1 λh=>ND _ h pk,xQ.mpr (aj.2,d1,λc hc d hd e=>ND d hd (e▸gk c hc)))
     ·exact kr)
    (λn hn b P=>by
     rw[eS]
     split at P
     ·rcases i8.mp P with e|P
      ·rw[e];exact .inl (j0 _ pk)
      ·rcases j1.mp P with h|h
       ·exact .inl (j0 _ (gk b h))
       ·rcases d2 b h with h|h
        ·rcases j1.mp h with h|h
         ·rcases i8.mp h with h|h
          ·rw[h];exact .inr nz
          ·rw[bB.mp h];exact .inr V
         ·exact .inl (oE _ h)
        ·exact .inr (Q.free h)
     ·cases P)
    (λn hn l hl ne b P h=>by
     split at P
     ·rename_i e1
      split at h
      ·rename_i Q;exact ne (Q.trans e1.symm)
      ·cases h
     ·cases P)
    (by simp) (λn hn=>by rw[rS λe=>hn (by rw[e];exact c5 _ dZ),rS λe=>hn (by rw[e];exact dZ)])
    (λn hn=>by
     rcases i8.mp hn with e|e
     ·right;rw[e,rS ai.symm,rW (j2.mp ei).1];exact(U,if_neg ai)
     ·left;rw[bB.mp e,rW (by rw[BH];exact(j2.mp ek).1)])
   exact(U,p,vs,.ref z,U,U,aH,by rw[h2.len];exact hl,E.nx _ σ _ (_,r3) hz))
end
variable{tg:Expr}
section
variable{X:Cx}{K:W.Frag}{i k:Nat}{a b e o c:Expr}{pos apos aM p1 p2:Pos}{m:Str}{C f:J}{prs:List Str}{ps:PSp}{H₀:Hp}{hs:List (V×T)}{σ:St}{q:Sq}
theorem au.Ls:∀{ts us:List T}{vs:List V}{F:List J},au K dl H vs (ts++us) F->∃ q g P z,vs=q++g/\F=P++z/\au K dl H q ts P/\au K dl H g us z
 | [],us,vs,F,h=>([],vs,[],F,U,U,.nil,h)
 | t::ts,us,vs,F,h=>by
  have h:au K dl H vs (t ::(ts++us)) F:=h;cases h with
  | cons hx hr =>
   let(q,g,P,z,U,U,g1,g2):=au.Ls hr;exact(_::q,g,_++P,z,U,(BI ..).symm,.cons hx g1,g2)
inductive RL(k:Nat)(C:J)(m:Str)(ps:PSp)(q:Sq)(R:T->Sq->Prop):Prop
 | mk (a ys x ns ts) (h1:q[k]? = Z (.o (.lp a (ys ++ [.om x C ns ts])))) (h2:(ns.zip ts).lookup m=Y) (h3:ps [.om x C ns ts] λt=>t.im=O/\R t (q.set k (.o (.lp a ys))))
def JG(hc:Cls K C)(hm:Meth K C m f)(G:aR X.prog X.w X.K X.mg X.base CX0 j f fd prs (spQ K ps))(hr:bM j X.A)(P:Binds K fd prs [])(ho:PE X o (bP k))(hK:X.K=K:=by rfl)
  (cq:attributeBase o "pop" X.env (eval o X.env)=eval o X.env:=by rfl) (cp:(apos.endLine==aM.line)=true:=by rfl)
  {aj:Sem Bool} (ht:eval (.Call (.Attribute (.Call (.Attribute o "pop" apos) [] [] aM) m p1) [] [] pos) X.env =(do
   let ov <- eval (.Call (.Attribute o "pop" apos) [] [] aM) X.env
   standAt p1.atName
   let(f,first) <- holding [ov] (getMethod ov m aj)
   callWith pos f first (backTo pos (iS [] X.env)) (backToKw pos (keywordEach [] X.env))):=by rfl) :
  QPG X K (.Call (.Attribute (.Call (.Attribute o "pop" apos) [] [] aM) m p1) [] [] pos) (λ_=>qj C m (spQ K ps) [] E0 (Fi K "list" F5 (bP k)) fY) (λq R _=>RL k C m ps q R) :=
 (λ_ _=>by subst hK;exact tu (wJ PySem.F.plainAttrs_list PySem.F.slot_list_pop PySem.F.type_list_pop wZ ho cq cp) hc hm G hr P .nil qE ht,λdl H₀ hs H σ q R W Q Es (F,r) hq kk _=>by
  let(a,ys,x,ns,ts,ek,hl,hz):=hq;let(v,hv,rp):=r.g k _ _ ek U;let(o1,o2,o3):=r.o k _ ek;let(vs,G0,U,eF,h1,h2):=rp.r.lpp;let(ah,aH,F1,F2,U,U,g1,g2):=h2.Ls;cases g2 with
  | cons hx hn =>
   rename_i w ws Fx Fn;cases hn;rw[ko]at eF;have ak:a∈F k:=by rw[eF];exact dZ
   have s1:∀ b∈F1,b∈F k:=λb P=>by rw[eF];exact c5 _ (oE _ P)
   have s2:∀ b∈Fx,b∈F k:=λb P=>by rw[eF];exact c5 _ (j0 _ P)
   rw[eF]at o1;let(n0,n1):=rX.mp o1;let(n2,n3,n4):=xQ.mp n1;have an:=rp.n a ak;have V:c8 dl H [a] (upd H a (.lst ah)):=c8.uO (.refl r.d) (bB.mpr U) (λb P=>by rw[bB.mp P];exact an) (λ_ _=>(_,U))
   have tf:=V.tf (λb P=>by rw[bB.mp P];exact r.bI ak) r.d
   have kp:∀ b,b≠a->∀ o,H b=Z o->upd H a (.lst ah) b=Z o:=λb ne o h=>by rw[ao ne];exact h
   have aG:=g1.c6 tf (λ_ z=>z) λb P=>kp b λz=>n0 (by rw[<- z];exact oE _ P)
   have ai:=hx.c6 tf (λ_ z=>z) λb P=>kp b λz=>n0 (by rw[<- z];exact j0 _ P)
   have eS:[k].flatMap F=F k:=by simp
   have r2:=r.zq (S:=[k]) (u':=λ_=>.lp a ys) (F':=λ_=>a::F1) (q':=q.set k (.o (.lp a ys)))
    (λn hn=>by rw[bB.mp hn];exact(_,ek))
    (by
     rw[eS];refine(λb o e n=>V.k b o e λz=>n (by rw[bB.mp z];exact ak),λb y e n=>V.r b y e λz=>n (by rw[bB.mp z];exact ak),λb xs P e=>?_,V.d)
     by_cases z:b ∈ [a]
     ·exact V.l b xs z e
     ·exact(xs,V.k b _ e z (rp.n b P) λ_ z=>nomatch z))
    (λn hn _=>by
     rw[bB.mp hn];exact(_,hv,.lp aB aG,λb P=>rp.n b ((i8.mp P).elim (λz=>z▸ak) (s1 b))))
    (λ_ _=>rX.mpr (λz=>n0 (oE _ z),n2))
    (λ_ _ b P=>.inl (by rw[eS];exact(i8.mp P).elim (λz=>z▸ak) (s1 b)))
    (λn hn l hl ne=>absurd ((bB.mp hl).trans (bB.mp hn).symm) ne)
    (by simp) (λn hn=>by rw[rS λz=>hn (by rw[z];exact bB.mpr U)])
    (λn hn=>by left;rw[bB.mp hn,rW (j2.mp ek).1])
   have ax:=ai;let(dx,ws,G1,U,eG,i1,i2,i3,i4):=ax.omm;refine(_,hv,.inl (U,_,SqL.of h1),a,_,.ref x,U,U,h1,by simp,?_)
   rw[TL];refine(x,dx,_,U,i1,(vx i4.len).mp hl,?_);show spQ K ps [.ref x] _ Q E0;refine(dl,[.om x C ns ts],Fx ++ [],_,r2.d,(.cons ai .nil,λb P=>rp.n b (s2 b (by rwa [ko]at P))),hz,λv t F' H2 ev rv _ _ aA=>?_)
   let(im,hz):=aA;obtain rfl:=rv.r.im im;exact kk v t _ H2 (_,r2.evo ev) rv hz)
def Itv(K:W.Frag)(a:J)(n:Nat):It :=
 (λi H=>i<n/\∃ xs,SqL K H a xs/\xs.length=n,λi H x H'=>H'=H/\∀ xs,SqL K H a xs->xs[n - 1 - i]? = Z x,λi _=>i=n)
theorem Fb{w:World}{K:W.Frag}(a it:J)(n:Nat):Turn P w K tg (Itv K a n) [it] it (λi h=>h.IsRevIter it a ((n:Int) - 1 - i)) where
 mem:=by simp
 obj:=λi h st b q=>by
  have e:=by simpa using q
  subst e;let(o,e,c,d):=st;exact(o,e,λv z=>by rw[d]at z;cases z)
 keep:=λi h h' st k=>st.at λo e=>k it (by simp) o e
 item:=by
  intro X Q hw V hc i gd s σ H E I hf st hg;subst Q hw V;let(hi,xs,hq,hx):=hg;let(its,rv,p,hz):=I.list hq;let(u,hu,ru):=rv.get (i:=n - 1 - i) (x:=xs[n - 1 - i]'(by omega)) (xT _)
  let(f0,f1,f2,f3,f4,f5):=hf it (by simp)
  have g:s.heap.IsRevIter it a ((n - 1 - i:Nat):Int):=by rw[show((n - 1 - i:Nat):Int) =(n:Int) - 1 - i by omega];exact st
  refine wpAny_pyNext_rev_item g p.isList (by simpa using hu) λh' g sb=>?_
  have I1:=I.turned (t':=s.toks) (λb o q e=>(sb.2 b q).trans e) f0 f1 f3 f4 f5
  let(o,e,c,d):=id g;exact(u,U,zG e c d (by decide) (_,H,I1,ru,(U,λys hy=>by rw[I.tP hy hq];exact xT _),by rw[show(n:Int) - 1 - ((i+1:Nat):Int) =((n - 1 - i:Nat):Int) - 1 by omega];exact g,λb q=>(hf b q).1))
 done:=by
  intro X Q hw V hc i gd s σ H E I hf st hg;subst Q hw V;have hg:i=n:=hg;subst hg;let(f0,f1,f2,f3,f4,f5):=hf it (by simp)
  exact wpAny_pyNext_rev_end (I.ok.hd hc) (by rw[show(-1:Int) =(i:Int) - 1 - i by omega];exact st) λh' eb=>(U,I.turned (λb o q e=>eb b o q e) f0 f1 f3 f4 f5)
 self:=λ_ _ _ _ _ st h=>wpAny_pyIter_revIter st h
def QQ(K:W.Frag)(tl:TE):TI:=λσ H R=>tl σ H λx H1=>∃ a xs,x = .ref a/\SqL K H1 a xs/\R (Itv K a xs.length) H1
def Np{l:Expr}{tl:TE}(hg:Gl X "reversed")(hm:X.mg "reversed" = Y)(hl:PE X l tl)(hs:iS [l] X.env = [(ϊ,eval l X.env)]:=by rfl):PI X tg (.Call (.Name "reversed" p2) [l] [] pos) (QQ X.K tl):=by
 intro gd s σ H R I h;refine Ob (i6 I hg hm boot_reversed (PyProof.Rows.callWith_type1 ?_ hs U));rw[hs];refine Calls.spliced_cons (thn (hl gd s σ H _ I h) λu s1 z=>?_)
 let(x,H1,g,Q,a,xs,ex,V,q):=z;subst ex;cases Q;refine Calls.spliced_nil ?_;let(its,P,pl,hz):=g.list V;refine call_reversed_list pl.isList ?_;refine wpAny_pyIter_revIter (l:=a) (i:=(its.toArray.size:Int) - 1) (_,oF _ U,U,U) ?_;refine(s1.heap.objs.size,[s1.heap.objs.size],_,_,H1,U,g.kept λb o e=>fx _ e,Fb a _ xs.length,(_,oF _ U,U,by simp[revObj,P.length]),λb hb=>?_,q)
 have e:=by simpa using hb
 subst e;exact g.Eu (lx _) (g.hok.fresh (lx _))
def N6{a:J}{xs:List T}:ve K dl (Itv K a xs.length) xs.reverse [(.ref a,.l xs)] where
 go:=λH i D h hi=>by
  let(F,r):=h _ (bB.mpr U);let(p,vs,G,e,_,h1,h2):=r.r.lst;cases e;exact(by rw[QX]at hi;exact hi,vs,SqL.of h1,h2.len)
 yld:=λH i x fp v H' D h hx y=>by
  have r:=h _ (bB.mpr U);let(p,vs,G,e,z,h1,h2):=r.r.lst;cases e;let(U,y):=y;have hi:=(j2.mp hx).1;rw[QX]at hi;rw[UP hi]at hx;let(w,Q,hw,g,hs):=h2.get hx;have P:=y vs (SqL.of h1);rw[hw]at P;cases P;refine(.refl D,Q,(g,λb q=>r.n b ?_),λb q=>.inr (_,bB.mpr U,?_))
  ·rw[z];exact c5 _ (hs b q)
  ·rw[z];exact c5 _ (hs b q)
 stop:=λH D h=>QX
def RB(i:Nat):QJ:=λq Q=>match q[i]? with
 | some (.r (.l xs))=>Q xs.reverse q
 | _=>False
def MH(hg:Gl X "reversed")(hm:X.mg "reversed" = Y)(h:PE X e (bP i))(hs:iS [e] X.env = [(ϊ,eval e X.env)]:=by rfl)(hK:X.K=K:=by rfl):QPJ X K tg (.Call (.Name "reversed" p2) [e] [] pos) (QQ K (bP i)) (RB i):=(by subst hK;exact Np hg hm h hs,λdl H₀ hs H σ q Q R (F0,V) P k=>by
 unfold RB at P
 split at P
 ·rename_i xs e1;let(v,hv,r):=V.g i _ _ e1 U;have r1:=V.hold r λj u hj b hb=>(V.o j u hj).2.2 i (λz=>by rw[z,hj]at e1;cases e1) b hb
  let(p,vs,G,U,_,h1,h2):=r.r.lst;refine(_,hv,p,vs,U,SqL.of h1,?_);rw[h2.len];exact k _ _ _ H q (F0,r1) N6 P
 ·exact P.elim)
end
variable{r':R2}{g:Tg}
section
variable{X:Cx}{K:W.Frag}{a b c e o:Expr}{ta tb tc:TE}{qa qb qc:QE}{pos apos aM:Pos}{i:Nat}
def MR(rq g:Q2)(qa qb qc:QE):QE:=λq Q=>qa q λt=>qb q λu=>rq t u λz=>match z with
 | .b k=>if k=O then qc q λw=>g u w Q else Q (.b ϊ)
 | _=>False
def Gq{P:CmpOp}{r:R2}{ah:Q2}(ho:OpR X (compareOp op) r)(hs:gf K r rq)(aj:OpR X (compareOp P) r')(ai:gf K r' ah)(ha:QPE X K a ta qa)(hb:QPE X K b tb qb)(hc:QPE X K c tc qc)
  (hm:lastMarks [op,P] [b,c]=false:=by with_unfolding_all rfl):QPF X K (.Compare a [op,P] [b,c] pos) (Fg r r' ta tb tc) (MR rq ah qa qb qc):=(GX ho aj ha.h hb.h hc.h hm,λdl H σ q Q R rd hq k =>
 ha.s dl H σ q _ _ rd hq λv t F H1 e1 r1 hq=>hb.s dl H1 σ q _ _ (rd.evo e1) hq λw u G H2 e2 r2 hq=>hs dl H2 v w t u F G _ _ e2.d (r1.evo e1.d e2) r2 hq λx z F3 H3 e3 r3 _ _ V=>by
  cases z with
  | b l =>
   let(U,_):=r3.r.bl;refine(l,U,?_);have g:=(e1.trans e2).trans e3;cases l with
   | false=>exact k _ _ [] H3 g (.c (.b ϊ)) (λ_ z=>nomatch z) kr V
   | true =>
    exact hc.s dl H3 σ q _ _ (rd.evo g) V λy s F4 H4 e4 r4 V=>ai dl H4 w y u s G F4 _ _ e4.d ((r2.evo e2.d e3).evo e3.d e4) r4 V λx z F' H5 e5 r5 f5 n5 V=>k x z F' H5 ((g.trans e4).trans e5) r5 (λb hb=>(g.trans e4).free (f5 b hb)) n5 V
  | _=>exact V.elim)
def LC(i:Nat)(g:Tg):QS:=λD q=>match q[i]? with
 | some (.o (.l xs))=>∃ ys x,xs=ys ++ [x]/\T.ims xs=O/\Ex2 (λq'=>g.put x (q.set i (.o (.l ys)))=Z q') D.nx
 | _=>False
def JA(ho:PE X o (bP i))(hg:PG X tg (g.h K))(hK:X.K=K:=by rfl)(cq:attributeBase o "pop" X.env (eval o X.env)=eval o X.env:=by rfl)(cp:(apos.endLine==aM.line)=true:=by rfl)
  (hs:swapsWithSole [tg] (.Call (.Attribute o "pop" apos) [] [] aM) pos.line X.env=pure false:=by rfl) (hw:swappedStores [tg] (.Call (.Attribute o "pop" apos) [] [] aM) X.env=pure none:=by rfl)
  (h1:(assignEach [tg] X.env).map (·.2) = [assign tg X.env]:=by rfl):QPS X K (.Assign [tg] (.Call (.Attribute o "pop" apos) [] [] aM) pos) (mW (Fi K "list" F5 (bP i)) (g.h K)) (LC i g) :=
 (GH (by subst hK;exact wJ PySem.F.plainAttrs_list PySem.F.slot_list_pop PySem.F.type_list_pop wZ ho cq cp) hg hs hw h1,λdl H₀ hs H σ q Dq D (F,r) Q E=>by
 unfold LC at Q
 split at Q
 ·rename_i xs ei;let(ys,x,U,P,q',V,Q):=Q;let(v,hv,rp):=r.g i _ _ ei U;let(p,vs,G,U,eF,h1,h2):=rp.r.lst;let(us,w,F1,F2,U,r1,r2,U):=h2.last;rw[dh,qp]at P;obtain rfl:=r1.im P.1;have hx:x.im=true:=by have:=P.2;simpa [T.ims]using this
  obtain rfl:=r2.im hx;refine(_,hv,.inl (U,_,SqL.of h1),p,_,w,U,U,h1,by simp,?_)
  rw[TL];let(F3,r3):=r.mn ei hv eF (.refl r.d) r1 kr (λ_ z=>nomatch z)
  have pn:=rp.n p (by rw[eF];exact dZ)
  have tf:=c8.tf (c8.uO (o:=.lst us) (.refl r.d) (bB.mpr U) (λb hb=>by rw[bB.mp hb];exact pn) (λ_ _=>(_,U))) (λb hb=>by rw[bB.mp hb];exact(_,h1,U)) r.d
  have rx:Rp K dl (upd H p (.lst us)) w x []:=.c (r2.c6 tf (λ_ z=>z) λ_ z=>nomatch z)
  exact AG r3 rx (λ_ _ _ _ _ z=>nomatch z) V λah r'=>E.nx _ _ _ r' Q
 ·exact Q.elim)
def Gi(h:QPE X K e ta qa):QPI X K tg e (QP ta) (asS qa):=(Nn h.h,λdl H σ q Q R rd P k=>h.s dl H σ q _ _ rd P λv t F H' V r g=>by
 split at g
 ·let(U,_):=r.r.str;exact(_,U,k _ _ [] H' V N5 (λ_ z=>nomatch z) g)
 ·exact g.elim)
end
section
variable{X:Cx}{K:W.Frag}{H₀:Hp}{hs:List (V×T)}{σ:St}{q:Sq}{F:Nat->List J}{i k:Nat}{ps:gK}{e:Expr}{es:List Expr}{tl:TA}{ql:QA}{pos pos':Pos}{f:J}{prs:List Str}
def Qs{t:T}{v:V}{vs:List V}{ts:List T}{R:T->Sq->Prop}{W:Sq->QW}{Q:VK}{Es:St->XK}(r:Rel K dl H₀ hs H σ q F)(hi:q[i]? = Z (.o t))(hv:σ[i]? = Z (Z v))(hl:vs.length=ts.length)(hj:vs[j]? = Z v)(ro:∀ n w u,n≠j->vs[n]? = Z w->ts[n]? = Z u->Rp K dl H w u [])
  (hp:∀ a,ps (ts.set j (lv a t)) (λr us=>r.im=O/\on1 us λu=>R r (q.set i (.o (lb t u)))) (W (q.set i .no))) (kk:∀ v t q' H',c7 K dl H₀ hs H' σ q'->Rp K dl H' v t []->R t q'->Q v H') (kx:XOk K dl H₀ hs W Es):spG K [j] [j] ps vs H Q (Es σ):=by
 let(v2,w2,Fu,ai,ak,ru,nu,md):=r.mod (p:=[]) hi U;rw[hv]at ai;cases ai;cases ak H (.refl r.d);let(v3,ah,rp):=r.g i _ t hi U;rw[hv]at ah;cases ah;obtain rfl:=ru.r.uniq rp.r;let(a,r1,bk):=Cq ru.r;have ax:=(j2.mp hj).1;have eU:[j].flatMap (λn=>if n=j then F i else [])=F i:=by simp
 refine(dl,_,λn=>if n=j then F i else [],_,_,r.d,by rw[BH];exact hl,λn w u e1 e2=>?_,λn hn=>if_neg λz=>?_,λn hn=>?_,hp a,λv r' Fr us F' H' bo told rv _ _ P=>?_,λa C ns us H' bo rx aj=>?_)
 ·by_cases e:n=j
  ·subst e;rw[hj]at e1;cases e1;rw[rW (by omega)]at e2
   cases e2;rw[if_pos rfl];exact(r1,ru.n)
  ·rw[if_neg e];rw[rS (Ne.symm e)]at e2;exact ro n w u e e1 e2
 ·rw[BH]at hn;omega
 ·rw[bB.mp hn,if_pos rfl];exact(nu,λk hk b _ z=>by rw[if_neg hk]at z;cases z)
 ·let(im,P):=P;let(u',U,P):=on1.inv P;have rp:=told.r 0 j u' _ U U hj;let(n1,n2,_):=told.n 0 UM;rw[eU]at bo n2;let(F2,r2):=md H' _ (F' 0) bo (bk H' u' _ rp.r,rp.n) n1 n2;obtain rfl:=rv.r.im im;exact kk v r' _ H' (F2,r2) rv P
 ·rw[eU]at bo;have eF:[i].flatMap F=F i:=by simp
  have r2:=r.HS (S:=[i]) (q':=q.set i .no) (λn hn=>by rw[bB.mp hn];exact(t,hi)) (by rw[eF];exact bo) (by simp) (λn hn=>rS λz=>hn (by rw[z];exact bB.mpr U)) (λn hn=>by rw[bB.mp hn];exact rW (j2.mp hi).1)
  exact kx H' σ _ a C ns us r2 rx aj
def MS(i j:Nat)(ps:gK)(ql:QA):QG:=λq R W=>Ex2 (λt=>q[i]? = Z (.o t)) λt=>ql q λts=>∀ a,ps (ts.set j (lv a t)) (λr us=>r.im=O/\on1 us λu=>R r (q.set i (.o (lb t u)))) (W (q.set i .no))
theorem kO(G:aR X.prog X.w X.K X.mg X.base (CX1 X.prog X.w) k f fd prs (spG K [j] [j] ps))(hr:bM k X.A)(hg:Gl X x)(hm:X.mg x=Z (.ref f))(hk:W.keepIn X.K (.ref f)=O)(hb:Binds X.K fd prs [])(ha:Ln X K (e::es) tl i j ql)
  (V:(x ==("__debug__":Str))=false:=by decide) (he:iS (e::es) X.env =(ϊ,eval e X.env)::iS es X.env:=by rfl) (P:(backTo pos (iS es X.env)).any (·.1)=false:=by rfl) :
  QPG X K (.Call (.Name x pos') (e::es) [] pos) (λEs=>v5 (spG K [j] [j] ps) Es tl) (MS i j ps ql) :=
 (λEs a=>tD G hr hg hm hk hb a ha.h V he P,λdl H₀ hs H σ q R W Q Es (F,r) z kk kx=>by
  let(t,hi,z):=z;let(v,hv,_):=r.g i _ _ hi U;refine ha.s dl H σ q v _ _ r.rd hv z λvs ts H1 e1 hl hj ro hz=>?_
  exact Qs (r.evo e1) hi hv hl hj ro hz kk kx)
end
end L2
namespace K02
open PySem L2
def top(i:Nat):Stmt:=PySem.Challenge.pw_pursewright_k02_whole_written_and_read.main.body.getD i (.Pass (0,0,0,0))
def inClass(s:Stmt)(j:Nat):Stmt:=match s with
 | .ClassDef _ _ _ b _ _ _ _ _ _ _=>b.getD j (.Pass (0,0,0,0))
 | s=>s
abbrev fns:List Str:=["row"]
theorem Kx:("row":Str)∈fns:=by simp[fns]
theorem Oz:FOk "row":=by unfold FOk;rw[typeLookup_type,builtinLookup_eq_fast];kernel_rfl
abbrev oY:Stmt:=inClass (top 2) 0
theorem An:aE ["self","row"] ["self","row"] (aq oY):=by symm
abbrev gi:Stmt:=inClass (top 14) 0
theorem oZ:aE ["self","row","number"] ["self","row","number"] (aq gi):=by symm
abbrev fH:Stmt:=inClass (top 14) 1
theorem m7:aE ["self"] ["self"] (aq fH):=by symm
abbrev dQ:Stmt:=inClass (top 14) 2
theorem kE:aE ["self"] ["self"] (aq dQ):=by symm
abbrev gh:Stmt:=inClass (top 14) 3
theorem jd:aE ["self","word"] ["self"] (aq gh):=by symm
abbrev dP:Stmt:=inClass (top 14) 4
theorem kD:aE ["self","due"] ["self","due"] (aq dP):=by symm
abbrev dB:Stmt:=inClass (top 14) 5
theorem fZ:aE ["self","word"] ["self"] (aq dB):=by symm
abbrev cy:Stmt:=inClass (top 14) 6
theorem eJ:aE ["self","due","names"] ["self","due"] (aq cy):=by symm
abbrev c9:Stmt:=inClass (top 14) 7
theorem fN:aE ["self","word"] ["self"] (aq c9):=by symm
abbrev fA:Stmt:=inClass (top 14) 8
theorem lZ:aE ["self"] ["self"] (aq fA):=by symm
abbrev gj:Stmt:=inClass (top 15) 0
theorem pb:aE ["self","heads","looked"] ["self","heads","looked"] (aq gj):=by symm
abbrev dC:Stmt:=inClass (top 15) 1
theorem f7:aE ["self","words","maker"] ["self","words"] (aq dC):=by symm
abbrev de:Stmt:=inClass (top 15) 2
theorem jv:aE ["self","body"] ["self","body"] (aq de):=by symm
abbrev fJ:Stmt:=inClass (top 15) 3
theorem m9:aE ["self"] ["self"] (aq fJ):=by symm
abbrev pe:Stmt:=top 9
theorem Ap:aE ["text"] ["text"] (aq pe):=by symm
abbrev mh:Stmt:=top 10
theorem yo:aE ["text"] ["text"] (aq mh):=by symm
abbrev wj:Stmt:=top 11
theorem FP:aE ["text","signs","longest"] ["text","signs","longest"] (aq wj):=by symm
abbrev Au:Stmt:=top 13
theorem jt:aE ["text","kinds","functions","rows","number","row","words"] ["text"] (aq Au):=by symm
abbrev kF:Stmt:=top 16
theorem jr:aE ["words","name","makers"] ["words"] (aq kF):=by symm
abbrev jw:Stmt:=top 17
theorem iW:aE ["words","maker","fields"] ["words"] (aq jw):=by symm
abbrev gC:Stmt:=top 18
theorem cg:aE ["words","name","params","param","kind","body"] ["words"] (aq gC):=by symm
abbrev kI:Stmt:=top 19
theorem df:aE ["words","cases","heads","word","whole"] ["words"] (aq kI):=by symm
abbrev jx:Stmt:=top 20
theorem lU:aE ["words","cases","body"] ["words","cases","body"] (aq jx):=by symm
abbrev iX:Stmt:=top 21
theorem ic:aE ["heads","body","head"] ["heads","body"] (aq iX):=by symm
abbrev kH:Stmt:=top 22
theorem mZ:aE ["words","word","coins"] ["words","word"] (aq kH):=by symm
abbrev me:Stmt:=top 23
theorem iF:aE ["words","bound","word","used"] ["words"] (aq me):=by symm
abbrev we:Stmt:=top 25
theorem yn:aE ["program","rows"] ["program"] (aq we):=by symm
abbrev mf:Stmt:=top 26
theorem qy:aE ["kind","makers"] ["kind"] (aq mf):=by symm
abbrev ie:Stmt:=top 27
theorem fi:aE ["function","words","name","kind"] ["function"] (aq ie):=by symm
abbrev jy:Stmt:=top 28
theorem gu:aE ["body","words","waiting","thing"] ["body"] (aq jy):=by symm
abbrev ma:Stmt:=top 29
theorem qw:aE ["piece","word"] ["piece"] (aq ma):=by symm
abbrev gB:Stmt:=top 30
theorem d6:aE ["piece","things","number","arm"] ["piece"] (aq gB):=by symm
abbrev AA:Stmt:=top 32
theorem m5:aE ["_law_script","_law_base","_law_cells","_law_number","_law_cell"] ["_law_script","_law_base"] (aq AA):=by symm
abbrev Az:Stmt:=top 33
theorem sd:aE ["_law_deal_here","_law_many","_law_number","_law_one_here","_law_other"] ["_law_deal_here","_law_many"] (aq Az):=by symm
abbrev Aw:Stmt:=top 34
theorem lC:aE ["_law_deal_here","_law_taken","_law_form_here","_law_near","_law_many","_law_word"] ["_law_deal_here"] (aq Aw):=by symm
abbrev Av:Stmt:=top 35
theorem ju:aE ["_law_deal_here","_law_found","_law_word","_law_at","_law_k","_law_letter","_law_other"] ["_law_deal_here"] (aq Av):=by symm
abbrev kJ:Stmt:=top 36
theorem m4:aE ["_law_word","_law_taken"] ["_law_word"] (aq kJ):=by symm
abbrev FQ:Stmt:=top 37
theorem My:aE ["_law_deal_here","_law_pool_here"] ["_law_deal_here","_law_pool_here"] (aq FQ):=by symm
abbrev Aq:Stmt:=top 38
theorem Jv:aE ["_law_deal_here","_law_pool_here","_law_most"] ["_law_deal_here","_law_pool_here","_law_most"] (aq Aq):=by symm
abbrev Ax:Stmt:=top 39
theorem wc:aE ["_law_deal_here","_law_pool_here","_law_makers","_law_k"] ["_law_deal_here","_law_pool_here"] (aq Ax):=by symm
abbrev AB:Stmt:=top 40
theorem gQ:aE ["_law_deal_here","_law_pool_here","_law_room","_law_depth","_law_long","_law_form_here","_law_coins","_law_x","_law_y","_law_names","_law_many","_law_arms","_law_k"] ["_law_deal_here","_law_pool_here","_law_room","_law_depth","_law_long"] (aq AB):=by symm
abbrev Ay:Stmt:=top 41
theorem fM:aE ["_law_deal_here","_law_pool_here","_law_large","_law_kinds","_law_functions","_law_room","_law_long","_law_k","_law_params","_law_j","_law_body_here"] ["_law_deal_here"] (aq Ay):=by symm
abbrev kK:Stmt:=top 42
theorem bQ:aE ["_law_body_here","_law_found","_law_arms","_law_maker","_law_names","_law_inner"] ["_law_body_here"] (aq kK):=by symm
abbrev As:Stmt:=top 43
theorem fL:aE ["_law_program","_law_lines","_law_name_here","_law_makers","_law_parts","_law_params","_law_kind_here","_law_body_here","_law_words","_law_param"] ["_law_program"] (aq As):=by symm
abbrev wk:Stmt:=top 44
theorem m6:aE ["_law_found","_law_due","_law_left","_law_one_here","_law_other"] ["_law_found","_law_due"] (aq wk):=by symm
abbrev wg:Stmt:=top 45
theorem sQ:aE ["_law_program","_law_text","_law_found"] ["_law_program"] (aq wg):=by symm
abbrev qz:Stmt:=top 46
theorem Ao:aE ["_law_script","_law_deal_here","_law_programs"] ["_law_script"] (aq qz):=by symm
set_option genInjectivity false in
structure Adr where
 bA:J
 aU:J
 fe:J
 pV:FuncData
 ai:J
 cA:J
 gH:FuncData
 cY:J
 gp:FuncData
 b9:J
 eY:FuncData
 dv:J
 gG:FuncData
 b8:J
 eV:FuncData
 bT:J
 dX:FuncData
 bx:J
 cN:FuncData
 bK:J
 dE:FuncData
 cH:J
 fV:FuncData
 aA:J
 cB:J
 gI:FuncData
 bU:J
 dY:FuncData
 bL:J
 dF:FuncData
 cZ:J
 gq:FuncData
 lL:J
 vE:FuncData
 jR:J
 uk:FuncData
 su:J
 CQ:FuncData
 ua:J
 Bv:FuncData
 iN:J
 qN:FuncData
 gT:J
 nW:FuncData
 fm:J
 jY:FuncData
 iP:J
 qP:FuncData
 gU:J
 nY:FuncData
 gw:J
 lW:FuncData
 iO:J
 qO:FuncData
 jP:J
 ug:FuncData
 so:J
 CO:FuncData
 jQ:J
 uh:FuncData
 fU:J
 k8:FuncData
 gW:J
 nZ:FuncData
 jO:J
 uf:FuncData
 fk:J
 jX:FuncData
 xx:J
 Ig:FuncData
 xw:J
 Ie:FuncData
 xu:J
 Ib:FuncData
 xt:J
 Ia:FuncData
 iQ:J
 qQ:FuncData
 CG:J
 LW:FuncData
 xq:J
 HY:FuncData
 xv:J
 Ic:FuncData
 xy:J
 Ih:FuncData
 ub:J
 Bw:FuncData
 iR:J
 qR:FuncData
 xr:J
 HZ:FuncData
 sv:J
 CS:FuncData
 sr:J
 CP:FuncData
 vD:J
 LX:FuncData
 eC:J
structure Txt(K:W.Frag)(mg:Str->Option B)(a:Adr):Prop where
 Jb:pZ K fns a.bA (bmV) Y
 IM:mg "PurseError" = Z (.ref a.bA)
 IP:W.keepIn K (.ref a.bA)=O
 ib:pZ K fns a.aU (.ref a.bA::bmV) (Z a.fe)
 hU:mg "NoText" = Z (.ref a.aU)
 hV:W.keepIn K (.ref a.aU)=O
 lM:Fun K "__init__" "NoText.__init__" oY a.fe a.pV
 hW:W.isFn K (.ref a.fe)=O
 ia:Binds K a.pV ["self","row"] []
 aj:Cls K a.ai
 zi:mg "RowWords" = Z (.ref a.ai)
 zk:Mk K a.ai a.cA
 fS:bJ K a.ai "words"
 bD:bJ K a.ai "number"
 dI:bJ K a.ai "place"
 fu:Fun K "__init__" "RowWords.__init__" gi a.cA a.gH
 D9:Meth K a.ai "__init__" a.cA
 rJ:Binds K a.gH ["self","row","number"] []
 eD:Fun K "ahead" "RowWords.ahead" fH a.cY a.gp
 bY:Meth K a.ai "ahead" a.cY
 ck:Binds K a.gp ["self"] []
 cR:Fun K "has_more" "RowWords.has_more" dQ a.b9 a.eY
 cE:Meth K a.ai "has_more" a.b9
 cP:Binds K a.eY ["self"] []
 fq:Fun K "take" "RowWords.take" gh a.dv a.gG
 cX:Meth K a.ai "take" a.dv
 dw:Binds K a.gG ["self"] []
 cQ:Fun K "take_due" "RowWords.take_due" dP a.b8 a.eV
 aS:Meth K a.ai "take_due" a.b8
 aX:Binds K a.eV ["self","due"] []
 cK:Fun K "take_name" "RowWords.take_name" dB a.bT a.dX
 aH:Meth K a.ai "take_name" a.bT
 aK:Binds K a.dX ["self"] []
 bR:Fun K "take_names_to" "RowWords.take_names_to" cy a.bx a.cN
 eO:Meth K a.ai "take_names_to" a.bx
 ff:Binds K a.cN ["self","due"] []
 cu:Fun K "take_coins" "RowWords.take_coins" c9 a.bK a.dE
 jJ:Meth K a.ai "take_coins" a.bK
 ke:Binds K a.dE ["self"] []
 dJ:Fun K "finish" "RowWords.finish" fA a.cH a.fV
 mF:Meth K a.ai "finish" a.cH
 ou:Binds K a.fV ["self"] []
 bu:Cls K a.aA
 zj:mg "OpenCase" = Z (.ref a.aA)
 zm:Mk K a.aA a.cB
 iL:bJ K a.aA "heads"
 ik:bJ K a.aA "looked"
 gn:bJ K a.aA "arms"
 dU:bJ K a.aA "arm_head"
 fv:Fun K "__init__" "OpenCase.__init__" gj a.cB a.gI
 Ea:Meth K a.aA "__init__" a.cB
 rK:Binds K a.gI ["self","heads","looked"] []
 cL:Fun K "begin_arm" "OpenCase.begin_arm" dC a.bU a.dY
 gc:Meth K a.aA "begin_arm" a.bU
 gA:Binds K a.dY ["self","words"] []
 cv:Fun K "finish_arm" "OpenCase.finish_arm" de a.bL a.dF
 jK:Meth K a.aA "finish_arm" a.bL
 kg:Binds K a.dF ["self","body"] []
 eI:Fun K "whole" "OpenCase.whole" fJ a.cZ a.gq
 nK:Meth K a.aA "whole" a.cZ
 pX:Binds K a.gq ["self"] []
 nd:[a.bA,a.aU].Nodup
 vR:Dn K mg "is_name" pe a.lL a.vE ["text"]
 uI:Dn K mg "is_coins" mh a.jR a.uk ["text"]
 xZ:Dn K mg "is_of" wj a.su a.CQ ["text","signs","longest"]
 BM:Dn K mg "read" Au a.ua a.Bv ["text"]
 iT:Dn K mg "read_kind" kF a.iN a.qN ["words"]
 dq:Dn K mg "read_maker" jw a.gT a.nW ["words"]
 fw:Dn K mg "read_function" gC a.fm a.jY ["words"]
 iV:Dn K mg "read_body" kI a.iP a.qP ["words"]
 gZ:Dn K mg "close_arms" jx a.gU a.nY ["words","cases","body"]
 fg:Dn K mg "under_heads" iX a.gw a.lW ["heads","body"]
 iU:Dn K mg "read_head" kH a.iO a.qO ["words","word"]
 jT:Dn K mg "read_let" me a.jP a.ug ["words"]
 xX:Dn K mg "shown" we a.so a.CO ["program"]
 uH:Dn K mg "kind_row" mf a.jQ a.uh ["kind"]
 lz:Dn K mg "function_row" ie a.fU a.k8 ["function"]
 oM:Dn K mg "body_words" jy a.gW a.nZ ["body"]
 uG:Dn K mg "unfolded" ma a.jO a.uf ["piece"]
 j7:Dn K mg "unfolded_case" gB a.fk a.jX ["piece"]
 x3:Dn K mg "_law_deal" AA a.xx a.Ig ["_law_script","_law_base"]
 bO:Dn K mg "_law_draw" Az a.xw a.Ie ["_law_deal_here","_law_many"]
 IJ:Dn K mg "_law_name" Aw a.xu a.Ib ["_law_deal_here"]
 II:Dn K mg "_law_pool" Av a.xt a.Ia ["_law_deal_here"]
 qZ:Dn K mg "_law_good_name" kJ a.iQ a.qQ ["_law_word"]
 j8:Dn K mg "_law_one" FQ a.CG a.LW ["_law_deal_here","_law_pool_here"]
 xW:Dn K mg "_law_some" Aq a.xq a.HY ["_law_deal_here","_law_pool_here","_law_most"]
 IK:Dn K mg "_law_kind" Ax a.xv a.Ic ["_law_deal_here","_law_pool_here"]
 fb:Dn K mg "_law_body" AB a.xy a.Ih ["_law_deal_here","_law_pool_here","_law_room","_law_depth","_law_long"]
 BN:Dn K mg "_law_form" Ay a.ub a.Bw ["_law_deal_here"]
 lA:Dn K mg "_law_body_text" kK a.iR a.qR ["_law_body_here"]
 IH:Dn K mg "_law_rows" As a.xr a.HZ ["_law_program"]
 x4:Dn K mg "_law_alike" wk a.sv a.CS ["_law_found","_law_due"]
 xY:Dn K mg "_law_right" wg a.sr a.CP ["_law_program"]
 RP:Dn K mg "law" qz a.vD a.LX ["_law_script"]
 oq:mg "len" = Y
 Io:mg "all" = Y
 lj:mg "list" = Y
 dm:mg "tuple" = Y
 vO:mg "str" = Y
 uw:mg "int" = Y
 OE:mg "bool" = Y
 mL:mg "reversed" = Y
 RA:mg "max" = Y
 gX:mg "range" = Y
 cI:mg "isinstance" = Y
 Rz:mg "zip" = Y
 qT:mg "enumerate" = Y
 Lf:mg "ValueError" = Y
 xF:mg "KEPT_WORDS" = Z (.ref a.eC)
 wq:∀ H:Hp,SqT K H a.eC ([("kind":Str),"def","to","let","make","call","name","case","end","pay","get","give"].map V.str)
 EM:∃ t,mg "LETTERS" = Z (.str "abcdefghijklmnopqrstuvwxyz" t)
 EN:∃ t,mg "FIGURES" = Z (.str "0123456789" t)
 uv:∃ t,mg "LONGEST_NAME" = Z (.int 8 t)
 rH:∃ t,mg "LONGEST_COINS" = Z (.int 7 t)
def eB:Str:="abcdefghijklmnopqrstuvwxyz"
def Cu:List Str:=["kind","def","to","let","make","call"]
def vA:List Str:=["name","case","end","pay","get","give"]
def kept:List Str:=Cu++vA
def near:List Str:=["lets","callx","payer","ender","tom","nameb","makes","gets","giver","kinds","defs","cases"]
theorem Cr{i:Int}(h0:0<=i)(h1:i<26):atI (Str.cps eB).toList i=Z (Be i.toNat):=by
 obtain⟨n,rfl⟩:∃ n:Nat,i=n:=(i.toNat,by omega)
 have h2:n<26:=by omega
 have h3:∀ n:Fin 26,atI (Str.cps eB).toList (n.val:Int)=Z (Be n.val):=by decide +kernel
 have:=h3 (n,h2)
 simpa using this
def tM(m:Mk1):T:=.t [.s m.1,.t (m.2.map .s)]
def tMs(ms:List Mk1):T:=.t (ms.map tM)
def tK(k:Kd):T:=.t [.s k.1,tMs k.2]
def tKs(ks:List Kd):T:=.t (ks.map tK)
theorem cG{α:Type}{f:α->T}(h:∀ x,(f x).im=O):∀ xs:List α,T.ims (xs.map f)=O
 | []=>rfl
 | x::r=>by show((f x).im&&T.ims (r.map f))=O;rw[h x,cG h r];rfl
theorem zB(m:Mk1):(tM m).im=true:=by show(O&&(T.ims (m.2.map T.s)&&O))=O;rw[cG (f:=T.s) (λ_=>rfl)];rfl
theorem Oe(m:List Mk1):(tMs m).im=true:=cG zB m
theorem zC(m:Kd):(tK m).im=true:=by show(O&&((tMs m.2).im&&O))=O;rw[Oe];rfl
theorem tX{w:Str}{ws:List Str}:inT (.s w) (ws.map T.s)=inV (.str w) (ws.map V.str):=by
 unfold inT inV;rw[U9,U9];rfl
theorem aZ(ws:List Str):T.ims (ws.map T.s)=true:=cG (λ_=>rfl) ws
theorem noq{w z:Str}(h:z∈vA):w++("q":Str)≠z:=by
 intro e;have h1:(w++("q":Str)).cps.toList.getLast? = Z 113:=by simp[Str.cps_append,show(Str.ofString "q").cps = #[113]from by decide +kernel]
 rw[e]at h1;have h2:∀ z∈vA,z.cps.toList.getLast? ≠ Z 113:=by decide +kernel
 exact h2 z h h1
theorem NA{w:Str}:inV (.str (w++("q":Str))) (vA.map V.str)=false:=by
 cases e:inV (.str (w++("q":Str))) (vA.map V.str)with
 | false=>rfl
 | true=>exact absurd U (noq (w:=w) (xh.mp e))
theorem Bm{w:Str}:inV (.str w) (kept.map V.str) =(inV (.str w) (Cu.map V.str)||inV (.str w) (vA.map V.str)):=by
 unfold kept inV;rw[tx,List.any_append]
theorem ox{ws:List Str}{i:Int}(h0:0<=i)(h1:i<ws.length):∃ w,atI (ws.map T.s) i=Z (.s w)/\w∈ws:=by
 let(v,e,hm):=OG (xs:=ws.map T.s) h0 (by simpa using h1)
 let(w,hw,U):=O1.mp hm;exact(w,e,hw)
variable{n:Nat}
theorem aD(h:n<=1002000):n<j5:=T8 h (by decide)
abbrev lK:Str:="0123456789"
def sgn(signs:Str)(c:Nat):Bool:=!(Builtin.Str.occurrences signs ⟨#[c]⟩ 0 signs.length 1).isEmpty
def ofB(x signs:Str)(n:Int):Bool:=decide (1 <=(x.length:Int))&&(decide ((x.length:Int)<=n)&&x.cps.toList.all (sgn signs))
def ay(x:Str):Bool:=ofB x eB 8 && !inT (.s x) (kept.map .s)
def eZ(x:Str):Bool:=ofB x lK 7 && !decide (x.cps.toList.head? = Z 48)
def Nb:PSp:=λts Q=>P3 λx signs n=>ts = [.s x,.s signs,.i n]/\x.length<=1000000/\Q (.b (ofB x signs n))
def GJ:PSp:=λts Q=>∃ x,ts = [.s x]/\x.length<=1000000/\Q (.b (ay x))
def DW:PSp:=λts Q=>∃ x,ts = [.s x]/\x.length<=1000000/\Q (.b (eZ x))
def rT(C x:J)(ws:List Str)(n:Int)(p:Nat):L2.T:=.om x C ["words","number","place"] [.l (ws.map .s),.i n,.i p]
inductive Rw(C x:J)(n:Int)(l:List Str):L2.T->Prop
 | mk(ws:List Str)(p:Nat):ws.drop p=l->ws.length<=1000000 ->(∀ w∈ws,w.length<=1000000)->Rw C x n l (rT C x ws n p)
abbrev hd(l:List Str):Str:=l.headD ""
variable{p:Nat}
theorem Ra{ws l:List Str}(h:ws.drop p=l):ws[p]? = l.head?:=by rw[<- h,List.head?_drop]
theorem drop_tail{ws l:List Str}(h:ws.drop p=l):ws.drop (p+1)=l.tail:=by rw[<- h,List.tail_drop]
variable{C:J}
theorem Rw.next{x:J}{n:Int}{ws l:List Str}(h:ws.drop p=l)(h1:ws.length<=1000000)(h2:∀ w∈ws,w.length<=1000000):Rw C x n l.tail (rT C x ws n (p+1)):=.mk ws (p+1) (drop_tail h) h1 h2
theorem Rw.adr{C x:J}{n:Int}{l:List Str}{t:L2.T}(h:Rw C x n l t):t.adr=Z x:=by cases h;rfl
theorem Rw.hd{C x:J}{n:Int}{l:List Str}{t:L2.T}(h:Rw C x n l t):(K02.hd l).length<=1000000:=by
 cases h with
 | mk ws p h1 h2 h3 =>
  cases l with
  | nil=>exact Fq _
  | cons w r=>exact h3 w (US (by rw[h1];exact dZ))
theorem Rw.len{x:J}{n:Int}{l:List Str}{t:L2.T}(h:Rw C x n l t):l.length<=1000000:=by
 cases h with
 | mk ws p h1 h2 h3=>rw[<- h1,TQ];omega
theorem nP(x:Str):x.length=x.cps.toList.length:=rfl
theorem join_le{c:Nat}:∀{ws:List Str}{w:Str},w∈ws->w.length <=(Str.join ⟨#[c]⟩ ws).length
 | [x],w,h=>by rw[bB.mp h];exact lx _
 | x::y::r,w,h=>by
  rw[nP (Str.join _ _),ji,px,mu];rcases i8.mp h with z|z
  ·rw[z,nP x];omega
  ·have:=join_le (c:=c) z
   rw[nP (Str.join _ _)]at this;omega
variable{x:Str}
theorem split_le{w:Str}{c:Nat}(h:w∈Txt.split x ⟨#[c]⟩):w.length<=x.length:=by
 have:=join_le (c:=c) h
 rw[StrLaws.join_split]at this;exact this
def DT(C:J):rQ:=λts Q=>P3 λx row n=>ts = [.om x C [] [],.s row,.i n]/\row.length<=900000/\∀ t,Rw C x n (Txt.split row " ") t->Q .n t
def J2(C:J):PSp:=λts Q=>Q4 λx n l t=>ts = [t]/\Rw C x n l t/\Q (.s (hd l))
def Na(C:J):PSp:=λts Q=>Q4 λx n l t=>ts = [t]/\Rw C x n l t/\Q (.b (!l.isEmpty))
def M4(C:J):rQ:=λts Q=>Q4 λx n l t=>ts = [t]/\Rw C x n l t/\∀ t',Rw C x n l.tail t'->Q (.s (hd l)) t'
abbrev Pf:=List Str->Option (L2.T×List Str)
inductive Par(C NT:J)(args:List L2.T)(f:Pf)(ts:List L2.T)(Q:L2.T->List L2.T->Prop)(W:QW):Prop
 | mk(x n l t:_)(h1:ts=t::args)(h2:Rw C x n l t)(h3:∀ r l',f l=Z (r,l')->∀ t',Rw C x n l' t'->Q r [t'])(h4:f l=Y->W NT ["row"] [.i n])
def rE(due:Str):Pf:=λl=>if hd l=due then Z (.n,l.tail)else Y
def qK:Pf:=λl=>if ay (hd l)=O then Z (.s (hd l),l.tail)else Y
def fNames(due:Str):List Str->Option (List Str×List Str)
 | []=>Y
 | w::l=>if w=due then Z ([],l)else if ay w=O then(fNames due l).map λz=>(w::z.1,z.2)else Y
def tN(z:List Str×List Str):L2.T×List Str:=(.t (z.1.map .s),z.2)
def intOf(x:Str):Int:=(PySem.intText? x).getD 0
def pU:Pf:=λl=>if eZ (hd l)=O then Z (.i (intOf (hd l)),l.tail)else Y
def K8:Pf:=λl=>if l.isEmpty then Z (.n,[])else Y
theorem vG(h:eZ x=O):1<=x.length/\x.length<=7:=by
 unfold eZ ofB at h;simp only[qp,decide_eq_true_eq]at h;omega
theorem wb{signs:Str}{c:Nat}(h:sgn signs c=O):c∈signs.cps.toList:=by
 unfold sgn at h;cases e:Builtin.Str.occurrences signs ⟨#[c]⟩ 0 signs.length 1 with
 | nil=>rw[e]at h;cases h
 | cons i r =>
  have:=(PySem.StrLaws.occ_spec signs ⟨#[c]⟩ 0 signs.length 1 i (by rw[e];exact dZ)).2
  have q:signs.cps.extract i (i+1) = #[c]:=eq_of_beq this;have g:c∈(signs.cps.extract i (i+1)).toList:=by rw[q];exact bB.mpr U
  rw[Array.toList_extract]at g;exact US (List.mem_of_mem_take g)
theorem vC:∀ c∈lK.cps.toList,48<=c/\c<=57:=by decide +kernel
theorem EF(h:eZ x=O):PySem.intText? x=Z (intOf x):=by
 have hl:=vG h;unfold eZ ofB at h;simp only[qp]at h;have hd:PySem.NumText.AllDigits x.cps.toList:=λc q=>vC c (wb (z7.mp h.1.2.2 c q))
 have g:x.cps.toList ≠ []:=λz=>by have:x.length=0:=congrArg Ua z;omega
 have e:=PySem.intText_digits hd g (by omega)
 unfold intOf;rw[e];rfl
abbrev vp(C NT:J)(args:List L2.T)(f:Pf):gK:=Par C NT args f
def P5(C NT:J):gK:=λts Q W=>∃ due,due.length<=100/\Par C NT [.s due] (rE due) ts Q W
def JV(C NT:J):gK:=λts Q W=>∃ due:Str,due ≠ "" /\ ay due=ϊ/\due.length<=100/\Par C NT [.s due] (λl=>(fNames due l).map tN) ts Q W
theorem as1{t:L2.T}{r:List L2.T}{as:List J}{x:J}(ha:ER [0] (t::r) as)(h:t.adr=Z x):as = [x]:=by
 match as,ha with
 | [b],((u,q,g),_)=>cases q;rw[h]at g;cases g;rfl
theorem as2{t u:L2.T}{r:List L2.T}{as:List J}{x y:J}(ha:ER [0,1] (t::u::r) as)(h:t.adr=Z x)(h2:u.adr=Z y):as = [x,y]:=by
 match as,ha with
 | [b,c],((_,K,q),(_,z,g),_)=>cases K;cases z;rw[h]at q;rw[h2]at g;cases q;cases g;rfl
variable{y:Str}
theorem fR(h:(!decide ((L2.T.s x).v =(L2.T.s y).v))=O):x≠y:=λz=>by rw[z]at h;simp at h
theorem zM(h:¬(!decide ((L2.T.s x).v =(L2.T.s y).v))=O):x=y:=by
 cases e:decide ((L2.T.s x).v =(L2.T.s y).v)with
 | false=>rw[e]at h;exact absurd U h
 | true=>exact V.str.inj (of_decide_eq_true e)
def dO(hts:List (List L2.T))(b:L2.T):L2.T:=hts.foldr (λh b=>.t (h ++ [b])) b
def ET(hts:List (List L2.T)):Prop:=∀ h∈hts,T.ims h=O/\h.length<=10
def JP:PSp:=λts Q=>∃ hts b,ts = [.l (hts.map .t),b]/\ET hts/\b.im=O/\hts.length<=1000000/\Q (dO hts b)
def oT(C x:J)(hts:List (List L2.T))(lk:Str)(arms ah:List L2.T):L2.T:=.om x C ["heads","looked","arms","arm_head"] [.l (hts.map .t),.s lk,.l arms,.t ah]
def GI(C:J):gK:=λts Q _=>∃ x hts lk,ts = [.om x C [] [],.l (hts.map .t),.s lk]/\Q .n [oT C x hts lk [] []]
def JT(C:J):rQ:=λts Q=>V6 λx hts lk arms ah b=>ts = [oT C x hts lk arms ah,b]/\T.ims ah=O/\b.im=O/\(arms.length<=1000000/\ah.length<=10)/\Q .n (oT C x hts lk (arms ++ [.t (ah ++ [b])]) ah)
def rF(l:List Str):Option (List L2.T×List Str):=if ay (hd l)=O then(fNames ":" l.tail).map λz=>([.s (hd l),.t (z.1.map .s)],z.2)else Y
variable{l1:List Str}
theorem b6{l:List Str}{r:L2.T}(h:qK l=Z (r,l1)):ay (hd l)=O/\r = .s (hd l)/\l1=l.tail:=by
 unfold qK at h
 split at h
 ·rename_i e;cases h;exact(e,U,U)
 ·cases h
theorem b7{l:List Str}(h:qK l=Y):¬ ay (hd l)=true:=λe=>by
 unfold qK at h;rw[if_pos e]at h;cases h
def JU(C CR NT:J):gK:=λts Q W=>∃ x hts lk arms ah y n l t,ts = [oT C x hts lk arms ah,t]/\Rw CR y n l t/\(∀ g l',rF l=Z (g,l')->∀ t',Rw CR y n l' t'->Q .n [oT C x hts lk arms g,t'])/\(rF l=Y->W NT ["row"] [.i n])
def DU(C:J):PSp:=λts Q=>V5 λx hts lk arms ah=>ts = [oT C x hts lk arms ah]/\ET hts/\T.ims arms=O/\hts.length<=1000000/\Q (dO hts (.t [.s "case",.s lk,.t arms]))
def bZ:List Str->Option (List Str×List Str)
 | []=>Z ([],[])
 | w::l=>if w = "|" then Z ([],w::l)else if ay w=O then(bZ l).map λz=>(w::z.1,z.2)else Y
def iA(l:List Str):Option (Mk1×List Str):=if ay (hd l)=O then(bZ l.tail).map λz=>((hd l,z.1),z.2)else Y
def tMk(z:Mk1×List Str):L2.T×List Str:=(tM z.1,z.2)
variable{due:Str}
theorem dA{l:List Str}{r:L2.T}(h:rE due l=Z (r,l1)):hd l=due/\r = .n/\l1=l.tail:=by
 unfold rE at h
 split at h
 ·rename_i e;cases h;exact(e,U,U)
 ·cases h
theorem hX{l:List Str}(h:rE due l=Y):hd l≠due:=λe=>by
 unfold rE at h;rw[if_pos e]at h;cases h
def di:Nat->List Str->Option (List Mk1)
 | 0,_=>Y
 | n+1,l=>match iA l with
  | none=>Y
  | some (m,l1)=>if l1.isEmpty then Z [m]else if hd l1 = "|" then(di n l1.tail).map (m :: ·)else Y
def k7(l:List Str):Option (Kd×List Str):=match rE "kind" l with
 | none=>Y
 | some (_,l1)=>if ay (hd l1)=O then(di (l.length+1) l1.tail).map λms=>((hd l1,ms),[])else Y
def tKd(z:Kd×List Str):L2.T×List Str:=(tK z.1,z.2)
theorem qM:∀{l:List Str}{z:List Str×List Str},bZ l=Z z->z.2.length<=l.length
 | [],z,h=>by cases h;exact lx _
 | w::l,z,h=>by
  rw[bZ]at h
  split at h
  ·cases h;exact lx _
  ·split at h
   ·let(y,h1,U):=j3.mp h
    have:=qM h1
    exact Va this
   ·cases h
theorem wX{l:List Str}(h:ay (hd l)=O):∃ w r,l=w::r:=by
 cases l with
 | nil=>exact absurd h (by decide +kernel)
 | cons w r=>exact(w,r,U)
theorem uc{l:List Str}{m:Mk1}(h:iA l=Z (m,l1)):l1.length<l.length:=by
 unfold iA at h
 split at h
 ·rename_i g;let(w,r,U):=wX g;let(z,h1,h2):=j3.mp h;cases h2;exact Nat.lt_succ_of_le (qM h1)
 ·cases h
def ud(k:Nat)(L:List Mk1)(l:List Str):Option (List Mk1):=if l.isEmpty then Z L else if hd l = "|" then(di k l.tail).map (L ++ ·)else Y
theorem qL{k:Nat}{l:List Str}{m:Mk1}(h:iA l=Z (m,l1)):di (k+1) l=ud k [m] l1:=by
 rw[di,h];rfl
theorem Ex{k:Nat}{L:List Mk1}{l l2:List Str}{m:Mk1}(h:l.isEmpty=ϊ)(hd:hd l = "|")(hm:iA l.tail=Z (m,l2)):ud (k+1) L l=ud k (L ++ [m]) l2:=by
 unfold ud;rw[h,if_neg (by decide),if_pos hd,qL hm]
 unfold ud
 split
 ·rfl
 ·split
  ·cases di k l2.tail <;> simp
  ·rfl
def mI(l:List Str):Option (List L2.T×List Str):=if ay (hd l)=O then
  if hd l.tail = "make" \/ hd l.tail = "call" \/ hd l.tail = "name" then
   if ay (hd l.tail.tail)=O then
    if hd l.tail = "name" then(rE ";" l.tail.tail.tail).map λz=>([.s (hd l.tail),.s (hd l),.s (hd l.tail.tail)],z.2)
    else(fNames ";" l.tail.tail.tail).map λz=>([.s (hd l.tail),.s (hd l),.s (hd l.tail.tail),.t (z.1.map .s)],z.2)
   else Y
  else Y
 else Y
def tH(z:List L2.T×List Str):L2.T×List Str:=(.t z.1,z.2)
def dW(word:Str)(l:List Str):Option (List L2.T×List Str):=if word = "let" then mI l
 else if word = "pay" \/ word = "get" then
  if eZ (hd l)=O then(rE ";" l.tail).map λz=>([.s word,.i (intOf (hd l))],z.2)else Y
 else Y
def Nc(C NT:J):gK:=λts Q W=>∃ word,word.length<=1000000/\Par C NT [.s word] (λl=>(dW word l).map tH) ts Q W
variable{q:Sq}{m:Str}{Qb:Bool->Prop}
theorem nq{j:Nat}{w:Str}(h:q[j]? = Z (.o (.s w))\/q[j]? = Z (.r (.s w)))(g:Qb (!decide (w=m))):jU (qOp qNe (lN j) (qC (.s m))) q Qb:=by
 have e:(!decide ((L2.T.s w).v =(L2.T.s m).v)) = !decide (w=m):=by
  congr 1
  exact decide_eq_decide.mpr (λh=>V.str.inj h,λh=>by rw[h])
 rw[<- e]at g;unfold jU qOp lN;rcases h with h|h <;> rw[h] <;> exact(U,g)
theorem RW{w c n:Str}(h:q[2]? = Z (.o (.s w)))(g:Qb (!decide (w=m)&&(!decide (w=c) && !decide (w=n)))):AQ (jU (qOp qNe (lN 2) (qC (.s m)))) (AQ (jU (qOp qNe (lN 2) (qC (.s c)))) (jU (qOp qNe (lN 2) (qC (.s n))))) q Qb:=by
 refine nq (.inl h) ?_;cases e:decide (w=m)with
 | true=>rw[e]at g;exact g
 | false =>
  rw[e]at g;refine nq (.inl h) ?_;cases e:decide (w=c)with
  | true=>rw[e]at g;exact g
  | false=>rw[e]at g;exact nq (.inl h) g
theorem RX{w c:Str}(h:q[1]? = Z (.r (.s w)))(g:Qb (!decide (w=m) && !decide (w=c))):AQ (jU (qOp qNe (lN 1) (qC (.s m)))) (jU (qOp qNe (lN 1) (qC (.s c)))) q Qb:=by
 refine nq (.inr h) ?_;cases e:decide (w=m)with
 | true=>rw[e]at g;exact g
 | false=>rw[e]at g;exact nq (.inr h) g
theorem zJ{l:List Str}{r:L2.T}(h:pU l=Z (r,l1)):eZ (hd l)=O/\r = .i (intOf (hd l))/\l1=l.tail:=by
 unfold pU at h
 split at h
 ·rename_i e;cases h;exact(e,U,U)
 ·cases h
theorem zK{l:List Str}(h:pU l=Y):¬ eZ (hd l)=true:=λe=>by
 unfold pU at h;rw[if_pos e]at h;cases h
theorem CH{l:List Str}{z:List L2.T×List Str}(h:mI l=Z z):T.ims z.1=O/\z.1.length<=10:=by
 unfold mI at h
 split at h
 ·split at h
  ·split at h
   ·split at h
    ·let(y,_,U):=j3.mp h;exact(U,by simp)
    ·let(y,_,U):=j3.mp h;refine(?_,by simp)
     show(O&&(O&&(O&&(T.ims (y.1.map .s)&&O))))=O;rw[aZ];rfl
   ·cases h
  ·cases h
 ·cases h
theorem HJ{w:Str}{l:List Str}{z:List L2.T×List Str}(h:dW w l=Z z):T.ims z.1=O/\z.1.length<=10:=by
 unfold dW at h
 split at h
 ·exact CH h
 ·split at h
  ·split at h
   ·let(y,_,U):=j3.mp h;exact(U,by simp)
   ·cases h
  ·cases h
theorem Qh{w c n:Str}(h:w=m\/w=c\/w=n):(!decide (w=m)&&(!decide (w=c) && !decide (w=n)))=false:=by
 rcases h with h|h|h <;> rw[decide_eq_true h] <;> simp
theorem Qg{w c n:Str}(h:¬(w=m\/w=c\/w=n)):(!decide (w=m)&&(!decide (w=c) && !decide (w=n)))=true:=by
 rw[decide_eq_false λz=>h (.inl z),decide_eq_false λz=>h (.inr (.inl z)),decide_eq_false λz=>h (.inr (.inr z))]
 rfl
theorem Qj{w c:Str}(h:w=m\/w=c):(!decide (w=m) && !decide (w=c))=false:=by
 rcases h with h|h <;> rw[decide_eq_true h] <;> simp
theorem Qi{w c:Str}(h:¬(w=m\/w=c)):(!decide (w=m) && !decide (w=c))=true:=by
 rw[decide_eq_false λz=>h (.inl z),decide_eq_false λz=>h (.inr z)]
 rfl
structure Oc where
 hts:List (List L2.T)
 lk:Str
 arms:List L2.T
 ah:List L2.T
def Oc.t(C x:J)(c:Oc):L2.T:=oT C x c.hts c.lk c.arms c.ah
inductive OcL(C:J):List Oc->List L2.T->Prop
 | nil:OcL C [] []
 | cons{c:Oc}{cs:List Oc}{xs:List L2.T}{x:J}:OcL C cs xs->OcL C (c::cs) (xs ++ [c.t C x])
variable{cs:List Oc}
theorem OcL.len{xs:List L2.T}(h:OcL C cs xs):xs.length=cs.length:=by
 induction h with
 | nil=>rfl
 | cons _ g=>rw[px,g];rfl
structure p6(c:Oc):Prop where
 h:ET c.hts
 a:T.ims c.arms=O
 i:T.ims c.ah=O
 l:c.ah.length<=10
def wts(cs:List Oc):Nat:=(cs.map λc=>c.arms.length+c.hts.length+1).sum
theorem i9{c:Oc}:wts (c::cs)=c.arms.length+c.hts.length+1+wts cs:=rfl
theorem Cs:∀ cs:List Oc,cs.length<=wts cs
 | []=>Fq _
 | c::cs=>by rw[i9,mu];have:=Cs cs;omega
inductive Res
 | fin(b:L2.T)(l:List Str)
 | on(cs:List Oc)(l:List Str)
 | bad
def Oc.fed(c:Oc)(b:L2.T):Oc:={ c with arms:=c.arms ++ [.t (c.ah ++ [b])] }
def Oc.whole(c:Oc):L2.T:=dO c.hts (.t [.s "case",.s c.lk,.t c.arms])
def bV:List Oc->L2.T->List Str->Res
 | [],b,l=>.fin b l
 | c::cs,b,l=>if hd l = "|" then
   match rF l.tail with
   | some (ah,l2)=>.on ({ c.fed b with ah:=ah }::cs) l2
   | none=>.bad
  else if hd l = "end" then bV cs (c.fed b).whole l.tail else .bad
def JY(C CR NT:J):gK:=λts Q W=>∃ x n l t a cs xs b,ts = [t,.lp a xs,b]/\Rw CR x n l t/\OcL C cs xs/\(∀ c∈cs,p6 c)/\b.im=O/\wts cs+l.length<=900000 /\
 (∀ z l',bV cs b l = .fin z l'->∀ t',Rw CR x n l' t'->Q z [t',.lp a []])/\(∀ q l',bV cs b l = .on q l'->∀ t' g,Rw CR x n l' t'->OcL C q g->Q .n [t',.lp a g])/\(bV cs b l = .bad->W NT ["row"] [.i n])
theorem yd{hts:List (List L2.T)}{b:L2.T}(h:ET hts)(z:b.im=O):(dO hts b).im=true:=by
 induction hts with
 | nil=>exact z
 | cons g r q =>
  show T.ims (g ++ [dO r b])=O;rw[dh,(h g dZ).1];show(O&&((dO r b).im&&O))=O;rw[q λg hg=>h g (c5 _ hg)]
  rfl
theorem p6.fed{c:Oc}{b:L2.T}(h:p6 c)(g:b.im=O):p6 (c.fed b):=by
 refine(h.h,?_,h.i,h.l);show T.ims (c.arms ++ [.t (c.ah ++ [b])])=O;rw[dh,h.a];show(O&&(T.ims (c.ah ++ [b])&&O))=O;rw[dh,h.i];show(O&&((O&&(b.im&&O))&&O))=O;rw[g];rfl
theorem p6.whole{c:Oc}(h:p6 c):c.whole.im=true:=yd h.h (by
 show(O&&(O&&(T.ims c.arms&&O)))=O;rw[h.a];rfl)
theorem GD{a:J}{xs:List L2.T}{u v:L2.T}:T.put v [.inr xs.length] (.lp a (xs ++ [u])) = .lp a (xs ++ [v]):=by
 have h:(xs ++ [u])[xs.length]? = Z u:=by rw[BK (lx _),Vb];rfl
 show(match(xs ++ [u])[xs.length]? with|some x=>L2.T.lp a ((xs ++ [u]).set xs.length v)|none=>.lp a (xs ++ [u]))=_
 rw[h];simp
theorem lJ{α:Type}(xs:List α)(u:α):ixN (xs ++ [u]).length (-1)=Z xs.length/\(xs ++ [u])[xs.length]? = Z u:=by
 refine(?_,by rw[BK (lx _),Vb];rfl)
 unfold ixN;have e:(xs ++ [u]).length=xs.length+1:=by simp
 rw[e,if_neg (by decide),if_pos (by omega)]
 congr 1
 omega
structure BS where
 cs:List Oc
 hts:List (List L2.T)
 l:List Str
inductive Stp
 | fin(b:L2.T)(l:List Str)
 | on(s:BS)
 | bad
def Res.stp:Res->Stp
 | .fin b l=>.fin b l
 | .on cs l=>.on (cs,[],l)
 | .bad=>.bad
def iD(s:BS):Stp:=if hd s.l = "case" then
  if ay (hd s.l.tail)=O then
   match rF s.l.tail.tail with
   | some (ah,l2)=>.on ((s.hts,hd s.l.tail,[],ah)::s.cs,[],l2)
   | none=>.bad
  else .bad
 else if hd s.l = "give" then
  if ay (hd s.l.tail)=O then(bV s.cs (dO s.hts (.t [.s "give",.s (hd s.l.tail)])) s.l.tail.tail).stp else .bad
 else match dW (hd s.l) s.l.tail with
  | some (h,l2)=>.on (s.cs,s.hts ++ [h],l2)
  | none=>.bad
inductive Run:BS->Option (L2.T×List Str)->Prop
 | on{s s':BS}{o}:iD s = .on s'->Run s' o->Run s o
 | fin{s:BS}{b l}:iD s = .fin b l->Run s (Z (b,l))
 | bad{s:BS}:iD s = .bad->Run s Y
def JZ(CR NT:J):gK:=λts Q W=>∃ x n l t,ts = [t]/\Rw CR x n l t/\l.length<=900000/\(∀ b l',Run ([],[],l) (Z (b,l'))->b.im=O->∀ t',Rw CR x n l' t'->Q b [t'])/\(Run ([],[],l) Y->W NT ["row"] [.i n])
theorem mH{due:Str}:∀{l:List Str}{z:List Str×List Str},fNames due l=Z z->z.2.length<l.length
 | [],z,h=>by cases h
 | w::l,z,h=>by
  rw[fNames]at h
  split at h
  ·cases h;exact Tt _
  ·split at h
   ·let(y,h1,U):=j3.mp h
    have:=mH h1
    exact U4 this
   ·cases h
theorem CJ{l l2:List Str}{ah:List L2.T}(h:rF l=Z (ah,l2)):l2.length<l.length/\T.ims ah=O/\ah.length<=10:=by
 unfold rF at h
 split at h
 ·let(z,h1,h2):=j3.mp h;cases h2
  have:=mH h1
  rw[wh]at this;refine(by omega,?_,by simp)
  show(O&&(T.ims (z.1.map .s)&&O))=O;rw[aZ];rfl
 ·cases h
theorem zI{l:List Str}{z:L2.T×List Str}(h:rE due l=Z z):z.2.length<=l.length:=by
 let(_,_,e):=dA (r:=z.1) (l1:=z.2) h;rw[e,wh];exact UJ _ _
theorem HI{l:List Str}{z:List L2.T×List Str}(h:mI l=Z z):z.2.length<=l.length:=by
 unfold mI at h
 split at h
 ·split at h
  ·split at h
   ·split at h
    ·let(y,e,U):=j3.mp h
     have:=zI e
     simp only[wh]at this;show y.2.length<=_;omega
    ·let(y,e,U):=j3.mp h
     have:=mH e
     simp only[wh]at this;show y.2.length<=_;omega
   ·cases h
  ·cases h
 ·cases h
theorem Ew{w:Str}{l:List Str}{z:List L2.T×List Str}(h:dW w l=Z z):w ≠ "" /\ z.2.length<=l.length:=by
 unfold dW at h
 split at h
 ·rename_i e;exact(by rw[e];decide,HI h)
 ·split at h
  ·rename_i e;refine(by rcases e with e|e <;> rw[e] <;> decide,?_)
   split at h
   ·let(y,e,U):=j3.mp h
    have:=zI e
    simp only[wh]at this;show y.2.length<=_;omega
   ·cases h
  ·cases h
theorem uq:∀{cs:List Oc}{b g:L2.T}{l l':List Str},bV cs b l = .fin g l' ->(∀ c∈cs,p6 c)->b.im=O->g.im=O/\l'.length<=l.length
 | [],b,g,l,l',h,_,q=>by cases h;exact(q,lx _)
 | c::cs,b,g,l,l',h,hok,q=>by
  rw[bV]at h
  split at h
  ·split at h <;> cases h
  ·split at h
   ·let(h1,h2):=uq h (λc z=>hok c (c5 _ z)) ((hok c dZ).fed q).whole
    rw[wh]at h2;exact(h1,by omega)
   ·cases h
theorem vH:∀{cs g:List Oc}{b:L2.T}{l l':List Str},bV cs b l = .on g l' ->(∀ c∈cs,p6 c)->b.im=O ->(∀ c∈g,p6 c)/\l'.length<l.length/\wts g+l'.length<=wts cs+l.length
 | [],_,_,_,_,h,_,_=>by cases h
 | c::cs,g,b,l,l',h,hok,K=>by
  rw[bV]at h
  split at h
  ·split at h
   ·rename_i ah l2 e;cases h;let(g1,g2,g3):=CJ e;rw[wh]at g1;have q:=(hok c dZ).fed K;refine(λd hd=>?_,by omega,?_)
    ·rcases i8.mp hd with z|z
     ·rw[z];exact(q.h,q.a,g2,g3)
     ·exact hok d (c5 _ z)
    ·rw[i9,i9];show(c.arms ++ [_]).length+c.hts.length+1+_+_<=_;rw[px];show c.arms.length+1+_+1+_+_<=_;omega
   ·cases h
  ·split at h
   ·let(h1,h2,h3):=vH h (λc P=>hok c (c5 _ P)) ((hok c dZ).fed K).whole
    rw[wh]at h2 h3;rw[i9];exact(h1,by omega,by omega)
   ·cases h
theorem MY{xs:List L2.T}{u v:L2.T}:T.put v [.inr xs.length] (.l (xs ++ [u])) = .l (xs ++ [v]):=by
 have h:(xs ++ [u])[xs.length]? = Z u:=by rw[BK (lx _),Vb];rfl
 show(match(xs ++ [u])[xs.length]? with|some x=>L2.T.l ((xs ++ [u]).set xs.length v)|none=>.l (xs ++ [u]))=_
 rw[h];simp
theorem vh:∀{hts:List (List L2.T)}{ys:List L2.T},∃ zs,dO hts (.t ys) = .t zs
 | [],ys=>(ys,U)
 | h::r,ys=>(_,U)
theorem uo:∀{cs:List Oc}{ys:List L2.T}{g:L2.T}{l l':List Str},bV cs (.t ys) l = .fin g l'->∃ zs,g = .t zs
 | [],ys,g,l,l',h=>by cases h;exact(_,U)
 | c::cs,ys,g,l,l',h=>by
  rw[bV]at h
  split at h
  ·split at h <;> cases h
  ·split at h
   ·let(zs,e):=vh (hts:=(c.fed (.t ys)).hts) (ys:=[.s "case",.s (c.fed (.t ys)).lk,.t (c.fed (.t ys)).arms])
    unfold Oc.whole at h;rw[e]at h;exact uo h
   ·cases h
def fParams:List Str->Option (List (Str×Str)×List Str)
 | []=>Y
 | [w]=>if w = "to" then Z ([],[])else Y
 | w::v::l=>if w = "to" then Z ([],v::l)else if ay w=O then if ay v=O then(fParams l).map λz=>((w,v)::z.1,z.2)else Y else Y
def tPs(ps:List (Str×Str)):L2.T:=.t (ps.map λp=>.t [.s p.1,.s p.2])
theorem pR(ps:List (Str×Str)):T.ims (ps.map λp=>L2.T.t [.s p.1,.s p.2])=true:=cG (λ_=>rfl) ps
structure Fh where
 nm:Str
 ps:List (Str×Str)
 kd:Str
def fHd(l:List Str):Option (Fh×List Str):=if hd l = "def" then
  if ay (hd l.tail)=O then
   match fParams l.tail.tail with
   | some (ps,l2)=>if ay (hd l2)=O then if hd l2.tail = ":" then Z ((hd l.tail,ps,hd l2),l2.tail.tail)else Y else Y
   | none=>Y
  else Y
 else Y
def Fh.t(h:Fh)(b:L2.T):L2.T:=.t [.s h.nm,tPs h.ps,.s h.kd,b]
inductive xV(l:List Str):Option L2.T->Prop
 | Ry:fHd l=Y->xV l Y
 | Rx{h l4}:fHd l=Z (h,l4)->Run ([],[],l4) Y->xV l Y
 | Rv{h l4 b l5}:fHd l=Z (h,l4)->Run ([],[],l4) (Z (b,l5))->l5.isEmpty=ϊ->xV l Y
 | ok{h l4 b}:fHd l=Z (h,l4)->Run ([],[],l4) (Z (b,[]))->xV l (Z (h.t b))
def Ng(CR NT:J):gK:=λts Q W=>∃ x n l t,ts = [t]/\Rw CR x n l t/\l.length<=900000/\(∀ r,xV l (Z r)->r.im=O->∀ t',Rw CR x n [] t'->Q r [t'])/\(xV l Y->W NT ["row"] [.i n])
inductive jn:Nat->List Kd->List L2.T->List Str->L2.T ⊕ Nat->Prop
 | nil{n ks fs}:jn n ks fs [] (.inl (.t [tKs ks,.t fs]))
 | kind{n ks row rows k l o}:hd (Txt.split row " ") = "kind" -> k7 (Txt.split row " ")=Z (k,l)->jn (n+1) (ks ++ [k]) [] rows o->jn n ks [] (row::rows) o
 | Hn{n ks row rows}:hd (Txt.split row " ") = "kind" -> k7 (Txt.split row " ")=Y->jn n ks [] (row::rows) (.inr n)
 | fn{n ks fs row rows f o}:¬(hd (Txt.split row " ") = "kind" /\ fs = [])->xV (Txt.split row " ") (Z f)->jn (n+1) ks (fs ++ [f]) rows o->jn n ks fs (row::rows) o
 | fnX{n ks fs row rows}:¬(hd (Txt.split row " ") = "kind" /\ fs = [])->xV (Txt.split row " ") Y->jn n ks fs (row::rows) (.inr n)
def rowsOf(text:Str):List Str:=if text = "" then []else Txt.split text "\n"
def JS(NT:J):BF:=λts Q W=>∃ text,ts = [.s text]/\text.length<=800000/\(∀ r,jn 0 [] [] (rowsOf text) (.inl r)->r.im=O->Q r)/\(∀ n:Nat,jn 0 [] [] (rowsOf text) (.inr n)->W NT ["row"] [.i n])
theorem RV{w:Str}{fs:List L2.T}{A Vm:Prop}(h2:q[2]? = Z (.o (.l fs)))(K:w = "kind" /\ fs = []->A)(g:¬(w = "kind" /\ fs = [])->Vm) :
  if decide ((L2.T.s w).v =(L2.T.s "kind").v)=O then(DQ (DP (lN 2)) q λb=>if b=O then A else Vm)else(λb=>if b=O then A else Vm) false:=by
 refine a5 (λh=>?_) (λh=>?_)
 ·have h:w = "kind":=V.str.inj (of_decide_eq_true h);unfold DQ DP lN;rw[h2];cases fs with
  | nil=>exact K (h,U)
  | cons f r=>exact g λz=>nomatch z.2
 ·exact g λz=>h (by rw[z.1];exact decide_eq_true U)
mutual
inductive Bd
 | give(x:Str)
 | gJ(w:Str)(n:Nat)(b:Bd)
 | nam(x y:Str)(b:Bd)
 | mk(w x y:Str)(ns:List Str)(b:Bd)
 | cas(x:Str)(as:Ar)
inductive Ar
 | nil
 | cons(m:Str)(ns:List Str)(b:Bd)(r:Ar)
end
mutual
def Bd.t:Bd->L2.T
 | .give x=>.t [.s "give",.s x]
 | .gJ w n b=>.t [.s w,.i n,b.t]
 | .nam x y b=>.t [.s "name",.s x,.s y,b.t]
 | .mk w x y ns b=>.t [.s w,.s x,.s y,.t (ns.map .s),b.t]
 | .cas x as=>.t [.s "case",.s x,.t as.ts]
def Ar.ts:Ar->List L2.T
 | .nil=>[]
 | .cons m ns b r=>.t [.s m,.t (ns.map .s),b.t]::r.ts
end
mutual
def Bd.ws:Bd->List Str
 | .give x=>["give",x]
 | .gJ w n b=>w::gS n :: ";" :: b.ws
 | .nam x y b=>"let" :: x :: "name" :: y :: ";" :: b.ws
 | .mk w x y ns b=>"let" :: x::w::y ::(ns++(";":Str)::b.ws)
 | .cas x as=>"case" :: x ::(as.ws.tail ++ [("end":Str)])
def Ar.ws:Ar->List Str
 | .nil=>[]
 | .cons m ns b r=>"|" :: m ::(ns++(":":Str) ::(b.ws++r.ws))
end
mutual
def Bd.wt:Bd->Nat
 | .give _=>3
 | .gJ _ _ b=>4+b.wt
 | .nam _ _ b=>6+b.wt
 | .mk _ _ _ ns b=>6+ns.length+b.wt
 | .cas _ as=>4+as.wt
def Ar.wt:Ar->Nat
 | .nil=>0
 | .cons _ ns b r=>3+ns.length+b.wt+r.wt
end
mutual
def Bd.ok:Bd->Prop
 | .give x=>ay x=O
 | .gJ w n b=>(w = "pay" \/ w = "get")/\1<=n/\n<=9999999/\b.ok
 | .nam x y b=>ay x=O/\ay y=O/\b.ok
 | .mk w x y ns b=>(w = "make" \/ w = "call")/\ay x=O/\ay y=O/\(∀ m∈ns,ay m=O)/\b.ok
 | .cas x as=>ay x=O/\as ≠ .nil/\as.ok
def Ar.ok:Ar->Prop
 | .nil=>True
 | .cons m ns b r=>ay m=O/\(∀ k∈ns,ay k=O)/\b.ok/\r.ok
end
mutual
theorem Bd.im:∀ b:Bd,b.t.im=O
 | .give x=>rfl
 | .gJ w n b=>by show(O&&(O&&(b.t.im&&O)))=O;rw[b.im];rfl
 | .nam x y b=>by show(O&&(O&&(O&&(b.t.im&&O))))=O;rw[b.im];rfl
 | .mk w x y ns b=>by show(O&&(O&&(O&&(T.ims (ns.map T.s)&&(b.t.im&&O)))))=O;rw[aZ,b.im];rfl
 | .cas x as=>by show(O&&(O&&(T.ims as.ts&&O)))=O;rw[as.im];rfl
theorem Ar.im:∀ as:Ar,T.ims as.ts=O
 | .nil=>rfl
 | .cons m ns b r=>by show((O&&(T.ims (ns.map T.s)&&(b.t.im&&O)))&&T.ims r.ts)=O;rw[aZ,b.im,r.im];rfl
end
inductive Th
 | wd(x:Str)
 | bd(b:Bd)
def Th.t:Th->L2.T
 | .wd x=>.s x
 | .bd b=>b.t
def Th.ws:Th->List Str
 | .wd x=>[x]
 | .bd b=>b.ws
def Th.wt:Th->Nat
 | .wd _=>1
 | .bd b=>b.wt
def Ar.th:Ar->List Th
 | .nil=>[]
 | .cons m ns b r=>.wd "|" :: .wd m ::(ns.map .wd ++ .wd ":" :: .bd b::r.th)
def unf:Bd->List Th
 | .give x=>[.wd "give",.wd x]
 | .gJ w n b=>[.wd w,.wd (gS n),.wd ";",.bd b]
 | .nam x y b=>[.wd "let",.wd x,.wd "name",.wd y,.wd ";",.bd b]
 | .mk w x y ns b=>.wd "let" :: .wd x :: .wd w :: .wd y ::(ns.map .wd ++ [.wd ";",.bd b])
 | .cas x as=>.wd "case" :: .wd x ::(as.th.tail ++ [.wd "end"])
theorem Th.im:∀ h:Th,h.t.im=O
 | .wd _=>rfl
 | .bd b=>b.im
def wsT(hs:List Th):List Str:=hs.flatMap Th.ws
def wtT(hs:List Th):Nat:=(hs.map Th.wt).sum
theorem Lr(ns:List Str):wsT (ns.map .wd)=ns:=by
 induction ns with
 | nil=>rfl
 | cons n r g=>show n::wsT (r.map .wd)=_;rw[g]
theorem rY(a b:List Th):wsT (a++b)=wsT a++wsT b:=TX
theorem lB(a b:List Th):wtT (a++b)=wtT a+wtT b:=by unfold wtT;rw[tx,Uu]
theorem Lp(ns:List Str):wtT (ns.map .wd)=ns.length:=by
 induction ns with
 | nil=>rfl
 | cons n r g=>show 1+wtT (r.map .wd)=_;rw[g,mu];omega
theorem EZ:∀ as:Ar,wsT as.th=as.ws
 | .nil=>rfl
 | .cons m ns b r=>by
  show("|":Str)::m::wsT (ns.map .wd ++ .wd ":" :: .bd b::r.th) =("|":Str)::m ::(ns++(":":Str) ::(b.ws++r.ws))
  rw[rY,Lr];show _::_ ::(ns++(":":Str) ::(b.ws++wsT r.th))=_;rw[EZ r]
theorem E4(as:Ar):wsT as.th.tail=as.ws.tail:=by
 cases as with
 | nil=>rfl
 | cons m ns b r =>
  have:=EZ (.cons m ns b r)
  exact(List.cons.inj (show("|":Str)::wsT (Ar.th (.cons m ns b r)).tail =("|":Str) ::(Ar.ws (.cons m ns b r)).tail from this)).2
theorem Jc:∀ b:Bd,wsT (unf b)=b.ws
 | .give x=>rfl
 | .gJ w n b=>by show w::gS n ::(";":Str) ::(b.ws ++ [])=_;rw[ko];rfl
 | .nam x y b=>by show("let":Str)::x :: "name" :: y :: ";" ::(b.ws ++ [])=_;rw[ko];rfl
 | .mk w x y ns b=>by
  show("let":Str)::x::w::y::wsT (ns.map .wd ++ [.wd ";",.bd b])=_
  rw[rY,Lr];show _::_::_::_ ::(ns++(";":Str) ::(b.ws ++ []))=_;rw[ko];rfl
 | .cas x as=>by
  show("case":Str)::x::wsT (as.th.tail ++ [.wd "end"])=_
  rw[rY,E4];rfl
theorem vX:∀ as:Ar,wtT as.th=as.wt
 | .nil=>rfl
 | .cons m ns b r=>by
  show 1+(1+wtT (ns.map .wd ++ .wd ":" :: .bd b::r.th))=3+ns.length+b.wt+r.wt;rw[lB,Lp];show 1+(1+(ns.length+(1+(b.wt+wtT r.th))))=_;rw[vX r];omega
theorem EY(b:Bd):wtT (unf b)<b.wt:=by
 cases b with
 | give x=>show 1+(1+0)<3;omega
 | gJ w n b=>show 1+(1+(1+(b.wt+0)))<4+b.wt;omega
 | nam x y b=>show 1+(1+(1+(1+(1+(b.wt+0)))))<6+b.wt;omega
 | mk w x y ns b =>
  show 1+(1+(1+(1+wtT (ns.map .wd ++ [.wd ";",.bd b]))))<6+ns.length+b.wt;rw[lB,Lp];show 1+(1+(1+(1+(ns.length+(1+(b.wt+0))))))<_;omega
 | cas x as =>
  show 1+(1+wtT (as.th.tail ++ [.wd "end"]))<4+as.wt;rw[lB];have h:=vX as
  have:wtT as.th.tail<=wtT as.th:=by
   cases as with
   | nil=>exact lx _
   | cons m ns b r=>exact Nat.le_add_left (wtT (.wd m ::(ns.map .wd ++ .wd ":" :: .bd b::r.th))) 1
  show 1+(1+(wtT as.th.tail+1))<_;omega
theorem nN:∀ hs:List Th,hs.length<=wtT hs
 | []=>Fq _
 | .wd x::r=>by show r.length+1<=1+wtT r;have:=nN r;omega
 | .bd b::r=>by
  show r.length+1<=b.wt+wtT r
  have:=nN r
  have:1<=b.wt:=Nat.le_of_lt_succ (T8 (Nat.succ_le_of_lt (Nat.zero_lt_of_lt (EY b))) (Tt _))
  omega
def P2:PSp:=λts Q=>∃ b:Bd,ts = [b.t]/\b.ok/\b.wt<=100000/\Q (.l ((unf b).map Th.t))
def M1:PSp:=λts Q=>∃ x as,ts = [(Bd.cas x as).t]/\as.ok/\(Bd.cas x as).wt<=100000/\Q (.l ((unf (.cas x as)).map Th.t))
def Sg:PSp:=λts Q=>∃ b:Bd,ts = [b.t]/\b.ok/\b.wt<=100000/\Q (.l (b.ws.map .s))
theorem NK(h:x≠y):¬ decide ((L2.T.s x).v =(L2.T.s y).v)=true:=λz=>h (V.str.inj (of_decide_eq_true z))
theorem pO:decide ((L2.T.s x).v =(L2.T.s x).v)=true:=decide_eq_true U
theorem vv(h:n<=9999999):(n:Int).natAbs.log2<1920:=by
 rw[Int.natAbs_natCast];by_cases h0:n=0
 ·subst h0;decide
 ·exact U3 ((Nat.log2_lt (k:=24) h0).mpr (by omega)) (by decide)
def Ar.ls:Ar->List (Str×List Str×Bd)
 | .nil=>[]
 | .cons m ns b r=>(m,ns,b)::r.ls
def EO(z:Str×List Str×Bd):L2.T:=.t [.s z.1,.t (z.2.1.map .s),z.2.2.t]
def mO(z:Str×List Str×Bd):List Th:=.wd "|" :: .wd z.1 ::(z.2.1.map .wd ++ [.wd ":",.bd z.2.2])
theorem vj:∀ as:Ar,as.ts=as.ls.map EO
 | .nil=>rfl
 | .cons m ns b r=>by rw[Ar.ts,vj r];rfl
theorem Fe:∀ as:Ar,as.th=as.ls.flatMap mO
 | .nil=>rfl
 | .cons m ns b r=>by
  show Th.wd "|" :: .wd m ::(ns.map .wd ++ .wd ":" :: .bd b::r.th)=mO (m,ns,b)++r.ls.flatMap mO
  rw[Fe r];unfold mO;simp
theorem Mg(ns:List Str):(ns.map Th.wd).map Th.t=ns.map .s:=by rw[EU];rfl
theorem Bn(hs:List Th):T.ims (hs.map Th.t)=true:=cG Th.im hs
theorem Du{α β:Type}{f:α->List β}{xs:List α}{i:Nat}{z:α}(h:xs[i]? = Z z)(hf:∀ z,f z ≠ []):((xs.take (i+1)).flatMap f).tail=if i=0 then(f z).tail else((xs.take i).flatMap f).tail++f z:=by
 rw[x2,h];by_cases e:i=0
 ·rw[if_pos e,e];simp
 ·rw[if_neg e,TX];have hi:=(j2.mp h).1;cases xs with
  | nil=>cases h
  | cons y r =>
   obtain⟨k,rfl⟩:∃ k,i=k+1:=(i - 1,by omega)
   rw[List.take_succ_cons,Ug];cases g:f y with
   | nil=>exact absurd g (hf y)
   | cons u v=>simp
theorem C0(z:Str×List Str×Bd):(EO z).im=true:=by
 show(O&&(T.ims (z.2.1.map T.s)&&(z.2.2.t.im&&O)))=O;rw[aZ,z.2.2.im];rfl
theorem Iq(z:Str×List Str×Bd):(mO z).map Th.t = .s "|" :: .s z.1 ::(z.2.1.map .s ++ [.s ":",z.2.2.t]):=by
 show L2.T.s "|" :: .s z.1 ::(z.2.1.map Th.wd ++ [Th.wd ":",Th.bd z.2.2]).map Th.t=_
 rw[tx,Mg];rfl
def Th.ok:Th->Prop
 | .wd _=>True
 | .bd b=>b.ok
theorem CZ:∀{as:Ar},as.ok->∀ h∈as.th,h.ok
 | .nil,_,h,g=>nomatch g
 | .cons m ns b r,(_,_,h1,h2),h,g=>by
  have g:h∈Th.wd "|" :: Th.wd m ::(ns.map Th.wd++Th.wd ":" :: Th.bd b::r.th):=g
  simp only[i8,j1,O1]at g;rcases g with rfl|rfl |⟨_,_,rfl⟩|rfl|rfl|g
  ·trivial
  ·trivial
  ·trivial
  ·trivial
  ·exact h1
  ·exact CZ h2 h g
variable{b:Bd}
theorem Ma(q:b.ok):∀ h∈unf b,h.ok:=by
 intro h g;cases b with
 | give x =>
  simp only[unf,i8,BL,or_false]at g;rcases g with rfl|rfl <;> trivial
 | gJ w n b =>
  simp only[unf,i8,BL,or_false]at g;rcases g with rfl|rfl|rfl|rfl
  ·trivial
  ·trivial
  ·trivial
  ·exact q.2.2.2
 | nam x y b =>
  simp only[unf,i8,BL,or_false]at g;rcases g with rfl|rfl|rfl|rfl|rfl|rfl
  ·trivial
  ·trivial
  ·trivial
  ·trivial
  ·trivial
  ·exact q.2.2
 | mk w x y ns b =>
  simp only[unf,i8,j1,O1,BL,or_false]at g;rcases g with rfl|rfl|rfl|rfl |⟨_,_,rfl⟩|rfl|rfl
  ·trivial
  ·trivial
  ·trivial
  ·trivial
  ·trivial
  ·trivial
  ·exact q.2.2.2.2
 | cas x as =>
  simp only[unf,i8,j1,BL,or_false]at g;rcases g with rfl|rfl|g|rfl
  ·trivial
  ·trivial
  ·exact CZ q.2.2 h (Us g)
  ·trivial
theorem Bd.tup:∀ b:Bd,∃ ys,b.t = .t ys
 | .give _=>(_,U)
 | .gJ _ _ _=>(_,U)
 | .nam _ _ _=>(_,U)
 | .mk _ _ _ _ _=>(_,U)
 | .cas _ _=>(_,U)
theorem BQ(hs:List Th):wtT hs.reverse=wtT hs:=by
 unfold wtT;rw[Uo,List.sum_reverse]
theorem Cn(n:Nat):(gS n).cps.toList =(Uh 10 n).map Char.toNat:=W.KIN.signs_num n
theorem K7:∀ c:Fin 10,sgn lK (48+c.val)=true:=by decide +kernel
theorem Ku(n:Nat):∀ c∈(gS n).cps.toList,48<=c/\c<=57:=λc q=>by
 rw[Cn]at q;let(ch,g,e):=O1.mp q;have r:=PyProof.Rows.digit_range (Nat.isDigit_of_mem_toDigits (by decide) (by decide) g)
 rw[<- e];exact r
theorem wV(h:n<=9999999):1 <=(gS n).length/\(gS n).length<=7 :=
 (W.KLn.one_le (T7 n),PyProof.Rows.toString_length_le (T7 n) (by decide) (by omega))
theorem HW(n:Nat):1<=n ->(Uh 10 n).head?.map Char.toNat≠Z 48:=by
 induction n using Nat.strongRecOn with
 | _ m g =>
  intro h1;by_cases hm:m<10
  ·rw[Nat.toDigits_of_lt_base hm]
   have:∀ k:Fin 10,1<=k.val ->(Nat.digitChar k.val).toNat≠48:=by decide
   exact λz=>this (m,hm) h1 (Option.some.inj z)
  ·have t:Uh 10 (m / 10)++Uh 10 (m % 10)=Uh 10 (10*(m / 10)+m % 10):=Nat.toDigits_append_toDigits (by decide) (by omega) (Nat.mod_lt _ (by decide))
   rw[Nat.div_add_mod]at t;rw[<- t]
   have:=g (m / 10) (by omega) (by omega)
   cases e:Uh 10 (m / 10)with
   | nil=>exact absurd (congrArg Ua e) (by have:=Nat.length_toDigits_pos (b:=10) (n:=m / 10);simp)
   | cons c r=>rw[e]at this;exact this
theorem G9(h1:1<=n)(h:n<=9999999):eZ (gS n)=O/\intOf (gS n)=n:=by
 have hl:=wV h;refine(?_,?_)
 ·unfold eZ ofB;rw[decide_eq_true (by omega:1 <=((gS n).length:Int)),decide_eq_true (by omega:((gS n).length:Int)<=7)]
  have z:(gS n).cps.toList.all (sgn lK)=true:=z7.mpr λc g=>by
   let(g1,g2):=Ku n c g
   have:=K7 (c - 48,by omega)
   rwa [show 48+(c - 48)=c by omega]at this
  rw[z];have q:(gS n).cps.toList.head? ≠ Z 48:=by
   rw[Cn,List.head?_map];exact HW n h1
  rw[decide_eq_false q];rfl
 ·unfold intOf;rw[show PySem.intText? (gS n)=Z (n:Int)from W.KIN.num_reads (T7 n) (by omega)]
  rfl
theorem tV(sep:Str)(ws:List Str):Txt.join sep ws=Str.join sep ws:=StrLaws.glued_eq_join _ _
variable{sep:Str}
theorem jL{r:List Str}:Txt.join sep (x::y::r)=x++sep++Txt.join sep (y::r):=by rw[tV,tV];rfl
theorem tU:Txt.join sep [x]=x:=by rw[tV];rfl
theorem pQ{sep:Str}:∀{a b:List Str},a ≠ []->b ≠ []->Txt.join sep (a++b)=Txt.join sep a++sep++Txt.join sep b
 | [],_,h,_=>absurd U h
 | [x],[],_,h=>absurd U h
 | [x],y::r,_,_=>by rw[tU];exact jL
 | x::z::r,b,_,h=>by
  rw[Tw,Tw,jL,jL,<- Tw,pQ (xU z r) h];simp only[Str.append_assoc]
def fc(k:Kd):Str:="kind " ++ k.1 ++ " " ++ Txt.join " | " (k.2.map λm=>Txt.join " " (m.1::m.2))
def pws(ps:List (Str×Str)):List Str:=ps.flatMap λp=>[p.1,p.2]
def fws(h:Fh)(b:Bd):List Str:="def" :: h.nm ::(pws h.ps++("to":Str)::h.kd :: ":" :: b.ws)
def gy(z:Fh×Bd):Str:=Txt.join " " (fws z.1 z.2)
def fT(z:Fh×Bd):L2.T:=z.1.t z.2.t
theorem LU(z:Fh×Bd):(fT z).im=true:=by
 show(O&&(T.ims _&&(O&&(z.2.t.im&&O))))=O;rw[pR,z.2.im];rfl
structure z5(k:Kd):Prop where
 n:ay k.1=O
 l:k.2.length<=10
 ne:k.2 ≠ []
 m:∀ m∈k.2,ay m.1=O/\m.2.length<=10/\∀ f∈m.2,ay f=O
structure lu(z:Fh×Bd):Prop where
 n:ay z.1.nm=O
 k:ay z.1.kd=O
 l:z.1.ps.length<=10
 p:∀ p∈z.1.ps,ay p.1=O/\ay p.2=O
 b:z.2.ok
 w:z.2.wt<=2000
theorem bG(h:ay x=O):1<=x.length/\x.length<=8:=by
 unfold ay ofB at h;simp only[qp,decide_eq_true_eq]at h;omega
def Sh(ws:List Str):Prop:=∀ w∈ws,w.length<=8
theorem Sh.cons{w:Str}{ws:List Str}(h:w.length<=8)(hr:Sh ws):Sh (w::ws):=λx hx=>(i8.mp hx).elim (λz=>z▸h) (hr x)
variable{a:List Str}
theorem Sh.app{b:List Str}(ha:Sh a)(g:Sh b):Sh (a++b):=λx hx=>(j1.mp hx).elim (ha x) (g x)
theorem Sh.nil:Sh []:=λ_ h=>nomatch h
variable{ns:List Str}
theorem Sh.nm(h:∀ m∈ns,ay m=O):Sh ns:=λx hx=>(bG (h x hx)).2
theorem Sh.tail{a:List Str}(h:Sh a):Sh a.tail:=λx hx=>h x (Us hx)
theorem Sh.sum:∀{ws:List Str},Sh ws ->(ws.map (·.length)).sum<=8*ws.length
 | [],_=>lx _
 | w::r,h=>by
  have h1:=h w dZ;have h2:=Sh.sum (ws:=r) λx hx=>h x (c5 _ hx)
  rw[OY,UB,mu];omega
mutual
theorem Bd.sh:∀{b:Bd},b.ok->Sh b.ws
 | .give x,h=>.cons (by decide) (.cons (bG h).2 .nil)
 | .gJ w n b,(h1,h2,h3,h4)=>.cons (by rcases h1 with h|h <;> rw[h] <;> decide) (.cons (Va (wV h3).2) (.cons (by decide) (Bd.sh h4)))
 | .nam x y b,(h1,h2,h3)=>.cons (by decide) (.cons (bG h1).2 (.cons (by decide) (.cons (bG h2).2 (.cons (by decide) (Bd.sh h3)))))
 | .mk w x y ns b,(h1,h2,h3,h4,h5)=>.cons (by decide) (.cons (bG h2).2 (.cons (by rcases h1 with h|h <;> rw[h] <;> decide) (.cons (bG h3).2 (.app (.nm h4) (.cons (by decide) (Bd.sh h5))))))
 | .cas x as,(h1,_,h3)=>.cons (by decide) (.cons (bG h1).2 (.app (Ar.sh h3).tail (.cons (by decide) .nil)))
theorem Ar.sh:∀{as:Ar},as.ok->Sh as.ws
 | .nil,_=>.nil
 | .cons m ns b r,(h1,h2,h3,h4)=>.cons (by decide) (.cons (bG h1).2 (.app (.nm h2) (.cons (by decide) (.app (Bd.sh h3) (Ar.sh h4)))))
end
mutual
theorem Bd.wl:∀ b:Bd,b.ws.length<=b.wt
 | .give x=>by show 2<=3;omega
 | .gJ w n b=>by have:=b.wl;show b.ws.length+3<=4+b.wt;omega
 | .nam x y b=>by have:=b.wl;show b.ws.length+5<=6+b.wt;omega
 | .mk w x y ns b=>by have:=b.wl;show(ns++(";":Str)::b.ws).length+4<=6+ns.length+b.wt;rw[px,mu];omega
 | .cas x as=>by have:=as.wl;show(as.ws.tail ++ [("end":Str)]).length+2<=4+as.wt;rw[px,wh];show _ - 1+1+2<=_;omega
theorem Ar.wl:∀ as:Ar,as.ws.length<=as.wt
 | .nil=>lx _
 | .cons m ns b r=>by
  have:=b.wl
  have:=r.wl
  show(ns++(":":Str) ::(b.ws++r.ws)).length+2<=3+ns.length+b.wt+r.wt;rw[px,mu,px];omega
end
def DV:PSp:=λts Q=>∃ k:Kd,ts = [tK k]/\z5 k/\Q (.s (fc k))
def GK:PSp:=λts Q=>∃ z:Fh×Bd,ts = [fT z]/\lu z/\Q (.s (gy z))
def pT(ks:List Kd)(fs:List (Fh×Bd)):L2.T:=.t [tKs ks,.t (fs.map fT)]
structure uz(ks:List Kd)(fs:List (Fh×Bd)):Prop where
 k:∀ k∈ks,z5 k
 f:∀ z∈fs,lu z
 l:ks.length<=10/\fs.length<=10
def JQ:PSp:=λts Q=>∃ ks fs,ts = [pT ks fs]/\uz ks fs/\Q (.s (Txt.join "\n" (ks.map fc++fs.map gy)))
theorem A8{m:Mk1}(h:ay m.1=O/\m.2.length<=10/\∀ f∈m.2,ay f=O):((m.1::m.2).map (·.length)).sum<=88:=by
 have h1:=Sh.sum (ws:=m.1::m.2) (.cons (bG h.1).2 (.nm h.2.2));rw[mu]at h1;omega
theorem pP(sep:Str)(ws:List Str):(Txt.join sep ws).length <=(ws.map (·.length)).sum+ws.length*sep.length:=by
 have h:(Txt.join sep ws).length=_:=PySem.size_glued sep ws;rw[h];exact UU (Nat.mul_le_mul_right _ (UJ _ _)) _
theorem NH{m:Mk1}(h:ay m.1=O/\m.2.length<=10/\∀ f∈m.2,ay f=O):(Txt.join " " (m.1::m.2)).length<=100:=by
 have h1:=A8 h;have h2:=pP " " (m.1::m.2);rw[show(" ":Str).length=1 from by decide,mu]at h2
 omega
theorem si:∀{ms:List Mk1},(∀ m∈ms,ay m.1=O/\m.2.length<=10/\∀ f∈m.2,ay f=O) ->((ms.map λm=>Txt.join " " (m.1::m.2)).map (·.length)).sum<=100*ms.length
 | [],_=>lx _
 | m::r,h=>by
  have h1:=NH (h m dZ);have h2:=si (ms:=r) λx hx=>h x (c5 _ hx)
  rw[OY,OY,UB,mu];omega
theorem lH(ps:List (Str×Str)):(pws ps).length=2*ps.length:=by
 induction ps with
 | nil=>rfl
 | cons p r g=>show(pws r).length+2=2*(r.length+1);omega
theorem GA{ps:List (Str×Str)}(h:∀ p∈ps,ay p.1=O/\ay p.2=O):Sh (pws ps):=λx hx=>by
 let(p,hp,hx):=TR.mp hx;rcases i8.mp hx with z|z
 ·rw[z];exact(bG (h p hp).1).2
 ·rw[bB.mp z];exact(bG (h p hp).2).2
variable{z:Fh×Bd}
theorem HF(h:lu z):Sh (fws z.1 z.2):=.cons (by decide) (.cons (bG h.n).2 (.app (GA h.p) (.cons (by decide) (.cons (bG h.k).2 (.cons (by decide) (Bd.sh h.b))))))
theorem CC(h:lu z):(fws z.1 z.2).length<=2030:=by
 have h1:=z.2.wl;have h2:=h.w;have h3:=h.l;show(pws z.1.ps++("to":Str)::z.1.kd :: ":" :: z.2.ws).length+2<=_;rw[px,lH];show _+(z.2.ws.length+3)+2<=_;omega
theorem zH(h:lu z):(gy z).length<=20000:=by
 have h1:=pP " " (fws z.1 z.2);have h2:=(HF h).sum;have h3:=CC h;rw[show(" ":Str).length=1 from by decide]at h1
 show(Txt.join " " (fws z.1 z.2)).length<=_;omega
theorem tS{k:Kd}(h:z5 k):(fc k).length<=2000:=by
 have h1:=pP " | " (k.2.map λm=>Txt.join " " (m.1::m.2))
 have h2:=si h.m;have h3:=h.l;have h4:=(bG h.n).2;unfold fc;rw[show(" | ":Str).length=3 from by decide,gV]at h1
 rw[Str.length_append,Str.length_append,Str.length_append,show("kind ":Str).length=5 from by decide,show(" ":Str).length=1 from by decide]
 omega
theorem jo{α:Type}{f:α->Nat}{n:Nat}:∀{xs:List α},(∀ x∈xs,f x<=n) ->(xs.map f).sum<=n*xs.length
 | [],_=>lx _
 | x::r,h=>by
  have h1:=h x dZ;have h2:=jo (xs:=r) λy g=>h y (c5 _ g)
  rw[OY,UB,mu,Nat.mul_add];omega
variable{ks:List Kd}
theorem sR{fs:List (Fh×Bd)}(h:uz ks fs):((ks.map fc++fs.map gy).map (·.length)).sum<=220000:=by
 rw[tx,Uu,EU,EU];have h1:=jo (f:=(λx:Str=>x.length) ∘ fc) (n:=2000) (xs:=ks) λk q=>tS (h.k k q)
 have h2:=jo (f:=(λx:Str=>x.length) ∘ gy) (n:=20000) (xs:=fs) λz g=>zH (h.f z g)
 have:=h.l
 omega
def M9:PSp:=λts Q=>ts = [.jS]/\∀ w:Str,ay w=O->Q (.s w)
def Nf:PSp:=λts Q=>∃ x,ts = [.s x]/\x.length<=100/\Q (.b (ay x))
def M8:PSp:=λts Q=>ts = [.jS]/\∀ ws:List Str,4<=ws.length->ws.length<=7 ->(∀ w∈ws,ay w=O)->Q (.l (ws.map .s))
def P4:PSp:=λts Q=>∃ ws:List Str,ts = [.jS,.zl (ws.map .s)]/\4<=ws.length/\ws.length<=7/\(∀ w∈ws,ay w=O)/\∀ w,ay w=O->Q (.s w)
def M5:PSp:=λts Q=>∃(ws:List Str)(m:Int),ts = [.jS,.zl (ws.map .s),.i m]/\4<=ws.length/\ws.length<=7/\(∀ w∈ws,ay w=O)/\0<=m/\m<=4/\∀ ns:List Str,(∀ w∈ns,ay w=O)->ns.length<=4->Q (.t (ns.map .s))
def JW:PSp:=λts Q=>∃ ws:List Str,ts = [.jS,.zl (ws.map .s)]/\4<=ws.length/\ws.length<=7/\(∀ w∈ws,ay w=O)/\∀ k,z5 k->Q (tK k)
theorem Kv:∀ w∈near ++ [("pa":Str),"ki","en","t","o","d"],ay w=true:=by decide +kernel
theorem Hi:∀ n:Fin 26,sgn eB (Be n.val)=true:=by decide +kernel
theorem KA(n:Nat):sgn eB (Be n)=true:=by
 have:=Hi (n % 26,Nat.mod_lt _ (by decide))
 unfold Be at this ⊢;simpa using this
theorem Ho:∀ w∈kept,w.length<=4:=by decide +kernel
theorem PC{w:Str}(h:inT (.s w) (kept.map .s)=O):inT (.s (w++("q":Str))) (kept.map .s)=false:=by
 rw[tX,Bm,NA,Bool.or_false];rw[tX]at h;cases e:inV (.str (w++("q":Str))) (Cu.map V.str)with
 | false=>rfl
 | true =>
  exfalso
  have h1:=xh.mp e;have h2:∀ z∈Cu,z.cps.toList.getLast? ≠ Z 113:=by decide +kernel
  have h3:(w++("q":Str)).cps.toList.getLast? = Z 113:=by simp[Str.cps_append,show(Str.ofString "q").cps = #[113]from by decide +kernel]
  exact h2 _ h1 h3
section
variable{P:Program}{w:World}{K:W.Frag}{mg:Str->Option B}{base:Heap}{a:Adr}
theorem jF(T:Txt K mg a):aR P w K mg base CX0 1 a.xw a.Ie ["_law_deal_here","_law_many"] Fo:=by
 refine T.bO.F.ok sd (λvs H Q E h=>?_) (λcdv A outer s H vs Q E hr h=>?_)
 ·let(d,l,m,U,_):=h;rfl
 ·let(d,l,m,U,(s0,n0,aj,D0),m0,m1,k):=h;have q:=bg hr;refine(_,((cV (sZ PassesOwn.never (PW.pt (GB (lI LM (jE q (pv 0) fB (λ_ _=>rfl)) bS (bH _)) (Ca (lI G5 (tE oo (by rfl) T.oq PySem.boot_len (bj (jE q (pv 0) fB (λ_ _=>rfl)) eT)) bS (bH _)))))
 (iI (wA q (pv 0) fB (wJ PySem.F.plainAttrs_list PySem.F.slot_list_pop PySem.F.type_list_pop wZ (jE q (pv 0) fB (λ_ _=>rfl))) U)))
 (cV (i5 (i:=2) sd.nd U (Or.inl U) (jE q (pv 0) fB (λ_ _=>rfl)))
 (cV (Cd (lI G5 (pv 2) bS (bH _))
 (cV (wA q (pv 0) fB (dS G6 (pv 2) (pv 1)) U)
 (iI (mq (dS kT (pv 2) (pv 1)))))
 Cc)
 (cV (i5 (i:=3) sd.nd U (Or.inl U) (dS kT (dS pI (dS my (jE q (pv 0) fB (λ_ _=>rfl)) bS) bS) bS))
 (cV (wA q (pv 0) fB (dS kT (dS pI (dS my (pv 3) bS) bS) bS) U)
 (cV (i5 (i:=4) sd.nd U (Or.inl U) (dS kT (dS my (jE q (pv 0) fB (λ_ _=>rfl)) (jE q (pv 0) fB (λ_ _=>rfl))) bS))
 (iI (mq (dS kT (dS pI (dS my (dS kT (dS my (pv 3) (pv 3)) bS) bS) (pv 4)) (pv 1))))))))))),?_)
  refine Dp (λc σ H1=>∃ s n ls,σ = [Z (.ref d),Z (.int m),Y,Y,Y]/\dM H1 d l s n ls/\Kp d l H H1/\c=ls.length) (s0,n0,aj,U,D0,Kp.refl,U) ?_ ?_
  ·rintro c σ H1 ⟨s1,n1,ls,rfl,D,K1,rfl⟩
   refine(_,U,d,_,U,D.Rj,?_);refine(_,U,_,_,U,U,_,U,?_);refine a5 (λh1=>?_) (λh1=>?_)
   ·have h1:0<n1:=of_decide_eq_true h1;have q0:0<=n1 / m:=Int.ediv_nonneg (by omega) (by omega)
    refine(_,U,_,U,_,_,U,U,(m0,m1),_,U,d,_,U,D.P7,?_);refine(_,U,_,U,_,_,U,U,m0,?_);exact k _ _ (mod_lt m0).1 (mod_lt m0).2 (_,_,_,D.num q0) K1.L7
   ·have b1:=mod_lt (x:=s1*48271+7919) (m:=2147483647) (by decide)
    refine(_,U,d,_,U,D.HD,_,_,U,U,.inr (by decide,by decide),_,_,U,U,_,_,U,U,(by show(0:Int)<2147483647;decide),?_)
    have b2:=mod_lt (x:=(s1*48271+7919) % 2147483647*40692+104729) (m:=2147483399) (by decide)
    refine(_,U,_,_,U,U,.inr (by decide,by decide),_,_,U,U,_,_,U,U,(by show(0:Int)<2147483399;decide),_,U,d,_,U,D.P1,?_)
    have z:=D.R3 (m:=((s1*48271+7919) % 2147483647*40692+104729) % 2147483399) b2.1 (by omega)
    refine(_,U,d,_,U,z.HD,_,U,d,_,U,z.HD,_,_,U,U,.inl (by omega,by omega),_,_,U,U,(by show(0:Int)<2147483563;decide),?_)
    have b4:=mod_lt (x:=(s1*48271+7919) % 2147483647*((s1*48271+7919) % 2147483647)) (m:=2147483629) (by decide)
    refine(_,U,_,U,_,_,U,U,.inl (by omega,by omega),_,_,U,U,(by show(0:Int)<2147483629;decide),_,_,U,U,.inr (by decide,by decide),_,U,_,_,U,U,_,U,_,_,U,U,m0,?_)
    exact k _ _ (mod_lt m0).1 (mod_lt m0).2 (_,_,_,z) K1.L7
  ·rintro c σ H1 ⟨s1,n1,ls,rfl,D,K1,rfl⟩ hx
   refine(_,U,d,_,U,D.Rj,U,_,U,?_);refine a5 (λh1=>?_) (λh1=>hx)
   refine(_,U,d,_,U,D.LR,l,_,U,.inl (SqL.of D.hl),_,_,U,U,_,U,?_);refine a5 (λh2=>?_) (λh2=>hx)
   have h2:(0:Int)<((ls.map V.int).length:Int):=of_decide_eq_true h2;rcases Uk ls with rfl |⟨ls',x,rfl⟩
   ·simp at h2
   ·have ai:H1 l=Z (.lst (ls'.map V.int ++ [.int x])):=by simpa using D.hl
    refine(λah H'=>∃ s n g,ah = [Z (.ref d),Z (.int m),Y,Y,Y]/\dM H' d l s n g/\Kp d l H H'/\g.length<(ls' ++ [x]).length,λah H' (s2,n2,g,e,z,K2,h)=>(g.length,by simpa using h,s2,n2,g,e,z,K2,U),?_)
    have x0:0<=x:=D.l0 x (by simp)
    have z:=D.list (ls':=ls') λy hy=>D.l0 y (by simp[hy])
    refine(_,U,d,_,U,D.LR,.inl (U,_,SqL.of ai),l,_,.int x,U,U,ai,(by simp),?_)
    rw[TL];refine(_,U,d,_,U,z.P7,?_);exact(_,_,ls',U,z.num x0,(K1.RR).L7,by simp)
theorem Kr(T:Txt K mg a):aR P w K mg base CX0 1 a.xx a.Ig ["_law_script","_law_base"] (Ms K):=by
 refine T.x3.F.ok m5 (λvs H Q E h=>?_) (λcdv A outer s H vs Q E hr h=>?_)
 ·let(a,ns,b,U,_):=h;rfl
 ·let(p0,ns,b,U,hS,hlen,b0,b1,k):=h;have hu:=bg hr;refine(_,((cV (Ce (i:=2) m5.nd U (Or.inl U) U (sg (yI B1 (pv 0) (wB (pv 1)) (wB bS))) (N':=["_law_cell"]) (.own U .nil) (λ_ _ _ _ _=>((nC (i:=0) (show(["_law_cell"]:List Str).Nodup from by decide +kernel) U (Or.inl U)),Cb,(tE (EI U) (by rfl) T.RA (by kernel_rfl) (bj (pv 0) (bj (dS GZ bS (pv 0)) eT))))))
 (cV (i5 (i:=3) m5.nd U (Or.inl U) (dS pI bS (pv 1)))
 (cV (AU PassesOwn.never U (sg (pv 2)) (nC (i:=4) m5.nd U (Or.inl U))
 (iI (i5 (i:=3) m5.nd U (Or.inl U) (dS kT (dS pI (dS my (pv 3) bS) (dS kT (pv 4) bS)) bS))))
 (iI (mq (J8 (tj fB (pv 3) (tj fB bS (tj fB (tw U U T.lj U T.mL (Ck U (sg (pv 2)) (N':=["_law_cell"]) (.own U .nil) (λ_ _ _ _ _=>((nC (i:=0) (show(["_law_cell"]:List Str).Nodup from by decide +kernel) U (Or.inl U)),(JN (lI Qc (pv 0) (dS Nw bS bS) (bH _))),(pv 0))))) J3))) U U (by intro z;cases z) (by decide)))))))),?_)
  let(cs,aG,lcs):=Ii ns (Z b) (Z 63);refine(_,U,_,U,_,U,_,U,p0,_,U,hS,λp hp=>(p,U,(_,SqL.of aB),?_))
  rw[aG];have s1:mR H (upd H p (.lst (cs.map V.int))):=(mR.refl H).new hp;refine vF (K:=K) (a:=p) (xs:=cs.map V.int) (λi ys g H'=>∃ zs:List Int,ys=zs.map V.int/\(∀ z∈zs,0<=z)/\zs.length=i/\(∃ o,g = [o])/\H'=upd H p (.lst (cs.map V.int))) ([],U,by simp,U,(_,U),U) ?_ ?_ ?_
  ·rintro i ys g H' hi ⟨zs,rfl,_,hz,_,rfl⟩
   refine(SqL.of aB,?_);rw[gV]at hi ⊢;exact bb (by omega)
  ·rintro i x ys g H' hi ⟨zs,rfl,z0,hz,⟨o,rfl⟩,rfl⟩
   let(c,U):=int_at hi;refine K3 ?_;refine(_,U,_,U,_,_,U,U,_,_,U,?_);refine(zs ++ [if 0 - c > c then 0 - c else c],by simp,?_,by simp[hz],(_,U),U)
   intro z ah;rcases j1.mp ah with h|h
   ·exact z0 z h
   ·rw[bB.mp h]
    split <;> omega
  ·rintro ys g H' ⟨zs,rfl,z0,hz,_,rfl⟩ D hD
   have s2:mR H (upd (upd H p (.lst (cs.map V.int))) D (.lst (zs.map V.int))):=s1.new hD;have ai:(upd (upd H p (.lst (cs.map V.int))) D (.lst (zs.map V.int))) D=Z (.lst (zs.map V.int)):=aB
   generalize upd (upd H p (.lst (cs.map V.int))) D (.lst (zs.map V.int))=H2 at s2 ai ⊢
   refine(_,U,_,_,U,U,?_);refine(_,U,D,U,(_,SqL.of ai),HH (K:=K) (a:=D) (xs:=zs.map V.int) (λi g H'=>∃(n:Int)(o:Option V),g = [Z (.ref p0),Z (.int b),Z (.ref D),Z (.int n),o]/\0<=n/\n<2147483647/\H2=H')
    (_,_,U,by omega,by omega,U) (λi g H' _ (_,_,_,_,_,e)=>by rw[<- e];exact SqL.of ai) ?_ ?_)
   ·rintro i y g H' hi ⟨n,o,rfl,n0,n1,rfl⟩
    let(z,U):=int_at hi;refine(_,U,_,_,U,U,.inr (by decide,by decide),_,U,_,_,U,U,(by show(0:Int)<2147483629;decide),_,_,U,U,_,_,U,U,(by show(0:Int)<2147483647;decide),?_)
    exact(_,_,U,(mod_lt (by decide)).1,(mod_lt (by decide)).2,U)
   ·rintro g H' ⟨n,o,rfl,n0,aA,rfl⟩
    intro pd aj;have Oq:(upd H2 pd (.dK [])) D=Z (.lst (zs.map V.int)):=by rw[ao (aQ ai aj)];exact ai
    have s3:mR H (upd H2 pd (.dK [])):=s2.new aj;have Oo:(upd H2 pd (.dK [])) pd=Z (.dK []):=aB;have ax:H pd=none:=s2.free aj
    generalize upd H2 pd (.dK [])=H3 at Oq s3 Oo ⊢
    refine(_,U,_,U,D,U,(_,SqL.of Oq),vF (K:=K) (a:=D) (xs:=zs.map V.int) (λi ys g H'=>∃ ws:List Int,ys=ws.map V.int/\(∀ z∈ws,0<=z)/\ws.length<=i/\(∃ o,g = [o])/\H3=H') ([],U,by simp,lx _,(_,U),U) ?_ ?_ ?_)
    ·rintro i ys g H' hi ⟨ws,rfl,_,ah,_,rfl⟩
     refine(SqL.of Oq,?_);rw[gV]at hi ⊢;rw[gV]at hz;exact bb (by omega)
    ·rintro i x ys g H' hi ⟨ws,rfl,w0,ah,⟨o,rfl⟩,rfl⟩
     let(c,U,hc):=KQ hi;refine(_,U,_,_,U,U,(by decide,by decide,by decide),_,_,U,U,_,U,?_)
     refine a5 (λh1=>?_) (λh1=>?_)
     ·refine(_,U,ws ++ [c],by simp,?_,by simp;omega,(_,U),U)
      intro z ah;rcases j1.mp ah with h|h
      ·exact w0 z h
      ·rw[bB.mp h];exact z0 c hc
     ·exact(ws,U,w0,by omega,(_,U),U)
    ·rintro ys g H' ⟨ws,rfl,w0,ah,_,rfl⟩ D2 ak
     refine(D2,_,U,SqL.of aB,λq hq=>?_)
     have n1:pd≠D2:=aQ Oo ak;have e1:(upd H3 D2 (.lst (ws.map V.int))) pd=Z (.dK []):=by rw[ao n1];exact Oo
     have n2:pd≠q:=aQ e1 hq;have s4:mR H (upd (upd H3 D2 (.lst (ws.map V.int))) q (.lst ((ws.map V.int).reverse))):=(s3.new ak).new hq;refine(by rw[ao n2];exact e1,[(.inr "seed",.int n),(.inr "number",.int 0),(.inr "left",.ref q)],U,(by show 3<=15;decide),?_)
     rw[show pN [] [((.inr "seed":Key),V.int n),(.inr "number",.int 0),(.inr "left",.ref q)]=dk n 0 q from by kernel_rfl]
     refine k pd q _ ax ((s3.new ak).free hq) (n,0,ws.reverse,aB,?_,n0,aA,Tf _,?_) ?_
     ·rw[ao n2.symm,aB,Uo]
     ·intro x hx;exact w0 x (by simpa using hx)
     ·intro c o hc
      have:c≠pd:=aQ hc ax
      rw[ao this];exact s4 c o hc
theorem gm(T:Txt K mg a):aR P w K mg base CX0 1 a.fe a.pV ["self","row"] (yi a.aU ["row"]):=by
 refine Fun.ok (k:=0) T.lM An (λvs H Q E h=>?_) λcdv A outer s H vs Q E hr h=>?_
 ·let(b,ys,U,hl,_):=h;simp[hl]
 ·refine(_,iI (JO (fn:=fns) (pv 0) (pv 1)),?_);let(b,ys,U,hl,g,k):=h;obtain⟨y,rfl⟩:∃ y,ys = [y]:=List.length_eq_one_iff.mp hl
  exact(y,U,.ref b,U,b,a.aU,O,_,_,U,T.ib,Kx,Oz,.inl (g,λd hd ne=>k d hd ne))
theorem xG{α:Type}(f:α->Bool):∀ xs:List α,bls (xs.map λx=>L2.T.b (f x))=Z (xs.map f)
 | []=>rfl
 | x::r=>by show(bls (r.map λx=>L2.T.b (f x))).map (f x :: ·)=_;rw[xG f r];rfl
theorem Ij{i:Nat}{z:L2.T}(h:(chT x)[i]? = Z z):∃ c,x.cps.toList[i]? = Z c/\z = .s ⟨#[c]⟩:=by
 unfold chT at h;rw[qx]at h;let(c,h1,U):=j3.mp h;exact(c,h1,U)
theorem sx:(chT x).length=x.length:=by unfold chT;rw[gV];rfl
theorem za(T:Txt K mg a):aR P w K mg base CX0 1 a.su a.CQ ["text","signs","longest"] (spQ K Nb):=by
 refine T.xZ.F.okQ FP (λts Q h=>?_) (λ_ _ _ _ _ _ hr=>?_)
 ·let(_,_,_,U,_):=h;rfl
 ·have hu:=bg hr;refine(_,_,((az (bp (pA (QPF.w (Gq LJ (oX (g':=λi j=>.b (decide (i<=j))) λ_ _ _ _=>.b _) LJ (oX (g':=λi j=>.b (decide (i<=j))) λ_ _ _ _=>.b _) ar (QPF.w (kP T.oq (ae (qv 0) aC))) (qv 2))) (sX (du (pW U U) wa (by rfl) T.Io (by kernel_rfl) (ae (QPF.w (lF U (Gi (qv 0)) (N':=["sign","signs"]) (.own U (.got (i:=1) U U (.inl U) .nil)) (ij (g:=(Tg.nm 0)) (λ_ _ _ _ _=>((pF 0),(gE (tI U) lY U (qv 0) (qv 1))))))) aC))))))),λts Q h=>?_)
  let(x,signs,n,U,hx,q):=h;have V:x.length<=j5:=rV (aD (by omega))
  unfold ofB at q;refine(V,a5 (λh1=>?_) (λh1=>?_))
  ·rw[show decide (1 <=(x.length:Int))=O from h1,TB]at q;refine a5 (λh2=>?_) (λh2=>?_)
   ·rw[show decide ((x.length:Int)<=n)=O from h2,TB]at q;refine(by rw[sx];exact aD (by omega),λi ys=>ys =(x.cps.toList.take i).map λc=>.b (sgn signs c),U,λi z ys hz e=>?_,λys e=>?_)
    ·let(c,hc,U):=Ij hz;subst e;refine(_,U,?_);show _ ++ [L2.T.b (sgn signs c)]=_;rw[x2,hc];simp
    ·subst e;rw[sx,show x.length=x.cps.toList.length from U,z6];exact(_,xG _ _,by rw[UK];exact q)
   ·rw[Pb.mpr h2,Ue]at q;exact q
  ·rw[Pb.mpr h1,Ue]at q;exact q
theorem A2(T:Txt K mg a):aR P w K mg base CX0 2 a.lL a.vE ["text"] (spQ K GJ):=by
 refine T.vR.F.okQ Ap (λts Q h=>?_) (λ_ _ _ _ _ _ hr=>?_)
 ·let(_,U,_):=h;rfl
 ·have q:=bg hr;refine(_,_,((az (bp (pA (QPF.w (bq (za T) hr T.xZ (ae (qv 0) (ae (QPF.w (yB U T.EM)) (ae (QPF.w (yC U T.uv)) aC))))) (sX (gE (vt U) lY U (qv 0) (QPF.w (Gp U T.xF T.wq)))))))),λts Q h=>?_)
  let(x,U,hx,g):=h;refine(x,_,_,U,hx,?_);unfold ay at g;refine a5 (λh=>?_) (λh=>?_)
  ·rw[show ofB x eB 8=O from h,TB]at g;exact g
  ·rw[show ofB x eB 8=ϊ from Pb.mpr h,Ue]at g;exact g
theorem zc(T:Txt K mg a):aR P w K mg base CX0 2 a.jR a.uk ["text"] (spQ K DW):=by
 refine T.uI.F.okQ yo (λts Q h=>?_) (λ_ _ _ _ _ _ hr=>?_)
 ·let(_,U,_):=h;rfl
 ·have hu:=bg hr;refine(_,_,((az (bp (pA (QPF.w (bq (za T) hr T.xZ (ae (qv 0) (ae (QPF.w (yB U T.EN)) (ae (QPF.w (yC U T.rH)) aC))))) (sX (gE iK fK (bH _) (a6 (qv 0) ar) (QPF.w aw))))))),λts Q h=>?_)
  let(x,U,hx,g):=h;refine(x,_,_,U,hx,?_);unfold eZ at g;refine a5 (λh=>?_) (λh=>?_)
  ·rw[show ofB x lK 7=O from h,TB]at g;have h1:1 <=(x.length:Int):=by unfold ofB at h;simp only[qp,decide_eq_true_eq]at h;exact h.1
   obtain⟨c,r,e⟩:∃ c r,x.cps.toList=c::r:=by
    cases e:x.cps.toList with
    | nil=>have:x.length=0:=congrArg Ua e;omega
    | cons c r=>exact(c,r,U)
   rw[e]at g;refine(rV (aD (by omega)),c,by rw[e];exact CY (j:=0) U,U,?_)
   have q:(decide ((L2.T.s ⟨#[c]⟩).v =(L2.T.s "0").v))=decide ((c::r).head? = Z 48):=decide_eq_decide.mpr (λh=>by
    have:=V.str.inj h
    have:=congrArg (λz:Str=>z.cps.toList) this
    cases this;rfl,λh=>by cases h;rfl)
   rw[<- q]at g;exact g
  ·rw[show ofB x lK 7=ϊ from Pb.mpr h,Ue]at g;exact g
theorem pL(T:Txt K mg a):aR P w K mg base CX0 1 a.cA a.gH ["self","row","number"] (spL K 0 (DT a.ai)):=by
 refine T.fu.okL oZ (λts Q h=>?_) (λ_ _ _ _ _ _ hr=>?_) λts Q h=>?_
 ·let(_,_,_,U,_):=h;rfl
 ·have z:=bg hr;refine(_,_,((av (lD T.aj T.fS (aL (j:=0)) (yy (qv 1) (QPF.w aw)))
 (av (lD T.aj T.bD (aL (j:=0)) (QPE.f (qv 2)))
 (az (lD T.aj T.dI (aL (j:=0)) bN))))),λts Q t0 V h g ha=>?_)
  let(x,row,n,U,hl,q):=h;cases g;cases ha;refine(32,U,aD (by omega),U,by decide,_,U,?_)
  refine(U,U,by decide,_,U,?_)
  refine(U,by decide,_,U,?_)
  exact(_,U,U,q _ (.mk _ 0 U (uj (split_len _ _) (by omega)) λw hw=>uj (split_le hw) (by omega)))
 ·let(x,row,n,U,_):=h;exact(_,_,U,U)
theorem cD(T:Txt K mg a):aR P w K mg base CX0 1 a.b9 a.eY ["self"] (spQ K (Na a.ai)):=by
 refine T.cR.okQ kE (λts Q h=>?_) (λ_ _ _ _ _ _ hr=>?_)
 ·let(_,_,_,_,U,_):=h;rfl
 ·have q:=bg hr;refine(_,_,((az (bp (gE LI (oX (g':=λi j=>.b (decide (i<j))) λ_ _ _ _=>.b _) (bH _) (jB T.aj T.dI (qv 0)) (QPF.w (kP T.oq (ae (jB T.aj T.fS (qv 0)) aC))))))),λts Q h=>?_)
  let(x,n,l,t,U,hw,g):=h;cases hw with
  | mk ws p h1 h2 h3 =>
   have e:decide ((p:Int)<((ws.map L2.T.s).length:Int)) = !l.isEmpty:=by
    rw[<- h1,gV];cases e:ws.drop p with
    | nil=>exact decide_eq_false (by have:=List.drop_eq_nil_iff.mp e;omega)
    | cons w r=>exact decide_eq_true (by have:=congrArg Ua e;rw[TQ,mu]at this;omega)
   rw[<- e]at g;exact(U,_,U,U,_,U,g)
theorem bX(T:Txt K mg a):aR P w K mg base CX0 2 a.cY a.gp ["self"] (spQ K (J2 a.ai)):=by
 refine T.eD.okQ m7 (λts Q h=>?_) (λ_ _ _ _ _ _ hr=>?_)
 ·let(_,_,_,_,U,_):=h;rfl
 ·have z:=bg hr;refine(_,_,((az (bp (Lz (bE (QPF.w (dy T.aj T.cE (cD T) hr.aP T.cP (qv 0)))) (QPE.f (a6 (jB T.aj T.fS (qv 0)) (jB T.aj T.dI (qv 0)))) aw)))),λts Q h=>?_)
  let(x,n,l,t,U,hw,q):=h;have g:=hw;cases hw with
  | mk ws p h1 h2 h3 =>
   refine(U,U,x,n,l,_,U,g,?_);cases l with
   | nil=>exact q
   | cons w r =>
    have e:ws[p]? = Z w:=Ra h1;exact(U,_,U,U,_,U,_,CY (by rw[qx,e];rfl),U,q)
theorem cW(T:Txt K mg a):aR P w K mg base CX0 3 a.dv a.gG ["self"] (spL K 0 (M4 a.ai)):=by
 refine T.fq.okL jd (λts Q h=>?_) (λ_ _ _ _ _ _ hr=>?_) λts Q h=>?_
 ·let(_,_,_,_,U,_):=h;rfl
 ·have V:=bg hr;refine(_,_,((av (a8 1 jd.nd (dy T.aj T.bY (bX T) hr.aP T.ck (eR (aL (j:=0)))))
 (av (JC T.aj T.dI Od (aL (j:=0)) ar)
 (az (dG (QPE.f (qv 1))))))),λts Q t0 a0 h q ha=>?_)
  let(x,n,l,t,U,hw,z):=h;cases q;have g:=hw;cases hw with
  | mk ws p h1 h2 h3 =>
   cases ha;refine(U,U,_,n,l,_,U,g,?_);refine(U,by decide,_,U,_,U,?_)
   exact(U,_,U,U,z _ (.next h1 h2 h3))
 ·let(x,n,l,t,U,hw,_):=h;exact(_,_,U,hw.adr)
theorem bF(T:Txt K mg a):aR P w K mg base (CX1 P w) 4 a.b8 a.eV ["self","due"] (spG K [0] [0] (P5 a.ai a.aU)):=by
 refine T.cQ.okG kD (λts Q W h=>?_) (by decide) (λ_ h=>h) (λ_ _ _ _ _ _ hr=>?_) λts Q W h=>?_
 ·let(due,_,_,_,_,_,U,_):=h;rfl
 ·have hu:=bg hr;refine(_,_,((aI (MD iK fK (bH _) (sW (jf T.aj T.cX (cW T) hr.aP T.dw (aL (j:=0)))) (qv 1)
 (aI (hJ U U T.ib T.hW T.hV (gm T) hr.aP U T.hU T.ia (ae (eR (kM T.aj T.bD (aL (j:=0)))) aC)))
 (d8 bh)))),λts Q W as h ha=>?_)
  let(due,hd,x,n,l,t,U,hw,hq,hx):=h;obtain rfl:=as1 ha hw.adr;have z:=hw;cases hw with
  | mk ws p h1 h2 h3 =>
   refine(U,U,U,x,n,l,_,U,z,λt' g=>(g.adr,U,_,U,?_))
   have q:=g;cases g with
   | mk V p2 g1 g2 g3 =>
    refine(U,a5 (λh=>?_) (λh=>?_))
    ·exact(U,_,U,U,U,(by show 1<=1000;decide),hx (if_neg (fR h)))
    ·exact([_],(U,U,trivial),hq _ _ (if_pos (zM h)) _ q)
 ·let(due,_,x,n,l,t,U,hw,_):=h;exact([x],(_,U,hw.adr),trivial)
theorem bc(T:Txt K mg a):aR P w K mg base (CX1 P w) 4 a.bT a.dX ["self"] (spG K [0] [0] (vp a.ai a.aU [] qK)):=by
 refine T.cK.okG fZ (λts Q W h=>?_) (by decide) (λ_ h=>h) (λ_ _ _ _ _ _ hr=>?_) λts Q W h=>?_
 ·let(_,_,_,_,U,_):=h;rfl
 ·have hu:=bg hr;refine(_,_,((ag (cC (i:=1) fZ.nd (sW (jf T.aj T.cX (cW T) hr.aP T.dw (aL (j:=0)))))
 (ag (fO (kL (bE (QPF.w (bq (A2 T) hr T.vR (ae (qv 1) aC)))))
 (aI (hJ U U T.ib T.hW T.hV (gm T) hr.aP U T.hU T.ia (ae (eR (kM T.aj T.bD (aL (j:=0)))) aC)))
 (d8 bh))
 (aI (aY (dG (QPE.f (qv 1)))))))),λts Q W as h ha=>?_)
  let(x,n,l,t,U,hw,V,hx):=h;obtain rfl:=as1 ha hw.adr;have q:=hw;cases hw with
  | mk ws p h1 h2 h3 =>
   refine(U,U,U,x,n,l,_,U,q,λt' g=>(g.adr,U,_,U,?_))
   have z:=g;cases g with
   | mk ah p2 g1 g2 g3 =>
    refine(_,U,q.hd,?_);unfold qK at V hx;cases e:ay (hd l)with
    | false =>
     rw[e]at hx;exact(U,_,U,U,U,(by show 1<=1000;decide),hx U)
    | true =>
     rw[e]at V;exact(U,[_],(U,U,trivial),V _ _ U _ z)
 ·let(x,n,l,t,U,hw,_):=h;exact([x],(_,U,hw.adr),trivial)
theorem jG(T:Txt K mg a):aR P w K mg base (CX1 P w) 4 a.bK a.dE ["self"] (spG K [0] [0] (vp a.ai a.aU [] pU)):=by
 refine T.cu.okG fN (λts Q W h=>?_) (by decide) (λ_ h=>h) (λ_ _ _ _ _ _ hr=>?_) λts Q W h=>?_
 ·let(_,_,_,_,U,_):=h;rfl
 ·have hu:=bg hr;refine(_,_,((ag (cC (i:=1) fN.nd (sW (jf T.aj T.cX (cW T) hr.aP T.dw (aL (j:=0)))))
 (ag (fO (kL (bE (QPF.w (bq (zc T) hr T.uI (ae (qv 1) aC)))))
 (aI (hJ U U T.ib T.hW T.hV (gm T) hr.aP U T.hU T.ia (ae (eR (kM T.aj T.bD (aL (j:=0)))) aC)))
 (d8 bh))
 (aI (aY (dG (aW EL FG (by rfl) T.uw (by kernel_rfl) (ae (qv 1) aC)))))))),λts Q W as h ha=>?_)
  let(x,n,l,t,U,hw,V,hx):=h;obtain rfl:=as1 ha hw.adr;have q:=hw;cases hw with
  | mk ws p h1 h2 h3 =>
   refine(U,U,U,x,n,l,_,U,q,λt' g=>(g.adr,U,_,U,?_))
   have z:=g;cases g with
   | mk ah p2 g1 g2 g3 =>
    refine(_,U,q.hd,?_);unfold pU at V hx;cases e:eZ (hd l)with
    | false =>
     rw[e]at hx;exact(U,_,U,U,U,(by show 1<=1000;decide),hx U)
    | true =>
     rw[e]at V;have h7:=vG e;exact(_,EF e,by omega,[_],(U,U,trivial),V _ _ U _ z)
 ·let(x,n,l,t,U,hw,_):=h;exact([x],(_,U,hw.adr),trivial)
theorem mB(T:Txt K mg a):aR P w K mg base (CX1 P w) 4 a.cH a.fV ["self"] (spG K [0] [0] (vp a.ai a.aU [] K8)):=by
 refine T.dJ.okG lZ (λts Q W h=>?_) (by decide) (λ_ h=>h) (λ_ _ _ _ _ _ hr=>?_) λts Q W h=>?_
 ·let(_,_,_,_,U,_):=h;rfl
 ·have V:=bg hr;refine(_,_,((aI (fO (bE (QPF.w (dy T.aj T.cE (cD T) hr.aP T.cP (eR (aL (j:=0))))))
 (aI (hJ U U T.ib T.hW T.hV (gm T) hr.aP U T.hU T.ia (ae (eR (kM T.aj T.bD (aL (j:=0)))) aC)))
 (d8 bh)))),λts Q W as h ha=>?_)
  let(x,n,l,t,U,hw,q,hx):=h;obtain rfl:=as1 ha hw.adr;have g:=hw;cases hw with
  | mk ws p h1 h2 h3 =>
   refine(U,U,x,n,l,_,U,g,?_);unfold K8 at q hx;cases e:l.isEmpty with
   | false =>
    rw[e]at hx;exact(U,_,U,U,U,(by show 1<=1000;decide),hx U)
   | true =>
    rw[e]at q;have z:l = []:=UG.mp e;subst z;exact([_],(U,U,trivial),q _ _ U _ g)
 ·let(x,n,l,t,U,hw,_):=h;exact([x],(_,U,hw.adr),trivial)
theorem eM(T:Txt K mg a):aR P w K mg base (CX1 P w) 5 a.bx a.cN ["self","due"] (spG K [0] [0] (JV a.ai a.aU)):=by
 refine T.bR.okG eJ (λts Q W h=>?_) (by decide) (λ_ h=>h) (λ_ _ _ _ _ _ hr=>?_) λts Q W h=>?_
 ·let(_,_,_,_,_,_,_,_,U,_):=h;rfl
 ·have hu:=bg hr;refine(_,_,((ag (aY (a8 2 eJ.nd (aN aF)))
 (ag (g9 PassesOwn.leaving (cS iK fK (bH _) (QPF.w (dy T.aj T.bY (bX T) hr.aP T.ck (eR (aL (j:=0))))) (qv 1))
 (aI (iG (i:=2) (pv 2) (cm T.aj T.aH (bc T) hr.aP T.aK (aL (j:=0))))))
 (ag (cT (fj T.aj T.aS (bF T) hr.aP T.aX (aL (j:=0)) (ae (qv 1) aC)))
 (aI (aY (dG (aW (cj U) cf (by rfl) T.dm (by kernel_rfl) (ae (qv 2) aC))))))))),λts Q W as h ha=>?_)
  let(due,dn,db,dl,x,n,l,t,U,hw,hq,hx):=h;obtain rfl:=as1 ha hw.adr;have hl:=hw.len;refine(λc q=>∃(L l':List Str)(t':L2.T)(NN:List L2.T),q = [.o t',.r (.s due),.o (.l NN)]/\NN=L.map .s/\Rw a.ai x n l' t'/\c=l'.length/\(fNames due l =(fNames due l').map λz=>(L++z.1,z.2))/\L.length+l'.length<=l.length,(_,[],l,t,_,U,U,hw,U,by cases fNames due l <;> rfl,by simp),?_)
  rintro c q ⟨L,l',t',NN,rfl,rfl,hw,rfl,hf,hn⟩
  have V:=hw;cases hw with
  | mk ws p h1 h2 h3 =>
   refine(U,U,x,n,l',_,U,V,?_);refine(U,a5 (λh=>?_) (λh=>?_))
   ·have h:=fR h;refine(λq'=>∃(L l2:List Str)(t':L2.T)(NN:List L2.T),q' = [.o t',.r (.s due),.o (.l NN)]/\NN=L.map .s/\Rw a.ai x n l2 t'/\l2.length<l'.length/\(fNames due l =(fNames due l2).map λz=>(L++z.1,z.2))/\L.length+l2.length<=l.length,?_,?_)
    ·rintro q' ⟨L,l2,t',NN,rfl,rfl,g1,g2,g3,g4⟩
     exact(_,g2,L,l2,t',_,U,U,g1,U,g3,g4)
    ·refine((_,U),U,U,U,_,U,x,n,l',_,U,V,λr l2 e t2 g=>?_,λe=>hx ?_)
     ·cases l' with
      | nil=>cases e
      | cons w r =>
       unfold qK at e
       split at e
       ·rename_i hb;have hb:ay w=true:=hb;have h:w≠due:=h;cases e;refine(U,_,U,aD (by rw[gV];simp at hn;omega),L ++ [w],r,t2,_,U,by simp,g,by simp,?_,by simp at hn ⊢;omega)
        rw[hf,fNames,if_neg h,if_pos hb];cases fNames due r <;> simp
       ·cases e
     ·rw[hf];cases l' with
      | nil=>rfl
      | cons w r =>
       have h:w≠due:=h;unfold qK at e
       split at e
       ·cases e
       ·rename_i hb;have hb:¬ ay w=true:=hb;rw[fNames,if_neg h,if_neg hb];rfl
   ·have h:=zM h;cases l' with
    | nil=>exact absurd h.symm dn
    | cons w r =>
     have h:w=due:=h;refine(U,U,U,_,U,due,dl,x,n,w::r,_,U,V,λr1 l2 e t2 g=>?_,λe=>?_)
     ·unfold rE at e;rw[if_pos (show hd (w::r)=due from h)]at e;cases e;exact(U,aZ L,[_],(U,g.adr,trivial),hq _ _ (by rw[hf,fNames,if_pos h];simp[tN]) _ g)
     ·unfold rE at e;rw[if_pos (show hd (w::r)=due from h)]at e;cases e
 ·let(due,_,_,_,x,n,l,t,U,hw,_):=h;exact([x],(_,U,hw.adr),trivial)
theorem kU(T:Txt K mg a):aR P w K mg base CX0 1 a.gw a.lW ["heads","body"] (spQ K JP):=by
 refine T.fg.F.okQ ic (λts Q h=>?_) (λ_ _ _ _ _ _ hr=>?_)
 ·let(_,_,U,_):=h;rfl
 ·have hu:=bg hr;refine(_,_,((av (iZ (g:=(Tg.nm 2)) PassesOwn.never U (MH (i:=0) U T.mL (pv 0)) (gR 2 ic.nd)
 (az (a8 1 ic.nd (aO (qv 2) (QPF.w (cM (af (QPE.f (qv 1)) aF)))))))
 (az (bp (QPE.f (qv 1)))))),λts Q h=>?_)
  let(hts,b,U,hi,hb,hl,hq):=h;have len:∀ i,((hts.map L2.T.t).reverse)[i]? = hts.reverse[i]?.map L2.T.t:=λi=>by rw[<- Uo,qx]
  refine(λi q=>P3 λu o1 o2=>q = [.r (.l (hts.map .t)),o1,o2]/\(o1 = .r u\/o1 = .o u)/\u.im=O/\u=dO (hts.reverse.take i).reverse b,(_,_,_,U,.inl U,hb,U),λi z q hz e=>?_,λq e=>?_)
  ·let(u,o1,o2,U,ho,V,ah):=e;rw[len]at hz;let(h,hh,U):=j3.mp hz;let(g1,g2):=hi h (Vf.mp (u3 hh));have e1:(hts.reverse.take (i+1)).reverse=h ::(hts.reverse.take i).reverse:=by rw[x2,hh];simp
   refine(_,U,?_);have iu:L2.T.ims [u]=true:=by show(u.im&&O)=O;rw[V];rfl
   have ih:(L2.T.t (h ++ [u])).im=true:=by show L2.T.ims (h ++ [u])=O;rw[dh,g1,iu];rfl
   have hz:h.length + [u].length<=j5:=rV (aD (by simp;omega))
   rcases ho with rfl|rfl
   ·exact(V,hz,g1,iu,_,_,_,U,.inr U,ih,by rw[e1,ah];rfl)
   ·exact(V,hz,g1,iu,_,_,_,U,.inr U,ih,by rw[e1,ah];rfl)
  ·let(u,o1,o2,U,ho,V,ah):=e;rw[QX,gV,<- QX,z6,UT]at ah;subst ah;rcases ho with rfl|rfl
   ·exact(V,hq)
   ·exact(V,hq)
theorem pM(T:Txt K mg a):aR P w K mg base (CX1 P w) 1 a.cB a.gI ["self","heads","looked"] (spG K [0] [0,1] (GI a.aA)):=by
 refine T.fv.okG pb (λts Q W h=>?_) (by decide) (λj h=>by simp at h;simp[h]) (λ_ _ _ _ _ _ hr=>?_) λts Q W h=>?_
 ·let(_,_,_,U,_):=h;rfl
 ·have q:=bg hr;refine(_,_,((d8 (av (Gf (i:=1) (by decide) T.bu T.iL (aL (j:=0)) (pv 1))
 (av (lD T.bu T.ik (aL (j:=0)) (QPE.f (qv 2)))
 (av (lD T.bu T.gn (aL (j:=0)) (aN aF))
 (az (lD T.bu T.dU (aL (j:=0)) (cM aF)))))))),λts Q W as h ha=>?_)
  let(x,hs,lk,U,g):=h;obtain rfl:=as1 ha U;refine(_,U,U,by decide,U,_,U,?_)
  refine(U,U,by decide,_,U,?_)
  refine(U,by decide,_,U,?_)
  refine(U,by decide,_,U,?_)
  exact([_],(U,U,trivial),g)
 ·let(x,hs,lk,U,_):=h;exact([x],(_,U,U),trivial)
theorem jH(T:Txt K mg a):aR P w K mg base CX0 1 a.bL a.dF ["self","body"] (spL K 0 (JT a.aA)):=by
 refine T.cv.okL jv (λts Q h=>?_) (λ_ _ _ _ _ _ hr=>?_) λts Q h=>?_
 ·let(_,_,_,_,_,_,U,_):=h;rfl
 ·have V:=bg hr;refine(_,_,((az (JD (kM T.bu T.gn (aL (j:=0))) (aO (eR (kM T.bu T.dU (aL (j:=0)))) (QPF.w (cM (af (QPE.f (qv 1)) aF))))))),λts Q t0 a0 h q ha=>?_)
  let(x,hs,lk,arms,ah,b,U,hi,g,hl,z):=h;cases q;cases ha;refine(U,_,U,aD (by omega),U,_,U,g,?_)
  exact(rV (aD (by simp;omega)),hi,(by show(b.im&&O)=O;rw[g];rfl),_,U,_,U,U,z)
 ·let(x,hs,lk,arms,ah,b,U,_):=h;exact(_,_,U,U)
theorem gb(T:Txt K mg a):aR P w K mg base (CX1 P w) 6 a.bU a.dY ["self","words"] (spG K [0,1] [0,1] (JU a.aA a.ai a.aU)):=by
 refine T.cL.okG f7 (λts Q W h=>?_) (by decide) (λ_ h=>h) (λ_ _ _ _ _ _ hr=>?_) λts Q W h=>?_
 ·let(_,_,_,_,_,_,_,_,_,U,_):=h;rfl
 ·have hu:=bg hr;refine(_,_,((ag (cC (i:=2) f7.nd (cm T.aj T.aH (bc T) hr.aP T.aK (aL (j:=1))))
 (aI (Jz T.bu T.dU (aL (j:=0)) (kN (cx (f9 (qv 2)) (cx (fj T.aj T.eO (eM T) hr.aP T.ff (aL (j:=1)) (ae (QPF.w aw) aC)) cb))))))),λts Q W as h ha=>?_)
  let(x,hs,lk,arms,ah,y,n,l,t,U,hw,hq,hx):=h;obtain rfl:=as2 ha U hw.adr;have V:=hw;cases hw with
  | mk ws p h1 h2 h3 =>
   refine(U,U,U,_,U,y,n,l,_,U,V,λr l1 e t1 q=>?_,λe=>hx (if_neg (b7 e)))
   have pS:=q;let(hb,U,U):=b6 e;cases q with
   | mk ak p1 i1 i2 i3 =>
    refine(U,U,U,U,U,U,_,U,":",by decide,by decide +kernel,by decide,y,n,l.tail,_,U,pS,λr l2 z t2 g=>?_,λz=>hx ?_)
    ·let((ns,l3),e3,e4):=j3.mp z;cases e4;exact(aZ ns,aZ ns,rV (aD (by simp)),U,by decide,_,U,[_,_],(U,U,U,g.adr,trivial),hq _ _ (by unfold rF;rw[if_pos hb,e3];rfl) _ g)
    ·unfold rF;rw[if_pos hb];rw[QH]at z ⊢;exact z
 ·let(x,hs,lk,arms,ah,y,n,l,t,U,hw,_):=h;exact([x,y],(_,U,U),(_,U,hw.adr),trivial)
theorem nI(T:Txt K mg a):aR P w K mg base CX0 2 a.cZ a.gq ["self"] (spQ K (DU a.aA)):=by
 refine T.eI.okQ m9 (λts Q h=>?_) (λ_ _ _ _ _ _ hr=>?_)
 ·let(_,_,_,_,_,U,_):=h;rfl
 ·have q:=bg hr;refine(_,_,((az (bp (bq (kU T) hr T.fg (ae (jB T.bu T.iL (qv 0)) (ae (QPF.w (cM (af aw (af (QPE.f (jB T.bu T.ik (qv 0))) (af (aW (cj U) cf (by rfl) T.dm (by kernel_rfl) (ae (jB T.bu T.gn (qv 0)) aC)) aF))))) aC)))))),λts Q h=>?_)
  let(x,hts,lk,arms,ah,U,ho,hi,hl,g):=h;refine(U,_,U,U,_,U,U,U,_,U,hi,hts,_,U,ho,?_,hl,g);show(O&&(O&&(L2.T.ims arms&&O)))=O;rw[hi];rfl
theorem uU(T:Txt K mg a):aR P w K mg base (CX1 P w) 5 a.gT a.nW ["words"] (spG K [0] [0] (vp a.ai a.aU [] λl=>(iA l).map tMk)):=by
 refine T.dq.F.okG iW (λts Q W h=>?_) (by decide) (λ_ h=>h) (λ_ _ _ _ _ _ hr=>?_) λts Q W h=>?_
 ·let(_,_,_,_,U,_):=h;rfl
 ·have hu:=bg hr;refine(_,_,((ag (cC (i:=1) iW.nd (cm T.aj T.aH (bc T) hr.aP T.aK (aL (j:=0))))
 (ag (aY (a8 2 iW.nd (aN aF)))
 (ag (g9 PassesOwn.leaving (QPW.pt (pz (bE (QPF.w (dy T.aj T.cE (cD T) hr.aP T.cP (eR (aL (j:=0)))))) (nh (cS iK fK (bH _) (QPF.w (dy T.aj T.bY (bX T) hr.aP T.ck (eR (aL (j:=0))))) (QPF.w aw)))))
 (aI (iG (i:=2) (pv 2) (cm T.aj T.aH (bc T) hr.aP T.aK (aL (j:=0))))))
 (aI (aY (dG (cM (af (QPE.f (qv 1)) (af (aW (cj U) cf (by rfl) T.dm (by kernel_rfl) (ae (qv 2) aC)) aF)))))))))),λts Q W as h ha=>?_)
  let(x,n,l,t,U,hw,hq,hx):=h;obtain rfl:=as1 ha hw.adr;have g:=hw;cases hw with
  | mk ws p h1 h2 h3 =>
   refine(U,U,U,_,U,x,n,l,_,U,g,λr l1 e t1 ah=>?_,λe=>hx (by unfold iA;rw[if_neg (b7 e)];rfl))
   let(hb,U,U):=b6 e;have aG:=ah.len;refine(U,?_);refine(λc q=>∃(L l':List Str)(t':L2.T)(NN:List L2.T),q = [.o t',.o (.s (hd l)),.o (.l NN)]/\NN=L.map .s/\Rw a.ai x n l' t'/\c=l'.length/\(bZ l.tail =(bZ l').map λz=>(L++z.1,z.2))/\L.length+l'.length<=l.tail.length,(_,[],l.tail,t1,_,U,U,ah,U,by cases bZ l.tail <;> rfl,by simp),?_)
   rintro c q ⟨L,l',t',NN,rfl,rfl,hw,rfl,hf,hn⟩
   have g:=hw;have ax:bZ l'=Z ([],l')->Q (.t [.s (hd l),.t (L.map .s)]) [t']:=λh=>hq _ _ (by
    unfold iA;rw[if_pos hb,hf,h];simp[tMk,tM]) _ hw
   cases hw with
   | mk ws p h1 h2 h3 =>
    cases l' with
    | nil =>
     refine(U,U,x,n,[],_,U,g,?_);exact(U,aZ L,[_],(U,U,trivial),ax U)
    | cons w r =>
     refine(U,U,x,n,w::r,_,U,g,?_);refine(U,U,x,n,w::r,_,U,g,U,a5 (λh=>?_) (λh=>?_))
     ·have ak:w ≠ "|":=fR h
      clear h;refine(λq'=>∃(L l2:List Str)(t':L2.T)(NN:List L2.T),q' = [.o t',.o (.s (hd l)),.o (.l NN)]/\NN=L.map .s/\Rw a.ai x n l2 t'/\l2.length<(w::r).length/\(bZ l.tail =(bZ l2).map λz=>(L++z.1,z.2))/\L.length+l2.length<=l.tail.length,?_,?_)
      ·rintro q' ⟨L,l2,t',NN,rfl,rfl,g1,g2,g3,g4⟩
       exact(_,g2,L,l2,t',_,U,U,g1,U,g3,g4)
      ·refine((_,U),U,U,U,_,U,x,n,w::r,_,U,g,λr1 l2 e t2 aA=>?_,λe=>hx ?_)
       ·let(V,e1,e2):=b6 e;have V:ay w=true:=V;subst e1;have e2:r=l2:=e2.symm;subst e2;have hn:L.length+(r.length+1)<=l.tail.length:=hn;refine(U,_,U,aD (by rw[gV];omega),L ++ [w],r,t2,_,U,by simp,aA,by simp,?_,by rw[px];show L.length+1+r.length<=_;omega)
        rw[hf,bZ,if_neg ak,if_pos V];cases bZ r <;> simp
       ·have V:¬ ay w=true:=b7 e;unfold iA;rw[if_pos hb,hf,bZ,if_neg ak,if_neg V];rfl
     ·have h:w = "|":=zM h
      exact(U,aZ L,[_],(U,U,trivial),ax (by rw[bZ,if_pos h]))
 ·let(x,n,l,t,U,hw,_):=h;exact([x],(_,U,hw.adr),trivial)
theorem wM(T:Txt K mg a):aR P w K mg base (CX1 P w) 6 a.iN a.qN ["words"] (spG K [0] [0] (vp a.ai a.aU [] λl=>(k7 l).map tKd)):=by
 refine T.iT.F.okG jr (λts Q W h=>?_) (by decide) (λ_ h=>h) (λ_ _ _ _ _ _ hr=>?_) λts Q W h=>?_
 ·let(_,_,_,_,U,_):=h;rfl
 ·have hu:=bg hr;refine(_,_,((ag (cT (fj T.aj T.aS (bF T) hr.aP T.aX (aL (j:=0)) (ae (QPF.w aw) aC)))
 (ag (cC (i:=1) jr.nd (cm T.aj T.aH (bc T) hr.aP T.aK (aL (j:=0))))
 (ag (Gd (i:=2) jr.nd (cx (ig (uU T) hr.aP U T.dq.m T.dq.F.kp T.dq.b (pv 0) cb) cb))
 (ag (g9 PassesOwn.leaving (bE (QPF.w (dy T.aj T.cE (cD T) hr.aP T.cP (eR (aL (j:=0))))))
 (ag (cT (fj T.aj T.aS (bF T) hr.aP T.aX (aL (j:=0)) (ae (QPF.w aw) aC)))
 (aI (iG (i:=2) (pv 2) (ig (uU T) hr.aP U T.dq.m T.dq.F.kp T.dq.b (pv 0) cb)))))
 (aI (aY (dG (cM (af (QPE.f (qv 1)) (af (aW (cj U) cf (by rfl) T.dm (by kernel_rfl) (ae (qv 2) aC)) aF))))))))))),λts Q W as h ha=>?_)
  let(x,n,l,t,U,hw,hq,hx):=h;obtain rfl:=as1 ha hw.adr;have z:=hw;have kn:∀{l0:List Str},k7 l0=Y ->(k7 l0).map tKd=none:=λe=>by rw[e];rfl
  cases hw with
  | mk ws p h1 h2 h3 =>
   refine(U,U,U,_,U,"kind",by decide,x,n,l,_,U,z,λr l1 e t1 aA=>?_,λe=>hx (kn (by unfold k7;rw[e])))
   let(hk,U,U):=dA e;have pS:=aA;cases aA with
   | mk ws p h1 h2 h3 =>
    refine(U,U,U,U,_,U,x,n,_,_,U,pS,λr l1 e2 t2 ax=>?_,λe2=>hx (kn (by unfold k7;rw[e];dsimp only;rw[if_neg (b7 e2)])))
    let(hb,e3,e4):=b6 e2;subst e3 e4;have xk:=ax;cases ax with
    | mk ws p h1 h2 h3 =>
     have kq:∀{L:List Mk1}{t':L2.T},di (l.length+1) l.tail.tail=Z L->Rw a.ai x n [] t'->Q (tK (hd l.tail,L)) [t']:=λ{L t'} h hw=>hq _ _ (by unfold k7;rw[e];dsimp only;rw[if_pos hb,h];rfl) _ hw
     have kx:di (l.length+1) l.tail.tail=Y->W a.aU ["row"] [.i n]:=λh=>hx (by unfold k7;rw[e];dsimp only;rw[if_pos hb,h];rfl)
     have hl:=z.len;refine(U,(_,U),_,U,λ_=>(x,n,_,_,U,xk,λr l1 e5 t3 a3=>?_,λe5=>kx (by rw[QH]at e5;rw[di,e5])))
     let((m,l2),e6,e7):=j3.mp e5;cases e7;have ln:=uc e6;rw[wh,wh]at ln;have e8:=qL (k:=l.length) e6;rw[e8]at kq kx;refine(zB m,zB m,rV (aD (by simp)),?_)
     refine(λc q=>∃(L:List Mk1)(l':List Str)(t':L2.T)(NN:List L2.T)(k:Nat),q = [.o t',.o (.s (hd l.tail)),.o (.l NN)]/\NN=L.map tM/\Rw a.ai x n l' t'/\c=l'.length/\ud l.length [m] l2=ud k L l'/\l'.length<=k/\L.length+l'.length<=l.length,(_,[m],l2,t3,_,l.length,U,U,a3,U,U,by omega,by simp;omega),?_)
     rintro c q ⟨L,l',t',NN,k,rfl,rfl,hw,rfl,hf,hk,hn⟩
     rw[hf]at kq kx;have z:=hw;cases hw with
     | mk ws p h1 h2 h3 =>
      refine(U,U,x,n,l',_,U,z,?_);cases em:l'.isEmpty with
      | true =>
       have el:l' = []:=UG.mp em;subst el;exact(U,cG zB L,[_],(U,U,trivial),kq U z)
      | false =>
       refine(λq'=>∃(L:List Mk1)(g:List Str)(t':L2.T)(NN:List L2.T)(k:Nat),q' = [.o t',.o (.s (hd l.tail)),.o (.l NN)]/\NN=L.map tM/\Rw a.ai x n g t'/\g.length<l'.length/\ud l.length [m] l2=ud k L g/\g.length<=k/\L.length+g.length<=l.length,?_,?_)
       ·rintro q' ⟨L,g,t',NN,k,rfl,rfl,g1,g2,g3,g4,g5⟩
        exact(_,g2,L,g,t',_,k,U,U,g1,U,g3,g4,g5)
       ·obtain⟨w,r,rfl⟩:∃ w r,l'=w::r:=by cases l' with|nil=>cases em|cons w r=>exact(w,r,rfl)
        have hn:L.length+(r.length+1)<=l.length:=hn;have hk:r.length+1<=k:=hk;obtain⟨k',rfl⟩:∃ k',k=k'+1:=(k - 1,by omega)
        refine(U,U,U,_,U,"|",by decide,x,n,w::r,_,U,z,λr1 l3 e9 t4 ak=>?_,λe9=>kx ?_)
        ·let(aG,a7,ah):=dA e9;have ah:r=l3:=ah.symm;subst a7 ah;have Ol:=ak;cases ak with
         | mk ws p h1 h2 h3 =>
          refine(U,(_,U),(_,U),_,U,λ_=>(x,n,_,_,U,Ol,λr2 l4 V t5 a0=>?_,λV=>kx ?_))
          ·let((m',l5),aM,a4):=j3.mp V;cases a4;have bo:l5.length<r.length:=uc aM;refine(zB m',_,U,aD (by rw[gV];omega),L ++ [m'],l5,t5,_,k',U,by simp,a0,by show l5.length<r.length+1;omega,by rw[hf];exact Ex em aG aM,by omega,by rw[px];show L.length+1+l5.length<=_;omega)
          ·unfold ud;rw[QH]at V;rw[em,if_neg (by decide),if_pos aG,show(w::r).tail=r from U,di,V]
           rfl
        ·unfold ud;rw[em,if_neg (by decide),if_neg (hX e9)]
 ·let(x,n,l,t,U,hw,_):=h;exact([x],(_,U,hw.adr),trivial)
theorem y7(T:Txt K mg a):aR P w K mg base (CX1 P w) 6 a.jP a.ug ["words"] (spG K [0] [0] (vp a.ai a.aU [] λl=>(mI l).map tH)):=by
 refine T.jT.F.okG iF (λts Q W h=>?_) (by decide) (λ_ h=>h) (λ_ _ _ _ _ _ hr=>?_) λts Q W h=>?_
 ·let(_,_,_,_,U,_):=h;rfl
 ·have hu:=bg hr;refine(_,_,((ag (cC (i:=1) iF.nd (cm T.aj T.aH (bc T) hr.aP T.aK (aL (j:=0))))
 (ag (cC (i:=2) iF.nd (sW (jf T.aj T.cX (cW T) hr.aP T.dw (aL (j:=0)))))
 (ag (fO (QPW.pt (pz (cS iK fK (bH _) (qv 2) (QPF.w aw)) (pz (cS iK fK (bH _) (qv 2) (QPF.w aw)) (nh (cS iK fK (bH _) (qv 2) (QPF.w aw))))))
 (aI (hJ U U T.ib T.hW T.hV (gm T) hr.aP U T.hU T.ia (ae (eR (kM T.aj T.bD (aL (j:=0)))) aC)))
 (d8 bh))
 (ag (cC (i:=3) iF.nd (cm T.aj T.aH (bc T) hr.aP T.aK (aL (j:=0))))
 (ag (fO (gN hu (qv 2) (QPF.w aw))
 (ag (cT (fj T.aj T.aS (bF T) hr.aP T.aX (aL (j:=0)) (ae (QPF.w aw) aC)))
 (aI (aY (dG (cM (af (QPE.f (qv 2)) (af (QPE.f (qv 1)) (af (QPE.f (qv 3)) aF))))))))
 (d8 bh))
 (aI (ni (kN (cx (f9 (qv 2)) (cx (f9 (qv 1)) (cx (f9 (qv 3)) (cx (fj T.aj T.eO (eM T) hr.aP T.ff (aL (j:=0)) (ae (QPF.w aw) aC)) cb))))))))))))),λts Q W as h ha=>?_)
  let(x,n,l,t,U,hw,hq,hx):=h;obtain rfl:=as1 ha hw.adr;have aA:=hw;have kn:∀{l0:List Str},mI l0=Y ->(mI l0).map tH=none:=λe=>by rw[e];rfl
  cases hw with
  | mk ws p h1 h2 h3 =>
   refine(U,U,U,_,U,x,n,l,_,U,aA,λr l1 e t1 ax=>?_,λe=>hx (kn (by unfold mI;rw[if_neg (b7 e)])))
   let(hb,e1,e2):=b6 e;subst e1 e2;have pS:=ax;cases ax with
   | mk ws p h1 h2 h3 =>
    refine(U,U,U,U,x,n,_,_,U,pS,λt2 ah=>(ah.adr,U,_,U,?_))
    have xk:=ah;cases ah with
    | mk ws p h1 h2 h3 =>
     dsimp only;refine RW (w:=hd l.tail) ?_ ?_
     ·rfl
     by_cases hm:hd l.tail = "make" \/ hd l.tail = "call" \/ hd l.tail = "name"
     ·rw[Qh hm];refine(U,U,U,_,U,x,n,_,_,U,xk,λr l3 e3 t3 ak=>?_,λe3=>hx (kn (by unfold mI;rw[if_pos hb,if_pos hm,if_neg (b7 e3)])))
      let(q,e4,e5):=b6 e3;subst e4 e5;have El:=ak;cases ak with
      | mk ws p h1 h2 h3 =>
       refine(U,U,a5 (λh=>?_) (λh=>?_))
       ·have h:hd l.tail = "name":=V.str.inj (of_decide_eq_true h);refine(U,U,U,_,U,";",by decide,x,n,_,_,U,El,λr l4 e6 t4 g=>?_,λe6=>hx (kn ?_))
        ·let(_,e7,e8):=dA e6;subst e7;exact(U,U,U,U,[_],(U,g.adr,trivial),hq _ _ (by unfold mI;rw[if_pos hb,if_pos hm,if_pos q,if_pos h,e6];rfl) _ g)
        ·unfold mI;rw[if_pos hb,if_pos hm,if_pos q,if_pos h,e6];rfl
       ·have h:¬ hd l.tail = "name":=λz=>h (by rw[z];exact decide_eq_true U)
        refine(U,U,U,U,U,U,U,U,U,_,U,";",by decide,by decide +kernel,by decide,x,n,_,_,U,El,λr l4 e6 t4 g=>?_,λe6=>hx (kn ?_))
        ·let((ns,l5),e7,e8):=j3.mp e6;cases e8;exact(aZ ns,aZ ns,rV (aD (by simp)),[_],(U,g.adr,trivial),hq _ _ (by unfold mI;rw[if_pos hb,if_pos hm,if_pos q,if_neg h,e7];rfl) _ g)
        ·rw[QH]at e6;unfold mI;rw[if_pos hb,if_pos hm,if_pos q,if_neg h,e6];rfl
     ·rw[Qg hm];exact(U,_,U,U,U,(by show 1<=1000;decide),hx (kn (by unfold mI;rw[if_pos hb,if_neg hm])))
 ·let(x,n,l,t,U,hw,_):=h;exact([x],(_,U,hw.adr),trivial)
theorem wN(T:Txt K mg a):aR P w K mg base (CX1 P w) 7 a.iO a.qO ["words","word"] (spG K [0] [0] (Nc a.ai a.aU)):=by
 refine T.iU.F.okG mZ (λts Q W h=>?_) (by decide) (λ_ h=>h) (λ_ _ _ _ _ _ hr=>?_) λts Q W h=>?_
 ·let(_,_,_,_,_,_,U,_):=h;rfl
 ·have hu:=bg hr;refine(_,_,((ag (fO (gN hu (qv 1) (QPF.w aw))
 (aI (ni (ig (y7 T) hr.aP U T.jT.m T.jT.F.kp T.jT.b (pv 0) cb)))
 (d8 bh))
 (ag (fO (QPW.pt (pz (cS iK fK (bH _) (qv 1) (QPF.w aw)) (nh (cS iK fK (bH _) (qv 1) (QPF.w aw)))))
 (aI (hJ U U T.ib T.hW T.hV (gm T) hr.aP U T.hU T.ia (ae (eR (kM T.aj T.bD (aL (j:=0)))) aC)))
 (d8 bh))
 (ag (cC (i:=2) mZ.nd (cm T.aj T.jJ (jG T) hr.aP T.ke (aL (j:=0))))
 (ag (cT (fj T.aj T.aS (bF T) hr.aP T.aX (aL (j:=0)) (ae (QPF.w aw) aC)))
 (aI (aY (dG (cM (af (QPE.f (qv 1)) (af (QPE.f (qv 2)) aF))))))))))),λts Q W as h ha=>?_)
  let(word,ak,x,n,l,t,U,hw,hq,hx):=h;obtain rfl:=as1 ha hw.adr;have ah:=hw;have kn:∀{l0:List Str},dW word l0=Y ->(dW word l0).map tH=none:=λe=>by rw[e];rfl
  cases hw with
  | mk ws p h1 h2 h3 =>
   refine(U,a5 (λh=>?_) (λh=>?_))
   ·have h:word = "let":=V.str.inj (of_decide_eq_true h)
    refine((_,U),_,U,λ_=>(x,n,l,_,U,ah,λr l1 e t1 g=>?_,λe=>hx ?_))
    ·let(z,e1,e2):=j3.mp e;cases e2;exact((CH e1).1,[_],(U,g.adr,trivial),hq _ _ (by unfold dW;rw[if_pos h,e1];rfl) _ g)
    ·unfold dW;rw[if_pos h];exact e
   ·have h:¬ word = "let":=λz=>h (by rw[z];exact decide_eq_true U)
    dsimp only[LD];refine RX (w:=word) ?_ ?_
    ·rfl
    by_cases hm:word = "pay" \/ word = "get"
    ·rw[Qj hm];refine(U,U,U,_,U,x,n,l,_,U,ah,λr l1 e t1 g=>?_,λe=>hx (kn (by unfold dW;rw[if_neg h,if_pos hm,if_neg (zK e)])))
     let(hb,e1,e2):=zJ e;subst e1 e2;have pS:=g;cases g with
     | mk ws p h1 h2 h3 =>
      refine(U,U,U,U,_,U,";",by decide,x,n,_,_,U,pS,λr l4 e6 t4 q=>?_,λe6=>hx (kn ?_))
      ·let(_,e7,e8):=dA e6;subst e7;exact(U,U,U,[_],(U,q.adr,trivial),hq _ _ (by unfold dW;rw[if_neg h,if_pos hm,if_pos hb,e6];rfl) _ q)
      ·unfold dW;rw[if_neg h,if_pos hm,if_pos hb,e6];rfl
    ·rw[Qi hm];exact(U,_,U,U,U,(by show 1<=1000;decide),hx (kn (by unfold dW;rw[if_neg h,if_neg hm])))
 ·let(word,_,x,n,l,t,U,hw,_):=h;exact([x],(_,U,hw.adr),trivial)
theorem uV(T:Txt K mg a):aR P w K mg base (CX1 P w) 7 a.gU a.nY ["words","cases","body"] (spG K [0,1] [0,1] (JY a.aA a.ai a.aU)):=by
 refine T.gZ.F.okG lU (λts Q W h=>?_) (by decide) (λ_ h=>h) (λ_ _ _ _ _ _ hr=>?_) λts Q W h=>?_
 ·let(_,_,_,_,_,_,_,_,U,_):=h;rfl
 ·have hu:=bg hr;refine(_,_,((ag (g9 PassesOwn.leaving (bE (qvp 1))
 (ag (aY (Ge T.bu T.jK (jH T) hr.aP T.kg (Gg (n:=-1) (aL (j:=1)) (Cg vY bS) (λ_ _ _ h=>(1,U,h))) (ae (qv 2) aC)))
 (ag (fO (gN hu (QPF.w (dy T.aj T.bY (bX T) hr.aP T.ck (eR (aL (j:=0))))) (QPF.w aw))
 (ag (cT (fj T.aj T.aS (bF T) hr.aP T.aX (aL (j:=0)) (ae (QPF.w aw) aC)))
 (ag (cT (yw (by decide) T.bu T.gc (gb T) hr.aP T.gA (Gg (n:=-1) (aL (j:=1)) (Cg vY bS) (λ_ _ _ h=>(1,U,h))) (pv 0)))
 (aI (aY (dG Gk)))))
 (d8 bh))
 (ag (cT (fj T.aj T.aS (bF T) hr.aP T.aX (aL (j:=0)) (ae (QPF.w aw) aC)))
 (aI (cC (i:=2) lU.nd (JG (k:=1) T.bu T.nK (nI T) hr.aP T.pX (pv 1))))))))
 (aI (aY (dG (QPE.f (qv 2))))))),λts Q W as h ha=>?_)
  let(x,n,l,t,y,cs,xs,b,U,hw,aG,hok,hb,hl,hq,a4,hx):=h;obtain rfl:=as2 ha hw.adr U;refine(λc q=>∃(ak:List Oc)(g:List L2.T)(b':L2.T)(o2:Sl)(l':List Str)(t':L2.T),q = [.o t',.o (.lp y g),o2]/\(o2 = .r b'\/o2 = .o b')/\Rw a.ai x n l' t'/\OcL a.aA ak g/\(∀ c∈ak,p6 c)/\b'.im=O/\wts ak+l'.length<=900000/\bV cs b l=bV ak b' l'/\c=ak.length,(_,cs,xs,b,_,l,t,U,.inl U,hw,aG,hok,hb,hl,U,U),?_)
  rintro c q ⟨ak,g,b',o2,l',t',rfl,ho,hw,aG,hok,hb,hl,hf,rfl⟩
  rw[hf]at hq a4 hx;cases aG with
  | nil =>
   rcases ho with rfl|rfl
   ·exact(hb,[_,_],(U,hw.adr,U,U,trivial),hq _ _ U _ hw)
   ·exact(hb,[_,_],(U,hw.adr,U,U,trivial),hq _ _ U _ hw)
  | @cons c ak g x0 aG =>
   have ok:=hok c dZ;rw[i9]at hl;have bo:L2.T.ims [b']=true:=by show(b'.im&&O)=O;rw[hb];rfl
   refine a5 (λ_=>?_) (λz=>absurd (by simp) z)
   refine(λq=>∃(ax:List Oc)(aH:List L2.T)(b2:L2.T)(o2:Sl)(l2:List Str)(t2:L2.T),q = [.o t2,.o (.lp y aH),o2]/\(o2 = .r b2\/o2 = .o b2)/\Rw a.ai x n l2 t2/\OcL a.aA ax aH/\(∀ c∈ax,p6 c)/\b2.im=O/\wts ax+l2.length<=900000/\bV cs b l=bV ax b2 l2/\ax.length<(c::ak).length,?_,?_)
   ·rintro q ⟨ax,aH,b2,o2,l2,t2,rfl,g1,g2,g3,g4,g5,g6,g7,g8⟩
    exact(_,g8,ax,aH,b2,o2,l2,t2,U,g1,g2,g3,g4,g5,g6,g7,U)
   refine(g.length,_,(lJ _ _).1,(lJ _ _).2,U,U,?_);have arg:∀{Q:List L2.T->Prop},Q [b']->Gx (lN 2) MO [.o t',.o (.lp y (g ++ [c.t a.aA x0])),o2] Q:=λz=>by
    rcases ho with rfl|rfl
    ·exact z
    ·exact z
   refine arg (bo,x0,c.hts,c.lk,c.arms,c.ah,b',U,ok.i,hb,(by omega,ok.l),U,U,_,U,?_)
   rw[show(([]:Way) ++ [Sum.inr g.length]) = [.inr g.length]from U,GD];have aK:=ok.fed hb;have a0:=hw;cases hw with
   | mk ws p h1 h2 h3 =>
    refine(U,U,x,n,l',_,U,a0,U,a5 (λh=>?_) (λh=>?_))
    ·have h:hd l' = "|":=V.str.inj (of_decide_eq_true h)
     refine(U,U,U,_,U,"|",by decide,x,n,l',_,U,a0,λr l2 e t2 aM=>?_,λe=>absurd h (hX e))
     let(_,e1,e2):=dA e;subst e1 e2;have xk:=aM;cases aM with
     | mk ws p h1 h2 h3 =>
      refine(U,g.length,_,(lJ _ _).1,(lJ _ _).2,U,U,_,U,_,U,λ_=>(x0,c.hts,c.lk,(c.fed b').arms,c.ah,x,n,_,_,U,xk,λa7 l3 e3 t3 a3=>?_,λe3=>hx (by rw[bV,if_pos h,e3])))
      exact(U,[t3,.lp y (g ++ [oT a.aA x0 c.hts c.lk (c.fed b').arms a7])],(U,a3.adr,congrArg (λz=>Z (Sl.o z)) GD,U,trivial),a4 _ _ (by rw[bV,if_pos h,e3]) _ _ a3 (.cons (c:={ c.fed b' with ah:=a7 }) aG))
    ·have h:¬ hd l' = "|":=λz=>h (by rw[z];exact decide_eq_true U)
     refine(U,U,U,_,U,"end",by decide,x,n,l',_,U,a0,λr l2 e t2 aM=>?_,λe=>hx (by rw[bV,if_neg h,if_neg (hX e)]))
     let(he,e1,e2):=dA e;subst e1 e2;refine(U,y,g,x0,_,_,U,U,x0,c.hts,c.lk,(c.fed b').arms,c.ah,U,aK.h,aK.a,by omega,aK.whole,?_)
     exact(ak,g,(c.fed b').whole,_,l'.tail,t2,U,.inr U,aM,aG,λc hc=>hok c (c5 _ hc),aK.whole,by rw[wh];omega,by rw[hf,bV,if_neg h,if_pos he],by simp)
 ·let(x,n,l,t,y,cs,xs,b,U,hw,_):=h;exact([x,y],(_,U,hw.adr),(_,U,U),trivial)
theorem wO(T:Txt K mg a):aR P w K mg base (CX1 P w) 8 a.iP a.qP ["words"] (spG K [0] [0] (JZ a.ai a.aU)):=by
 refine T.iV.F.okG df (λts Q W h=>?_) (by decide) (λ_ h=>h) (λ_ _ _ _ _ _ hr=>?_) λts Q W h=>?_
 ·let(_,_,_,_,U,_):=h;rfl
 ·have hu:=bg hr;refine(_,_,((ag (aY (a8 1 df.nd (aN aF)))
 (ag (aY (a8 2 df.nd (aN aF)))
 (aI (g9 PassesOwn.leaving (bE (QPF.w sY))
 (ag (cC (i:=3) df.nd (sW (jf T.aj T.cX (cW T) hr.aP T.dw (aL (j:=0)))))
 (aI (fO (gN hu (qv 3) (QPF.w aw))
 (ag (DN (i:=2) (k:=1) (by decide) T.zm (pM T) hr.aP U T.zj T.rK (pv 1) (pv 2) (cx (cm T.aj T.aH (bc T) hr.aP T.aK (aL (j:=0))) cb))
 (ag (cT (yw (by decide) T.bu T.gc (gb T) hr.aP T.gA (Py (n:=-1) (aL (j:=1)) (Cg vY bS) (λ_ _ _ h=>(1,U,h))) (pv 0)))
 (aI (aY (a8 2 df.nd (aN aF))))))
 (aI (fO (gN hu (qv 3) (QPF.w aw))
 (ag (cC (i:=4) df.nd (Gj (by decide) (uV T) hr.aP U T.gZ.m T.gZ.F.kp T.gZ.b (pv 0) (pv 1) (cx (DO (kU T) hr.aP U T.fg.m T.fg.F.kp T.fg.b (pv 2) (cx (kN (cx (f9 (QPF.w aw)) (cx (cm T.aj T.aH (bc T) hr.aP T.aK (aL (j:=0))) cb))) cb)) cb)))
 (ag (aY (fC (cS Ke FF (bH _) (qv 4) (QPF.w Gk))
 (az (dG (QPE.f (qv 4))))
 bh))
 (aI (aY (a8 2 df.nd (aN aF))))))
 (aI (iG (i:=2) (pv 2) (ig (wN T) hr.aP U T.iU.m T.iU.F.kp T.iU.b (pv 0) (cx (f9 (qv 3)) cb)))))))))))))),λts Q W as h ha=>?_)
  let(x,n,l,t,U,hw,hl,hq,hx):=h;obtain rfl:=as1 ha hw.adr;refine(λc q=>∃(cs:List Oc)(hts:List (List L2.T))(l':List Str)(t':L2.T)(xs:List L2.T)(o3 o4:Sl),q = [.o t',.o (.l xs),.o (.l (hts.map .t)),o3,o4]/\Rw a.ai x n l' t'/\OcL a.aA cs xs/\(∀ c∈cs,p6 c)/\ET hts/\wts cs+hts.length+l'.length<=900000/\(∀ o,Run (cs,hts,l') o->Run ([],[],l) o)/\c=l'.length,(_,[],[],l,t,_,_,_,U,hw,.nil,(λ_ z=>nomatch z),(λ_ z=>nomatch z),by simpa [wts]using hl,λ_ h=>h,U),?_)
  rintro c q ⟨cs,hts,l',t',xs,o3,o4,rfl,hw,a0,hok,aX,hl,hf,rfl⟩
  have a4:=hw;cases hw with
  | mk ws p h1 h2 h3 =>
   have len0:∀{w:Str},hd l'=w->w ≠ "" -> 0<l'.length:=λ{w} h1 h2=>by
    cases l' with
    | nil=>exact absurd h1.symm h2
    | cons _ _=>exact Nat.succ_pos _
   refine(λq=>∃(ak:List Oc)(Em:List (List L2.T))(l2:List Str)(t2:L2.T)(aS:List L2.T)(o3 o4:Sl),q = [.o t2,.o (.l aS),.o (.l (Em.map .t)),o3,o4]/\Rw a.ai x n l2 t2/\OcL a.aA ak aS/\(∀ c∈ak,p6 c)/\ET Em/\wts ak+Em.length+l2.length<=900000/\(∀ o,Run (ak,Em,l2) o->Run ([],[],l) o)/\l2.length<l'.length,?_,?_)
   ·rintro q ⟨ak,Em,l2,t2,aS,o3,o4,rfl,g1,g2,g3,g4,g5,g6,g7⟩
    exact(_,g7,ak,Em,l2,t2,aS,o3,o4,U,g1,g2,g3,g4,g5,g6,U)
   refine(U,U,U,x,n,l',_,U,a4,λt1 a3=>(a3.adr,U,_,U,?_))
   have bad:iD (cs,hts,l') = .bad->W a.aU ["row"] [.i n]:=λh=>hx (hf _ (.bad h))
   have pS:=a3;cases a3 with
   | mk ws p h1 h2 h3 =>
    refine(U,a5 (λh=>?_) (λh=>?_))
    ·have h:hd l' = "case":=V.str.inj (of_decide_eq_true h)
     have l0:=len0 h (by decide)
     refine((_,U),(_,U),U,U,U,_,U,x,n,_,_,U,pS,λr l2 e t2 ax=>?_,λe=>bad (by unfold iD;rw[if_pos h,if_neg (b7 e)]))
     let(hb,e1,e2):=b6 e;subst e1 e2;refine(U,U,_,U,_,U,aD (by rw[a0.len];have:=Cs cs;omega),λx9=>(x9,hts,hd l'.tail,U,U,?_))
     have xk:=ax;cases ax with
     | mk ws p h1 h2 h3 =>
      refine(xs.length,_,(lJ _ _).1,(lJ _ _).2,U,U,_,U,_,U,λ_=>(x9,hts,hd l'.tail,[],[],x,n,_,_,U,xk,λah l3 e3 t3 aG=>(U,?_),λe3=>bad (by unfold iD;rw[if_pos h,if_pos hb,e3])))
      let(g1,g2,g3):=CJ e3;simp only[wh]at g1;refine((hts,hd l'.tail,[],ah)::cs,[],l3,t3,xs ++ [oT a.aA x9 hts (hd l'.tail) [] ah],.o (.s (hd l')),o4,?_,aG,.cons a0,λc hc=>?_,(λ_ z=>nomatch z),?_,λo ho=>hf o (.on (by unfold iD;rw[if_pos h,if_pos hb,e3]) ho),by omega)
      ·show [Sl.o t3,Sl.o (L2.T.put _ [.inr xs.length] (.l (xs ++ [_]))),Sl.o (.l []),Sl.o (.s (hd l')),o4]=_;rw[MY];rfl
      ·rcases i8.mp hc with z|z
       ·rw[z];exact(aX,U,g2,g3)
       ·exact hok c z
      ·rw[i9];show 0+hts.length+1+wts cs+0+l3.length<=900000;omega
    ·have hc:¬ hd l' = "case":=λz=>h (by rw[z];exact decide_eq_true U)
     clear h;refine(U,a5 (λh=>?_) (λh=>?_))
     ·have h:hd l' = "give":=V.str.inj (of_decide_eq_true h);have l0:=len0 h (by decide)
      refine((_,U),(_,U),(_,U),U,U,U,U,U,_,U,x,n,_,_,U,pS,λr l2 e t2 ax=>?_,λe=>bad (by unfold iD;rw[if_neg hc,if_pos h,if_neg (b7 e)]))
      let(hb,e1,e2):=b6 e;subst e1 e2;have aM:(dO hts (.t [.s "give",.s (hd l'.tail)])).im=true:=yd aX U;refine(U,U,rV (aD (by simp)),U,_,U,hts,_,U,aX,U,by omega,aM,aM,?_)
      let(zs,ez):=vh (hts:=hts) (ys:=[.s "give",.s (hd l'.tail)]);have xk:=ax;cases ax with
      | mk ws p h1 h2 h3 =>
       have wl:wts cs+l'.tail.tail.length<=900000:=by simp only[wh];omega
       refine(_,U,_,U,λa1 b1=>(x,n,_,_,b1,cs,xs,_,U,xk,a0,hok,aM,wl,λb' l3 e3 t3 aG=>?_,λak l3 e3 t3 bo aG SV=>?_,λe3=>bad (by unfold iD;rw[if_neg hc,if_pos h,if_pos hb,e3];rfl)))
       ·let(g1,g2):=uq e3 hok aM;have a7:=e3;rw[ez]at a7;let(ys,U):=uo a7;simp only[wh]at g2;have hr:=hf _ (.fin (by unfold iD;rw[if_neg hc,if_pos h,if_pos hb,e3];rfl))
        exact(g1,g1,[_],(U,aG.adr,trivial),hq _ _ hr g1 _ aG)
       ·let(g1,g2,g3):=vH e3 hok aM;simp only[wh]at g2 g3;exact(U,ak,[],l3,t3,bo,_,_,U,aG,SV,g1,(λ_ z=>nomatch z),by show _+0+_<=_;omega,λo ho=>hf o (.on (by unfold iD;rw[if_neg hc,if_pos h,if_pos hb,e3];rfl) ho),by omega)
     ·have hg:¬ hd l' = "give":=λz=>h (by rw[z];exact decide_eq_true U)
      clear h;refine((_,U),(_,U),U,U,_,U,λ_=>(hd l',a4.hd,x,n,l'.tail,_,U,pS,λr l2 e t2 ax=>?_,λe=>bad (by rw[QH]at e;unfold iD;rw[if_neg hc,if_neg hg,e])))
      let((g,l3),e1,e2):=j3.mp e;cases e2;let(g1,g2):=HJ e1;let(g3,g4):=Ew e1;have l0:=len0 U g3;simp only[wh]at g4;refine(g1,_,U,aD (by rw[gV];omega),cs,hts ++ [g],l3,t2,xs,.o (.s (hd l')),o4,by rw[tx];rfl,ax,a0,hok,λk hk=>?_,by rw[px];show _+(_+1)+_<=_;omega,λo ho=>hf o (.on (by unfold iD;rw[if_neg hc,if_neg hg,e1]) ho),by omega)
      rcases j1.mp hk with z|z
      ·exact aX k z
      ·rw[bB.mp z];exact(g1,g2)
 ·let(x,n,l,t,U,hw,_):=h;exact([x],(_,U,hw.adr),trivial)
theorem pK(T:Txt K mg a):aR P w K mg base (CX1 P w) 9 a.fm a.jY ["words"] (spG K [0] [0] (Ng a.ai a.aU)):=by
 refine T.fw.F.okG cg (λts Q W h=>?_) (by decide) (λ_ h=>h) (λ_ _ _ _ _ _ hr=>?_) λts Q W h=>?_
 ·let(_,_,_,_,U,_):=h;rfl
 ·have hu:=bg hr;refine(_,_,((ag (cT (fj T.aj T.aS (bF T) hr.aP T.aX (aL (j:=0)) (ae (QPF.w aw) aC)))
 (ag (cC (i:=1) cg.nd (cm T.aj T.aH (bc T) hr.aP T.aK (aL (j:=0))))
 (ag (aY (a8 2 cg.nd (aN aF)))
 (ag (g9 PassesOwn.leaving (cS iK fK (bH _) (QPF.w (dy T.aj T.bY (bX T) hr.aP T.ck (eR (aL (j:=0))))) (QPF.w aw))
 (ag (cC (i:=3) cg.nd (cm T.aj T.aH (bc T) hr.aP T.aK (aL (j:=0))))
 (aI (iG (i:=2) (pv 2) (kN (cx (f9 (qv 3)) (cx (cm T.aj T.aH (bc T) hr.aP T.aK (aL (j:=0))) cb)))))))
 (ag (cT (fj T.aj T.aS (bF T) hr.aP T.aX (aL (j:=0)) (ae (QPF.w aw) aC)))
 (ag (cC (i:=4) cg.nd (cm T.aj T.aH (bc T) hr.aP T.aK (aL (j:=0))))
 (ag (cT (fj T.aj T.aS (bF T) hr.aP T.aX (aL (j:=0)) (ae (QPF.w aw) aC)))
 (ag (cC (i:=5) cg.nd (ig (wO T) hr.aP U T.iV.m T.iV.F.kp T.iV.b (pv 0) cb))
 (ag (cT (cm T.aj T.mF (mB T) hr.aP T.ou (aL (j:=0))))
 (aI (aY (dG (cM (af (QPE.f (qv 1)) (af (aW (cj U) cf (by rfl) T.dm (by kernel_rfl) (ae (qv 2) aC)) (af (QPE.f (qv 4)) (af (QPE.f (qv 5)) aF)))))))))))))))))),λts Q W as h ha=>?_)
  let(x,n,l,t,U,hw,hl,hq,hx):=h;obtain rfl:=as1 ha hw.adr;have bad:fHd l=Y->W a.aU ["row"] [.i n]:=λh=>hx (.Ry h)
  have ak:=hw;cases hw with
  | mk ws p h1 h2 h3 =>
   refine(U,U,U,_,U,"def",by decide,x,n,l,_,U,ak,λr l1 e t1 a7=>?_,λe=>bad (by unfold fHd;rw[if_neg (hX e)]))
   let(hk,e1,e2):=dA e;subst e1 e2;have pS:=a7;cases a7 with
   | mk ws p h1 h2 h3 =>
    refine(U,U,U,U,_,U,x,n,_,_,U,pS,λr l1 e2 t2 bt=>?_,λe2=>bad (by unfold fHd;rw[if_pos hk,if_neg (b7 e2)]))
    let(hb,e3,e4):=b6 e2;subst e3 e4;refine(U,?_);refine(λc q=>∃(L:List (Str×Str))(l':List Str)(t':L2.T)(NN:List L2.T)(o3:Sl),q = [.o t',.o (.s (hd l.tail)),.o (.l NN),o3,.no,.no]/\NN =(L.map λp=>.t [.s p.1,.s p.2])/\Rw a.ai x n l' t'/\c=l'.length/\(fParams l.tail.tail =(fParams l').map λz=>(L++z.1,z.2))/\L.length+l'.length<=l.length,(_,[],l.tail.tail,t2,_,_,U,U,bt,U,by cases fParams l.tail.tail <;> rfl,by simp only[wh,T2];omega),?_)
    rintro c q ⟨L,l',t',NN,o3,rfl,rfl,hw,rfl,hf,hn⟩
    have ak:=hw;cases hw with
    | mk ws p h1 h2 h3 =>
     refine(U,U,x,n,l',_,U,ak,U,a5 (λh=>?_) (λh=>?_))
     ·have h:=fR h;have Ru:fParams l'=Y->W a.aU ["row"] [.i n]:=λe=>bad (by unfold fHd;rw[if_pos hk,if_pos hb,hf,e];rfl)
      refine(λq'=>∃(L:List (Str×Str))(l2:List Str)(t':L2.T)(NN:List L2.T)(o3:Sl),q' = [.o t',.o (.s (hd l.tail)),.o (.l NN),o3,.no,.no]/\NN =(L.map λp=>.t [.s p.1,.s p.2])/\Rw a.ai x n l2 t'/\l2.length<l'.length/\(fParams l.tail.tail =(fParams l2).map λz=>(L++z.1,z.2))/\L.length+l2.length<=l.length,?_,?_)
      ·rintro q' ⟨L,l2,t',NN,o3,rfl,rfl,g1,g2,g3,g4⟩
       exact(_,g2,L,l2,t',_,o3,U,U,g1,U,g3,g4)
      ·refine(U,U,U,_,U,x,n,l',_,U,ak,λr l2 e t3 ah=>?_,λe=>Ru ?_)
       ·let(g,e5,V):=b6 e;let(w1,l7,U):=wX g;have V:l7=l2:=V.symm;subst e5 V;have aG:w1 ≠ "to":=h;have Rg:ay w1=true:=g;have El:=ah;cases ah with
        | mk ws p h1 h2 h3 =>
         refine(U,(_,U),U,U,U,U,U,_,U,x,n,l7,_,U,El,λr l8 e t4 ax=>?_,λe=>Ru ?_)
         ·let(aA,e5,V):=b6 e;let(w2,l9,U):=wX aA;have V:l9=l8:=V.symm;subst e5 V;have Ot:ay w2=true:=aA;have hn:L.length+(l9.length+2)<=l.length:=hn;refine(U,U,rV (aD (by simp)),_,U,aD (by rw[gV];omega),L ++ [(w1,w2)],l9,t4,_,_,U,by rw[tx];rfl,ax,by show l9.length<l9.length+1+1;omega,?_,by rw[px];show L.length+1+l9.length<=_;omega)
          rw[hf,fParams,if_neg aG,if_pos Rg,if_pos Ot];cases fParams l9 <;> simp
         ·have aA:=b7 e;cases l7 with
          | nil=>rw[fParams,if_neg aG]
          | cons w2 l9 =>
           have Ot:¬ ay w2=true:=aA;rw[fParams,if_neg aG,if_pos Rg,if_neg Ot]
       ·have g:=b7 e
        match l',h,g with
        | [],_,_=>rfl
        | [w1],h,g =>
         have h:w1 ≠ "to":=h;rw[fParams,if_neg h]
        | w1::w2::l9,h,g =>
         have h:w1 ≠ "to":=h;have g:¬ ay w1=true:=g;rw[fParams,if_neg h,if_neg g]
     ·have h:=zM h;have e0:fParams l'=Z ([],l'.tail):=by
       match l',h with
       | [],h=>exact absurd h.symm (by decide)
       | [w1],h =>
        have h:w1 = "to":=h;rw[fParams,if_pos h];rfl
       | w1::w2::l9,h =>
        have h:w1 = "to":=h;rw[fParams,if_pos h];rfl
      have ef:fParams l.tail.tail=Z (L,l'.tail):=by rw[hf,e0];simp
      refine(U,U,U,_,U,"to",by decide,x,n,l',_,U,ak,λr l2 e t3 ah=>?_,λe=>absurd h (hX e))
      let(_,e5,V):=dA e;subst e5 V;have El:=ah;cases ah with
      | mk ws p h1 h2 h3 =>
       refine(U,U,U,U,_,U,x,n,_,_,U,El,λr l2 e t4 ax=>?_,λe=>bad (by unfold fHd;rw[if_pos hk,if_pos hb,ef];dsimp only;rw[if_neg (b7 e)]))
       let(bo,e5,V):=b6 e;subst e5 V;have Ol:=ax;cases ax with
       | mk ws p h1 h2 h3 =>
        refine(U,U,U,U,_,U,":",by decide,x,n,_,_,U,Ol,λr l2 e t5 a4=>?_,λe=>bad (by unfold fHd;rw[if_pos hk,if_pos hb,ef];dsimp only;rw[if_pos bo,if_neg (hX e)]))
        let(bu,e5,V):=dA e;subst e5 V;have eh:fHd l=Z ((hd l.tail,L,hd l'.tail),l'.tail.tail.tail):=by unfold fHd;rw[if_pos hk,if_pos hb,ef];dsimp only;rw[if_pos bo,if_pos bu]
        have SG:=a4;cases a4 with
        | mk ws p h1 h2 h3 =>
         refine(U,(_,U),_,U,λ_=>(x,n,_,_,U,SG,by simp only[wh];omega,λb l6 hr aM t6 a3=>?_,λhr=>hx (.Rx eh hr)))
         have SE:=a3;cases a3 with
         | mk ws p h1 h2 h3 =>
          refine(aM,U,U,U,_,U,x,n,_,_,U,SE,λr l7 e t7 a0=>?_,λe=>hx (.Rv eh hr ?_))
          ·unfold K8 at e
           split at e
           ·rename_i em;have el:l6 = []:=UG.mp em;subst el;cases e;refine(U,U,pR L,U,aM,[_],(U,a0.adr,trivial),hq _ (.ok eh hr) ?_ _ a0);show(O&&(L2.T.ims (L.map λp=>L2.T.t [.s p.1,.s p.2])&&(O&&(b.im&&O))))=O
            rw[pR,aM];rfl
           ·cases e
          ·unfold K8 at e
           split at e
           ·cases e
           ·rename_i em;exact Pb.mpr em
 ·let(x,n,l,t,U,hw,_):=h;exact([x],(_,U,hw.adr),trivial)
theorem Kl(T:Txt K mg a):aR P w K mg base (CX1 P w) 12 a.ua a.Bv ["text"] (Ji K (JS a.aU)):=by
 refine T.BM.F.Qe jt (λts Q W h=>?_) (λ_ _ _ _ _ _ hr=>?_)
 ·let(_,U,_):=h;rfl
 ·have hu:=bg hr;refine(_,_,((ag (aY (a8 1 jt.nd (aN aF)))
 (ag (aY (a8 2 jt.nd (aN aF)))
 (ag (aY (a8 3 jt.nd (Lz (cS iK fK (bH _) (qv 0) (QPF.w aw)) (yy (qv 0) (QPF.w aw)) (aN aF))))
 (ag (wm (g:=(Tg.tp [4,5])) PassesOwn.leaving U (Gh (i:=3) U T.qT (by kernel_rfl) (pv 3)) (AX (gR 4 jt.nd) (gR 5 jt.nd))
 (ag (aY (a8 6 jt.nd (Gm T.zk (pL T) hr.aP U T.zi T.rJ (ae (qv 5) (ae (qv 4) aC)))))
 (aI (fO (QPW.pt (pz (gN hu (QPF.w (dy T.aj T.bY (bX T) hr.aP T.ck (eR (aL (j:=6))))) (QPF.w aw)) (nh (kL (bE (qv 2))))))
 (aI (iG (i:=1) (pv 1) (ig (wM T) hr.aP U T.iT.m T.iT.F.kp T.iT.b (pv 6) cb)))
 (aI (iG (i:=2) (pv 2) (ig (pK T) hr.aP U T.fw.m T.fw.F.kp T.fw.b (pv 6) cb)))))))
 (aI (aY (bp (cM (af (aW (cj U) cf (by rfl) T.dm (by kernel_rfl) (ae (qv 1) aC)) (af (aW (cj U) cf (by rfl) T.dm (by kernel_rfl) (ae (qv 2) aC)) aF))))))))))),λts Q W h=>?_)
  let(text,U,hl,hq,hx):=h;refine(U,a5 (λh=>?_) (λh=>?_))
  ·have h:text ≠ "":=fR h;have er:rowsOf text=Txt.split text ⟨#[10]⟩:=if_neg h;rw[er]at hq hx;have sl:=split_len text 10;have rl:∀ row∈Txt.split text ⟨#[10]⟩,row.length<=text.length:=λrow hr=>split_le hr
   refine(10,U,aD (by omega),?_)
   generalize Txt.split text ⟨#[10]⟩=rows at *
   refine(λi q=>∃(ks:List Kd)(fs KS:List L2.T)(o4 o5 o6:Sl),q = [.r (.s text),.o (.l KS),.o (.l fs),.r (.l (rows.map .s)),o4,o5,o6]/\KS=ks.map tK/\L2.T.ims fs=O/\(∀ o,jn i ks fs (rows.drop i) o->jn 0 [] [] rows o)/\ks.length<=i/\fs.length<=i,([],[],_,_,_,_,U,U,U,λ_ h=>h,Fq _,Fq _),λi z q hz hi=>?_,λq hi=>?_)
   ·let(ks,fs,KS,o4,o5,o6,U,U,V,hf,k1,k2):=hi;let(u,ai,U):=nU hz;rw[qx]at ai;let(row,Om,U):=j3.mp ai;have il:=(j2.mp Om).1;have ed:rows.drop i=row::rows.drop (i+1):=(List.drop_eq_getElem_cons il).trans (by rw[(j2.mp Om).2])
    have aA:=rl row (u3 Om);rw[ed]at hf;refine(_,U,?_);refine λx9=>(x9,row,i,U,by omega,λt hw=>(U,hw.adr,?_))
    have ah:=hw;have wl:=hw.len;have sw:=split_len row 32;have sw:(Txt.split row " ").length<=row.length+2:=sw;cases hw with
    | mk ws p g1 g2 g3 =>
     refine(U,U,x9,i,_,_,U,ah,U,?_);refine RV (fs:=fs) ?_ (λhc=>?_) (λhc=>?_)
     ·rfl
     ·let(hk,U):=hc;refine((_,U),(_,U),_,U,λ_=>(x9,i,_,_,U,ah,λr l1 e t1 ax=>?_,λe=>hx i (hf _ (.Hn hk (by rwa [QH]at e)))))
      let((k,l2),e1,e2):=j3.mp e;cases e2;exact(zC k,_,U,aD (by rw[gV];omega),ks ++ [k],[],_,_,_,_,U,by rw[tx];rfl,U,λo ho=>hf o (.kind hk e1 ho),by simp;omega,Fq _)
     ·refine((_,U),(_,U),_,U,λ_=>(x9,i,_,_,U,ah,by omega,λr hr ak t1 ax=>?_,λhr=>hx i (hf _ (.fnX hc hr))))
      refine(ak,_,U,aD (by omega),ks,fs ++ [r],_,_,_,_,U,U,?_,λo ho=>hf o (.fn hc hr ho),by omega,by simp;omega)
      rw[dh,V];show(O&&(r.im&&O))=O;rw[ak];rfl
   ·let(ks,fs,KS,o4,o5,o6,U,U,V,hf,k1,k2):=hi;refine(cG zC ks,V,hq _ (hf _ ?_) ?_)
    ·rw[hZ,gV,List.drop_length];exact .nil
    ·show(L2.T.ims (ks.map tK)&&(L2.T.ims fs&&O))=O;rw[cG zC,V];rfl
  ·have h:text = "":=zM h;subst h;refine(λi q=>i=0/\∃ o4 o5 o6,q = [.r (.s ""),.o (.l []),.o (.l []),.r (.l []),o4,o5,o6],(U,_,_,_,U),λi z q hz hi=>?_,λq hi=>?_)
   ·rw[hi.1]at hz;cases hz
   ·let(_,o4,o5,o6,U):=hi;exact(U,U,hq _ .nil U)
theorem pJ(T:Txt K mg a):aR P w K mg base CX0 1 a.fk a.jX ["piece"] (spQ K M1):=by
 refine T.j7.F.okQ d6 (λts Q h=>?_) (λ_ _ _ _ _ _ hr=>?_)
 ·let(_,_,U,_):=h;rfl
 ·have hu:=bg hr;refine(_,_,((av (a8 1 d6.nd (aN (af aw (af (QPE.f (a6 (qv 0) ar)) aF))))
 (av (iZ (g:=(Tg.tp [2,3])) PassesOwn.never U (JE U T.qT (by kernel_rfl) (ae (a6 (qv 0) ar) aC)) (AX (gR 2 d6.nd) (gR 3 d6.nd))
 (av (fC (Gb (qv 2) ar)
 (az (cU (i:=1) (pv 1) aw))
 bh)
 (av (cU (i:=1) (pv 1) (QPE.f (a6 (qv 3) ar)))
 (av (JB (i:=1) (pv 1) (a6 (qv 3) ar))
 (az (fD (i:=1) (pv 1) (aN (af aw (af (QPE.f (a6 (qv 3) ar)) aF)))))))))
 (av (cU (i:=1) (pv 1) aw)
 (az (sf (i:=1) (pv 1))))))),λts Q h=>?_)
  let(x,as,U,hok,hl,hq):=h;have hl:4+as.wt<=100000:=hl;have ax:(Bd.cas x as).t = .t [.s "case",.s x,.t (as.ls.map EO)]:=by rw[<- vj];rfl
  have ak:=vX as;rw[Fe]at ak;have eq:(unf (.cas x as)).map Th.t = .s "case" :: .s x ::(((as.ls.flatMap mO).tail.map Th.t) ++ [.s "end"]):=by
   rw[<- Fe];show L2.T.s "case" :: .s x ::(as.th.tail ++ [Th.wd "end"]).map Th.t=_
   rw[tx];rfl
  rw[eq]at hq;rw[ax]
  generalize as.ls=ls at *
  have ah:∀ i,((ls.take i).flatMap mO).tail.length<=100000:=λi=>by
   have h1:((ls.take i).flatMap mO).length <=(ls.flatMap mO).length:=by
    conv=>rhs;rw[<- List.take_append_drop i ls,TX,px]
    omega
   have h2:=nN (ls.flatMap mO);rw[wh];omega
  refine(_,U,U,_,U,?_);refine(cG C0 ls,λi q=>∃(TT:List L2.T)(o2 o3:Sl),q = [.r (.t [.s "case",.s x,.t (ls.map EO)]),.o (.l TT),o2,o3]/\TT = .s "case" :: .s x ::((ls.take i).flatMap mO).tail.map Th.t,(_,_,_,U,U),λi z q hz hi=>?_,λq hi=>?_)
  ·let(TT,o2,o3,U,U):=hi;let(u,ai,U):=nU hz;rw[qx]at ai;let(z,aj,U):=j3.mp ai;have b0:=ah i;have b1:=ah (i+1);have tt:=Du (f:=mO) aj λ_=>xU _ _
   rw[tt]at b1;refine(_,U,?_);have hlen:∀ hs:List Th,(L2.T.s "case" :: L2.T.s x::hs.map Th.t).length=hs.length+2:=λhs=>by simp
   have ims:∀ hs:List Th,L2.T.ims (L2.T.s "case" :: L2.T.s x::hs.map Th.t)=true:=λhs=>Bn hs
   generalize hG:((ls.take i).flatMap mO).tail=G at *
   have la:(mO z).length=z.2.1.length+4:=by simp[mO]
   refine a5 (λh=>?_) (λh=>?_)
   ·have hi:i≠0:=λe=>by rw[e]at h;exact absurd h (by decide)
    rw[if_neg hi]at b1 tt;rw[px]at b1;refine(aD (by rw[hlen];omega),aD (by rw[px,hlen];simp;omega),_,U,U,_,U,aZ _,rV (aD (by simp;omega)),_,U,z.2.2.im,rV (aD (by simp;omega)),_,_,_,U,?_)
    rw[tt,tx,Iq];simp
   ·have hi:i=0:=by
     cases i with
     | zero=>rfl
     | succ k=>exact absurd (decide_eq_true (by omega)) h
    rw[if_pos hi]at b1 tt;rw[wh,la]at b1;have V:G = []:=by rw[<- hG,hi];rfl
    refine(aD (by rw[hlen,V];simp),_,U,U,_,U,aZ _,rV (aD (by rw[V];simp;omega)),_,U,z.2.2.im,rV (aD (by rw[V];simp;omega)),_,_,_,U,?_)
    rw[tt,List.map_tail,Iq,V];simp
  ·let(TT,o2,o3,U,U):=hi;rw[hZ,gV,z6];have b0:=ah ls.length;rw[z6]at b0;exact(aD (by simp only[mu,gV];omega),hq)
theorem yZ(T:Txt K mg a):aR P w K mg base CX0 2 a.jO a.uf ["piece"] (spQ K P2):=by
 refine T.uG.F.okQ qw (λts Q h=>?_) (λ_ _ _ _ _ _ hr=>?_)
 ·let(_,U,_):=h;rfl
 ·have q:=bg hr;refine(_,_,((av (a8 1 qw.nd (QPE.f (a6 (qv 0) ar)))
 (av (fC (gN q (qv 1) (QPF.w aw))
 (az (bp (aN (af aw (af (QPE.f (a6 (qv 0) ar)) aF)))))
 bh)
 (av (fC (QPW.pt (ng (gN q (qv 1) (QPF.w aw)) (pj (gN q (qv 1) (QPF.w aw)))))
 (az (bp (aO (QPF.w (aO (QPF.w (aN (af aw (af (QPE.f (a6 (qv 0) ar)) (af (QPE.f (qv 1)) (af (QPE.f (a6 (qv 0) ar)) aF)))))) (QPF.w (aW (jl U) jc (by rfl) T.lj (by kernel_rfl) (ae (a6 (qv 0) ar) aC))))) (QPF.w (aN (af aw (af (QPE.f (a6 (qv 0) ar)) aF)))))))
 bh)
 (av (fC (gN q (qv 1) (QPF.w aw))
 (az (bp (aN (af aw (af (QPE.f (a6 (qv 0) ar)) (af aw (af (QPE.f (a6 (qv 0) ar)) (af aw (af (QPE.f (a6 (qv 0) ar)) aF)))))))))
 bh)
 (av (fC (gN q (qv 1) (QPF.w aw))
 (az (bp (bq (pJ T) hr T.j7 (ae (qv 0) aC))))
 bh)
 (az (bp (aN (af (QPE.f (qv 1)) (af (aW vJ yk (by rfl) T.vO (by kernel_rfl) (ae (a6 (qv 0) ar) aC)) (af aw (af (QPE.f (a6 (qv 0) ar)) aF))))))))))))),λts Q h=>?_)
  let(b,U,hok,hl,g):=h;have no:∀{x y:Str}{A:Prop},x≠y->decide ((L2.T.s x).v =(L2.T.s y).v)=O->A:=λh z=>absurd z (NK h)
  cases b with
  | give x=>exact(_,U,U,U,a5 (λ_=>(_,U,U,g)) (λz=>absurd pO z))
  | gJ w n b =>
   let(hw,n1,V,_):=hok;refine(_,U,U,U,?_);have h5:w ≠ "give" /\ w ≠ "make" /\ w ≠ "call" /\ w ≠ "name" /\ w ≠ "case":=by rcases hw with h|h <;> rw[h] <;> decide
   refine a5 (no h5.1) (λ_=>(U,a5 (no h5.2.1) (λ_=>(U,a5 (no h5.2.2.1) (λ_=>(U,a5 (no h5.2.2.2.1) (λ_=>(U,a5 (no h5.2.2.2.2) (λ_=>(U,_,U,vv V,_,U,b.im,g))))))))))
  | nam x y b =>
   refine(_,U,U,U,?_);exact a5 (no (by decide)) (λ_=>(U,a5 (no (by decide)) (λ_=>(U,a5 (no (by decide)) (λ_=>(U,a5 (λ_=>(_,U,U,_,U,U,_,U,b.im,g)) (λz=>absurd pO z)))))))
  | mk w x y ns b =>
   let(hw,_):=hok;have hl:6+ns.length+b.wt<=100000:=hl;refine(_,U,U,U,?_);have h1:w ≠ "give":=by rcases hw with h|h <;> rw[h] <;> decide
   have eq:(unf (.mk w x y ns b)).map Th.t = [.s "let",.s x,.s w,.s y]++ns.map .s ++ [.s ";",b.t]:=by
    show L2.T.s "let" :: .s x :: .s w :: .s y ::(ns.map Th.wd ++ [Th.wd ";",Th.bd b]).map Th.t=_
    rw[tx,EU];rfl
   rw[eq]at g;have i2:L2.T.ims [L2.T.s ";",b.t]=true:=by show(O&&(b.t.im&&O))=O;rw[b.im];rfl
   have fin:∀{A:Prop},(Q (.l ([.s "let",.s x,.s w,.s y]++ns.map .s ++ [.s ";",b.t]))->A)->A:=λf=>f g
   rcases hw with h|h
   ·subst h;refine a5 (no (by decide)) (λ_=>(U,a5 (λ_=>?_) (λz=>absurd pO z)))
    exact(_,U,U,U,_,U,U,_,U,aZ ns,rV (aD (by simp;omega)),U,aZ ns,_,U,b.im,rV (aD (by simp;omega)),by rw[dh,aZ];rfl,i2,g)
   ·subst h;refine a5 (no (by decide)) (λ_=>(U,a5 (no (by decide)) (λ_=>(U,a5 (λ_=>?_) (λz=>absurd pO z)))))
    exact(_,U,U,U,_,U,U,_,U,aZ ns,rV (aD (by simp;omega)),U,aZ ns,_,U,b.im,rV (aD (by simp;omega)),by rw[dh,aZ];rfl,i2,g)
  | cas x as =>
   refine(_,U,U,U,?_);exact a5 (no (by decide)) (λ_=>(U,a5 (no (by decide)) (λ_=>(U,a5 (no (by decide)) (λ_=>(U,a5 (no (by decide)) (λ_=>(U,a5 (λ_=>(x,as,U,hok.2.2,hl,g)) (λz=>absurd pO z)))))))))
theorem uW(T:Txt K mg a):aR P w K mg base CX0 3 a.gW a.nZ ["body"] (spQ K Sg):=by
 refine T.oM.F.okQ gu (λts Q h=>?_) (λ_ _ _ _ _ _ hr=>?_)
 ·let(_,U,_):=h;rfl
 ·have hu:=bg hr;refine(_,_,((av (a8 1 gu.nd (aN aF))
 (av (a8 2 gu.nd (aN (af (QPE.f (qv 0)) aF)))
 (av (sU PassesOwn.never (bE (qv 2))
 (av (MF (j:=3) gu.nd U (Or.inl U) (pv 2))
 (az (fC (bE (QPF.w (du (fE U) iE (by rfl) T.cI (by kernel_rfl) (ae (qv 3) (ae (QPF.w (qD (n:="str") U T.vO (by kernel_rfl))) aC)))))
 (az (cU (i:=1) (pv 1) (QPE.f (qv 3))))
 (az (fD (i:=2) (pv 2) (yA U U T.lj U T.mL (QPF.w (bq (yZ T) hr T.uG (ae (qv 3) aC))))))))))
 (az (sf (i:=1) (pv 1))))))),λts Q h=>?_)
  let(b,U,hok,hl,hq):=h;refine(b.im,λc q=>∃(L:List Str)(W:List Th)(LL V:List L2.T)(o3:Sl),q = [.r b.t,.o (.l LL),.o (.l V),o3]/\LL=L.map .s/\V=W.map Th.t/\L++wsT W.reverse=b.ws/\L.length+wtT W<=b.wt/\(∀ h∈W,h.ok)/\c=wtT W,(_,[],[.bd b],_,_,_,U,U,U,by show wsT [.bd b]=_;show b.ws ++ []=_;rw[ko],by show 0+(b.wt+0)<=_;omega,λh hh=>by rw[bB.mp hh];exact hok,U),?_)
  rintro c q ⟨L,W,LL,V,o3,rfl,rfl,rfl,hw,hn,ho,rfl⟩
  rcases Uk W with rfl |⟨g,u,rfl⟩
  ·have hw:L ++ []=b.ws:=hw;rw[ko]at hw;subst hw;exact hq
  ·rw[UR]at *;have e1:(g ++ [u]).map Th.t=g.map Th.t ++ [u.t]:=by rw[tx];rfl
   have e2:wtT (g ++ [u])=wtT g+u.wt:=by rw[lB];rfl
   have e3:wsT (g ++ [u]).reverse=u.ws++wsT g.reverse:=by rw[UX];rfl
   rw[e3]at hw;rw[e2]at hn;have l1:=nN g;rw[e1];refine a5 (λ_=>?_) (λz=>absurd (by simp) z)
   refine(λq'=>∃(L:List Str)(W:List Th)(LL V:List L2.T)(o3:Sl),q' = [.r b.t,.o (.l LL),.o (.l V),o3]/\LL=L.map .s/\V=W.map Th.t/\L++wsT W.reverse=b.ws/\L.length+wtT W<=b.wt/\(∀ h∈W,h.ok)/\wtT W<wtT (g ++ [u]),?_,?_)
   ·rintro q' ⟨L,W,LL,V,o3,rfl,rfl,rfl,g1,g2,g3,g4⟩
    exact(_,g4,L,W,_,_,_,U,U,U,g1,g2,g3,U)
   ·refine(_,_,U,(by rw[<- e1];exact Bn _),by decide,?_)
    have ai:∀ h∈g,h.ok:=λh hh=>ho h (oE _ hh)
    have ah:=ho u (j0 _ (bB.mpr U));cases u with
    | wd x =>
     have hn:L.length+(wtT g+1)<=b.wt:=hn;refine(U,aD (by rw[gV];omega),U,L ++ [x],g,_,_,_,U,by rw[tx];rfl,U,?_,by rw[px];show L.length+1+_<=_;omega,ai,by rw[e2];show _<_+1;omega)
     rw[<- hw,BI];rfl
    | bd c =>
     let(ys,ey):=c.tup;have aj:(Th.bd c).t = .t ys:=ey;have hn:L.length+(wtT g+c.wt)<=b.wt:=hn;have wu:=EY c;have l2:=nN (unf c);rw[aj];refine(U,c,by rw[ey],ah,by omega,?_)
     refine(Bn _,rV (aD (by simp only[gV,QX];omega)),L,g++(unf c).reverse,_,_,_,U,U,by rw[tx,Uo],?_,?_,λh hh=>?_,?_)
     ·rw[UX,UT,rY,Jc];exact hw
     ·rw[lB,BQ];omega
     ·rcases j1.mp hh with z|z
      ·exact ai h z
      ·exact Ma ah h (Vf.mp z)
     ·rw[lB,BQ,e2];show _<_+c.wt;omega
theorem rn(T:Txt K mg a):aR P w K mg base CX0 4 a.fU a.k8 ["function"] (spQ K GK):=by
 refine T.lz.F.okQ fi (λts Q h=>?_) (λ_ _ _ _ _ _ hr=>?_)
 ·let(_,U,_):=h;rfl
 ·have hu:=bg hr;refine(_,_,((av (a8 1 fi.nd (aN (af aw (af (QPE.f (a6 (qv 0) ar)) aF))))
 (av (iZ (g:=(Tg.tp [2,3])) PassesOwn.never U (sV (QPE.f (a6 (qv 0) ar))) (AX (gR 2 fi.nd) (gR 3 fi.nd))
 (az (fD (i:=1) (pv 1) (aN (af (QPE.f (qv 2)) (af (QPE.f (qv 3)) aF))))))
 (av (fD (i:=1) (pv 1) (aN (af aw (af (QPE.f (a6 (qv 0) ar)) (af aw aF)))))
 (av (fD (i:=1) (pv 1) (bq (uW T) hr T.oM (ae (a6 (qv 0) ar) aC)))
 (az (bp (fP (QPF.w aw) (qv 1))))))))),λts Q h=>?_)
  let(z,U,ok,hq):=h;have sh:=HF ok;have ln:=CC ok;have bl:=z.2.wl;have bw:=ok.w;have pl:=ok.l;refine(_,U,U,?_);refine(_,U,pR _,λi q=>∃(L:List Str)(V:List L2.T)(o2 o3:Sl),q = [.r (fT z),.o (.l V),o2,o3]/\V=L.map .s/\L =("def":Str)::z.1.nm::pws (z.1.ps.take i),(_,_,_,_,U,U,U),λi y q hy hi=>?_,λq hi=>?_)
  ·let(L,V,o2,o3,U,U,U):=hi;rw[qx]at hy;let(p,hp,U):=j3.mp hy;have il:=(j2.mp hp).1;refine(_,U,?_);refine(U,U,rV (aD ?_),("def":Str)::z.1.nm::pws (z.1.ps.take (i+1)),_,_,_,U,?_,U)
   ·simp only[gV,mu,lH,BJ,T2];omega
   ·rw[x2,hp];unfold pws;simp
  ·let(L,V,o2,o3,U,U,U):=hi;rw[gV,z6];refine(_,U,U,rV (aD (by simp only[gV,mu,lH];simp;omega)),?_)
   refine(_,U,z.2,U,ok.b,by omega,?_)
   refine(rV (aD (by simp only[gV,mu,lH,px];simp;omega)),?_)
   refine(fws z.1 z.2,?_,?_,hq)
   ·rw[<- fh]
    congr 1
    unfold fws;simp
   ·have:=sh.sum
    rw[show(Str.ofString " ").length=1 from by decide +kernel]
    omega
theorem y9(T:Txt K mg a):aR P w K mg base CX0 1 a.jQ a.uh ["kind"] (spQ K DV):=by
 refine T.uH.F.okQ qy (λts Q h=>?_) (λ_ _ _ _ _ _ hr=>?_)
 ·let(_,U,_):=h;rfl
 ·have hu:=bg hr;refine(_,_,((av (nj (i:=1) qy.nd U (Or.inl U) U (wo (a6 (qv 0) ar)) (N':=["maker","fields"]) (.own U (.own U .nil)) (ij (g:=(Tg.tp [0,1])) (λ_ _ _ _ _=>((AX (pF 0) (pF 1)),(Gn (QPF.w aw) (QPF.w (aO (QPF.w (cM (af (QPE.f (qv 0)) aF))) (qv 1))))))))
 (az (bp (aO (QPF.w (aO (QPF.w (aO (QPF.w aw) (a6 (qv 0) ar))) (QPF.w aw))) (QPF.w (fP (QPF.w aw) (qv 1)))))))),λts Q h=>?_)
  let(k,U,ok,V):=h;have kl:=ok.l;have n8:=(bG ok.n).2;refine(_,U,aD (by rw[gV];omega),λi ys=>ys =(k.2.take i).map λm=>.s (Txt.join " " (m.1::m.2)),U,λi z ys q e=>?_,λys e=>?_)
  ·subst e;rw[qx]at q;let(m,hm,U):=j3.mp q;have mo:=ok.m m (u3 hm);have ml:=A8 mo;refine(_,U,U,rV (aD (by simp;omega)),U,aZ _,m.1::m.2,?_,?_,?_)
   ·rw[<- fh];rfl
   ·rw[show(Str.ofString " ").length=1 from by decide +kernel,mu];omega
   ·rw[x2,hm];simp
  ·subst e;rw[gV,z6];have s1:=si ok.m;refine(_,U,rV (aD ?_),rV (aD ?_),k.2.map λm:Mk1=>Txt.join " " (m.1::m.2),?_,?_,rV (aD ?_),V)
   ·rw[show(Str.ofString "kind ").length=5 from by decide +kernel];omega
   ·rw[Str.length_append,show(Str.ofString "kind ").length=5 from by decide +kernel,show(Str.ofString " ").length=1 from by decide +kernel];omega
   ·rw[<- fh,EU];rfl
   ·rw[show(Str.ofString " | ").length=3 from by decide +kernel,gV];omega
   ·have:=tS ok
    unfold fc at this;rw[Str.length_append]at this;omega
theorem y4(T:Txt K mg a):aR P w K mg base CX0 5 a.so a.CO ["program"] (spQ K JQ):=by
 refine T.xX.F.okQ yn (λts Q h=>?_) (λ_ _ _ _ _ _ hr=>?_)
 ·let(_,_,U,_):=h;rfl
 ·have hu:=bg hr;refine(_,_,((av (nj (i:=1) yn.nd U (Or.inl U) U (wo (a6 (qv 0) ar)) (N':=["kind"]) (.own U .nil) (ij (g:=(Tg.nm 0)) (λ_ _ _ _ _=>((pF 0),(bq (y9 T) hr T.uH (ae (qv 0) aC))))))
 (av (fD (i:=1) (pv 1) (lF U (wo (a6 (qv 0) ar)) (N':=["function"]) (.own U .nil) (ij (g:=(Tg.nm 0)) (λ_ _ _ _ _=>((pF 0),(bq (rn T) hr T.lz (ae (qv 0) aC)))))))
 (az (bp (fP (QPF.w aw) (qv 1))))))),λts Q h=>?_)
  let(ks,fs,U,ok,hq):=h;have l1:=ok.l;refine(_,U,aD (by rw[gV];omega),λi ys=>ys =(ks.take i).map λk=>.s (fc k),U,λi z ys V e=>?_,λys e=>?_)
  ·subst e;rw[qx]at V;let(k,hk,U):=j3.mp V;refine(_,U,k,U,ok.k k (u3 hk),?_);rw[x2,hk];simp
  ·subst e;rw[gV,z6];refine(_,U,aD (by rw[gV];omega),λi ys=>ys =(fs.take i).map λz=>.s (gy z),U,λi z ys V e=>?_,λys e=>?_)
   ·subst e;rw[qx]at V;let(z,q,U):=j3.mp V;refine(_,U,z,U,ok.f z (u3 q),?_);rw[x2,q];simp
   ·subst e;rw[gV,z6];refine(rV (aD (by simp only[gV];omega)),ks.map fc++fs.map gy,?_,?_,hq)
    ·rw[<- fh,tx,EU,EU];rfl
    ·have h1:=sR ok;rw[show(Str.ofString "\n").length=1 from by decide +kernel,px,gV,gV]
     omega
theorem tT:∀ cs:List Nat,(Txt.join (Str.ofString "") (cs.map (λc=>(⟨#[c]⟩:Str)))).cps.toList=cs
 | []=>by decide +kernel
 | [c]=>by show(Txt.join _ [_]).cps.toList=_;rw[tU]
 | c::d::r=>by
  show(Txt.join _ (_::_::_)).cps.toList=_;rw[jL,Str.cps_append,Str.cps_append,Uw,Uw]
  have:=tT (d::r)
  rw[OY]at this;rw[this,show(Str.ofString "").cps = #[]from by decide +kernel]
  rfl
theorem yj(cs:List Nat):((cs.map (λc=>(⟨#[c]⟩:Str))).map (·.length)).sum=cs.length:=by
 induction cs with
 | nil=>rfl
 | cons c cs g=>simp only[OY,UB,mu,g,show(⟨#[c]⟩:Str).length=1 from rfl];omega
theorem Kn(T:Txt K mg a):aR P w K mg base CX0 2 a.xu a.Ib ["_law_deal_here"] (spQ K M9):=by
 have bz:=mJ (@jF P w K mg base a T);refine T.IJ.F.okQ lC (λts Q h=>?_) (λ_ _ _ _ _ _ hr=>?_)
 ·let(U,_):=h;rfl
 ·have hu:=bg hr;refine(_,_,((av (a8 1 lC.nd (aN (iH (by rfl))))
 (av (a8 2 lC.nd (bq bz hr T.bO (ae (qv 0) (ae ar aC))))
 (av (fC (gN hu (qv 2) ar)
 (av (a8 3 lC.nd (aN (iH (by rfl))))
 (az (bp (QPE.f (a6 (QPF.w (aO (qv 3) (QPF.w (aN (iH (by rfl)))))) (QPF.w (bq bz hr T.bO (ae (qv 0) (ae ar aC)))))))))
 bh)
 (av (a8 4 lC.nd (aO ar (QPF.w (bq bz hr T.bO (ae (qv 0) (ae (QPF.w (gD (aN (af bN (af bN (af bN (af bN (af bN aF)))))) (QPF.w (AJ (qv 2) ar)))) aC))))))
 (av (a8 5 lC.nd (fP (QPF.w aw) (QPF.w (lF U (lE U T.gX (ae (qv 4) aC)) (N':=["_law_k","_law_deal_here"]) (.own U (.got (i:=0) U U (.inl U) .nil)) (ij (g:=(Tg.nm 0)) (λ_ _ _ _ _=>((pF 0),(QPE.f (a6 (QPF.w aw) (QPF.w (bq bz hr T.bO (ae (qv 1) (ae ar aC)))))))))))))
 (az (bp (aO (qv 5) (QPF.w (MJ (QPF.w aw) (QPF.w (aW jm mY (by rfl) T.uw (by kernel_rfl) (ae (QPF.w (gE (tI U) lY U (qv 5) (qv 1))) aC)))))))))))))),λts Q h=>?_)
  let(U,hq):=h;refine(by decide,by decide,λf f0 f1=>(U,a5 (λh=>?_) (λh=>?_)))
  ·refine(ja (by decide),by rfl,by rfl,by decide,by decide,λr r0 r1=>?_)
   let(wd,ew,hm):=ox (ws:=near ++ [("pa":Str),"ki","en","t","o","d"]) r0 r1;exact(_,ew,U,hq wd (Kv wd hm))
  ·obtain⟨m,em,m1,m8⟩:∃ m:Int,atI [L2.T.i 8,.i 8,.i 2,.i 3,.i 8] (f - 1)=Z (.i m)/\1<=m/\m<=8:=by
    have hf:f≠0:=λz=>h (by rw[z];rfl)
    rcases(by omega:f=1\/f=2\/f=3\/f=4\/f=5)with rfl|rfl|rfl|rfl|rfl
    ·exact(8,U,by decide,by decide)
    ·exact(8,U,by decide,by decide)
    ·exact(2,U,by decide,by decide)
    ·exact(3,U,by decide,by decide)
    ·exact(8,U,by decide,by decide)
   refine(_,em,by omega,by omega,λn n0 n1=>(by omega,by omega,bb (by rw[d7];omega),λi ys=>∃ cs:List Nat,ys=cs.map (λc=>.s ⟨#[c]⟩)/\cs.length=i/\∀ c∈cs,sgn eB c=O,([],U,U,λ_ z=>nomatch z),?_,?_))
   ·rintro i x ys hx ⟨cs,rfl,V,hs⟩
    let(U,hi):=jz hx;refine(_,U,by decide,by decide,λr r0 r1=>(by decide +kernel,_,Cr r0 r1,U,?_))
    refine(cs ++ [Be r.toNat],by simp,by simp[V],λc V=>?_)
    rcases j1.mp V with z|z
    ·exact hs c z
    ·rw[bB.mp z];exact KA _
   ·rintro ys ⟨cs,rfl,V,hs⟩
    rw[d7]at V;have ej:=tT cs;refine(cs.map (λc=>(⟨#[c]⟩:Str)),?_,?_,?_)
    ·rw[<- fh,EU];rfl
    ·rw[yj,show(Str.ofString "").length=0 from by decide +kernel];omega
    generalize Txt.join (Str.ofString "") (cs.map (λc=>(⟨#[c]⟩:Str)))=wd at ej ⊢
    have lw:wd.length=cs.length:=by rw[nP,ej]
    have ah:ofB wd eB 8=true:=by
     unfold ofB;rw[ej,z7.mpr hs,decide_eq_true (by omega),decide_eq_true (by omega)];rfl
    refine(by rfl,?_)
    have fin:∀ b:Bool,inT (.s wd) (kept.map .s)=b->0 <=(if b then(1:Int)else 0)/\(if b then(1:Int)else 0)<=1000/\(Str.ofString "q").length<=1000/\wd.length+(mj "q" (if b then(1:Int)else 0).toNat).length<=j5/\Q (.s (wd++mj "q" (if b then(1:Int)else 0).toNat)):=by
     intro b hb;cases b with
     | false =>
      refine(by decide,by decide,by decide +kernel,rV (aD (by show wd.length+(mj "q" 0).length<=1002000;rw[nO];omega)),?_)
      show Q (.s (wd++mj "q" 0));rw[show mj "q" 0=Str.empty from by decide +kernel,Str.append_empty]
      exact hq wd (by unfold ay;rw[ah,hb];rfl)
     | true =>
      have l4:wd.length<=4:=by
       rw[tX]at hb;exact Ho wd (xh.mp hb)
      refine(by decide,by decide,by decide +kernel,rV (aD (by show wd.length+(mj "q" 1).length<=1002000;rw[nO,show("q":Str).length=1 from by decide +kernel];omega)),?_)
      show Q (.s (wd++mj "q" 1));rw[show mj "q" 1 = "q" from by decide +kernel]
      refine hq _ ?_;have e:(wd++("q":Str)).cps.toList=cs ++ [113]:=by rw[Str.cps_append,Uw,ej,show(Str.ofString "q").cps.toList = [113]from by decide +kernel]
      have le:(wd++("q":Str)).length=cs.length+1:=by rw[nP,e];simp
      unfold ay ofB;rw[PC hb,e,List.all_append,z7.mpr hs,le,decide_eq_true (by omega),decide_eq_true (by omega),show [113].all (sgn eB)=O from by decide +kernel]
      rfl
    exact fin _ U
theorem wR(T:Txt K mg a):aR P w K mg base CX0 1 a.iQ a.qQ ["_law_word"] (spQ K Nf):=by
 refine T.qZ.F.okQ m4 (λts Q h=>?_) (λ_ _ _ _ _ _ hr=>?_)
 ·let(_,U,_):=h;rfl
 ·have hu:=bg hr;refine(_,_,((av (a8 1 m4.nd (aN (iH (by rfl))))
 (av (fC (QPW.pt (ng (B7 (QPF.w (kP T.oq (ae (qv 0) aC))) ar) (ng (Gb (QPF.w (kP T.oq (ae (qv 0) aC))) ar) (pj (cS (tI U) lY U (qv 0) (qv 1))))))
 (az (bp sY))
 bh)
 (az (bp (du (pW U U) wa (by rfl) T.Io (by kernel_rfl) (ae (QPF.w (lF U (Gi (qv 0)) (N':=["_law_sign"]) (.own U .nil) (ij (g:=(Tg.nm 0)) (λ_ _ _ _ _=>((pF 0),(gE (tI U) lY U (qv 0) (QPF.w aw))))))) aC))))))),λts Q h=>?_)
  let(x,U,hx,q):=h;have V:x.length<=j5:=rV (aD (by omega))
  unfold ay ofB at q;refine(V,a5 (λh1=>?_) (λh1=>?_))
  ·have h1:(x.length:Int)<1:=of_decide_eq_true h1;rw[decide_eq_false (show ¬ 1 <=(x.length:Int)by omega)]at q
   exact q
  have h1:¬(x.length:Int)<1:=λz=>h1 (decide_eq_true z)
  rw[decide_eq_true (show 1 <=(x.length:Int)by omega),TB]at q
  refine(V,a5 (λh2=>?_) (λh2=>?_))
  ·have h2:8<(x.length:Int):=of_decide_eq_true h2;rw[decide_eq_false (show ¬(x.length:Int)<=8 by omega)]at q
   exact q
  have h2:¬ 8<(x.length:Int):=λz=>h2 (decide_eq_true z)
  rw[decide_eq_true (show(x.length:Int)<=8 by omega),TB]at q
  refine(by rfl,a5 (λh3=>?_) (λh3=>?_))
  ·have h3:inT (.s x) (kept.map .s)=true:=h3;rw[h3,Bool.not_true,Uc]at q;exact q
  have h3:inT (.s x) (kept.map .s)=false:=Pb.mpr h3;rw[h3,Bool.not_false,Bool.and_true]at q;refine(by rw[sx];exact aD (by omega),λi ys=>ys =(x.cps.toList.take i).map λc=>.b (sgn eB c),U,λi z ys hz e=>?_,λys e=>?_)
  ·let(c,hc,U):=Ij hz;subst e;refine(_,U,?_);show _ ++ [L2.T.b (sgn eB c)]=_;rw[x2,hc];simp
  ·subst e;rw[sx,show x.length=x.cps.toList.length from U,z6];exact(_,xG _ _,by rw[UK];exact q)
theorem wQ(T:Txt K mg a):aR P w K mg base CX0 2 a.CG a.LW ["_law_deal_here","_law_pool_here"] (spQ K P4):=by
 refine T.j8.F.okQ My (λts Q h=>?_) (λ_ _ _ _ _ _ hr=>?_)
 ·let(_,U,_):=h;rfl
 ·have hu:=bg hr;refine(_,_,((az (bp (QPE.f (a6 (qv 1) (QPF.w (bq (mJ (jF T)) hr T.bO (ae (qv 0) (ae (QPF.w (kP T.oq (ae (qv 1) aC))) aC))))))))),λts Q h=>?_)
  let(ws,U,w1,w2,hw,z):=h;refine(by rw[gV];omega,by rw[gV];omega,λr q g=>?_)
  rw[gV]at g;let(wd,V,hm):=ox (ws:=ws) q g;exact(_,V,U,z wd (hw wd hm))
theorem Cm(T:Txt K mg a):aR P w K mg base CX0 3 a.xq a.HY ["_law_deal_here","_law_pool_here","_law_most"] (spQ K M5):=by
 refine T.xW.F.okQ Jv (λts Q h=>?_) (λ_ _ _ _ _ _ hr=>?_)
 ·let(_,_,U,_):=h;rfl
 ·have hu:=bg hr;refine(_,_,((az (bp (aW (cj U) cf (by rfl) T.dm (by kernel_rfl) (ae (QPF.w (lF U (lE U T.gX (ae (QPF.w (bq (mJ (jF T)) hr T.bO (ae (qv 0) (ae (QPF.w (aO (qv 2) ar)) aC)))) aC)) (N':=["_law_k","_law_deal_here","_law_pool_here"]) (.own U (.got (i:=0) U U (.inl U) (.got (i:=1) U U (.inl U) .nil))) (ij (g:=(Tg.nm 0)) (λ_ _ _ _ _=>((pF 0),(bq (wQ T) hr T.j8 (ae (qv 1) (ae (qv 2) aC)))))))) aC))))),λts Q h=>?_)
  let(ws,m,U,w1,w2,hw,m0,m1,hq):=h;refine(by omega,by omega,λn n0 n1=>(by omega,by omega,bb (by rw[d7];omega),λi ys=>∃ ns:List Str,ys=ns.map .s/\ns.length=i/\∀ w∈ns,ay w=O,([],U,U,λ_ z=>nomatch z),?_,?_))
  ·rintro i x ys hx ⟨ns,rfl,hc,hn⟩
   let(U,hi):=jz hx;refine(_,U,ws,U,w1,w2,hw,λwd q=>(ns ++ [wd],by simp,by simp[hc],λw V=>?_))
   rcases j1.mp V with z|z
   ·exact hn w z
   ·rw[bB.mp z];exact q
  ·rintro ys ⟨ns,rfl,hc,hn⟩
   rw[d7]at hc;exact(aZ ns,hq ns hn (by omega))
theorem pick{x y:Int}(b:Bool):∃ m:Int,atI [L2.T.i x,.i y] (if b then 1 else 0)=Z (.i m)/\(m=x\/m=y):=by
 cases b
 ·exact(x,U,.inl U)
 ·exact(y,U,.inr U)
theorem Ko(T:Txt K mg a):aR P w K mg base CX0 4 a.xv a.Ic ["_law_deal_here","_law_pool_here"] (spQ K JW):=by
 refine T.IK.F.okQ wc (λts Q h=>?_) (λ_ _ _ _ _ _ hr=>?_)
 ·let(_,U,_):=h;rfl
 ·have hu:=bg hr;refine(_,_,((av (a8 2 wc.nd (aN aF))
 (av (iZ (g:=(Tg.nm 3)) PassesOwn.never U (je U T.gX (ae (QPF.w (aO ar (QPF.w (bq (mJ (jF T)) hr T.bO (ae (qv 0) (ae (QPF.w (gD (aN (af bN (af bN aF))) (QPF.w (aW jm mY (by rfl) T.uw (by kernel_rfl) (ae (QPF.w (gE (mz hu U) jq (bH _) (QPF.w (bq (mJ (jF T)) hr T.bO (ae (qv 0) (ae ar aC)))) ar)) aC))))) aC)))))) aC)) (gR 3 wc.nd)
 (az (cU (i:=2) (pv 2) (cM (af (bq (wQ T) hr T.j8 (ae (qv 0) (ae (qv 1) aC))) (af (bq (Cm T) hr T.xW (ae (qv 0) (ae (qv 1) (ae (QPF.w (gD (aN (af bN (af bN aF))) (QPF.w (bq (mJ (jF T)) hr T.bO (ae (qv 0) (ae ar aC)))))) aC)))) aF))))))
 (az (bp (cM (af (bq (wQ T) hr T.j8 (ae (qv 0) (ae (qv 1) aC))) (af (aW (cj U) cf (by rfl) T.dm (by kernel_rfl) (ae (qv 2) aC)) aF)))))))),λts Q h=>?_)
  let(ws,U,w1,w2,hw,hq):=h;refine(by decide,by decide,λf f0 f1=>?_)
  let(m,em,m1):=pick (x:=3) (y:=6) (decide ((L2.T.i f).v =(L2.T.i 1).v));refine(U,_,em,by omega,by omega,λn n0 n1=>(by omega,by omega,λi q=>(∃ o3 ms,q = [.r .jS,.r (.zl (ws.map .s)),.o (.l (ms.map tM)),o3]/\ms.length=i/\∀ m∈ms,ay m.1=O/\m.2.length<=10/\∀ f∈m.2,ay f=O),(_,[],U,U,λ_ z=>nomatch z),?_,?_))
  ·rintro i x q hx ⟨o3,ms,rfl,hc,hm⟩
   let(U,hi):=jz hx;refine(_,U,bb (by rw[gV];omega),ws,U,w1,w2,hw,λwd V=>(by decide,by decide,λr r0 r1=>?_))
   obtain⟨m,em,m1,m2⟩:∃ m:Int,atI [L2.T.i 2,.i 4] r=Z (.i m)/\2<=m/\m<=4:=by
    rcases(by omega:r=0\/r=1)with rfl|rfl
    ·exact(2,U,by decide,by decide)
    ·exact(4,U,by decide,by decide)
   refine(_,em,ws,m,U,w1,w2,hw,by omega,by omega,λns hn ln=>?_)
   refine(_,ms ++ [(wd,ns)],by rw[tx];rfl,by simp[hc],λm ah=>?_)
   rcases j1.mp ah with z|z
   ·exact hm m z
   ·rw[bB.mp z];exact(V,by show ns.length<=10;omega,hn)
  ·rintro q ⟨o3,ms,rfl,hc,hm⟩
   rw[d7]at hc;refine(ws,U,w1,w2,hw,λwd V=>?_)
   exact(cG (λm=>by show(O&&(L2.T.ims (m.2.map L2.T.s)&&O))=O;rw[aZ];rfl) ms,hq (wd,ms) (V,by show ms.length<=10;omega,λz=>by rw[show ms = []from z]at hc;simp at hc;omega,hm))
theorem Km(T:Txt K mg a):aR P w K mg base CX0 3 a.xt a.Ia ["_law_deal_here"] (spQ K M8):=by
 refine T.II.F.okQ ju (λts Q h=>?_) (λ_ _ _ _ _ _ hr=>?_)
 ·let(U,_):=h;rfl
 ·have hu:=bg hr;refine(_,_,((av (nj (i:=1) ju.nd U (Or.inl U) U (lE U T.gX (ae ar aC)) (N':=["_law_k","_law_deal_here"]) (.own U (.got (i:=0) U U (.inl U) .nil)) (ij (g:=(Tg.nm 0)) (λ_ _ _ _ _=>((pF 0),(bq (Kn T) hr T.IJ (ae (qv 1) aC))))))
 (av (a8 2 ju.nd (QPE.f (a6 (qv 1) ar)))
 (av (a8 3 ju.nd (bq (mJ (jF T)) hr T.bO (ae (qv 0) (ae (QPF.w (kP T.oq (ae (qv 2) aC))) aC))))
 (av (iZ (g:=(Tg.nm 4)) PassesOwn.never U (je U T.gX (ae ar aC)) (gR 4 ju.nd)
 (av (a8 5 ju.nd (QPE.f (a6 (QPF.w aw) (QPF.w (bq (mJ (jF T)) hr T.bO (ae (qv 0) (ae ar aC)))))))
 (av (a8 6 ju.nd (aO (QPF.w (aO (QPF.w (yz (qv 2) B9 (B8 (qv 3)))) (qv 5))) (QPF.w (yz (qv 2) (B8 (QPF.w (aO (qv 3) ar))) B9))))
 (az (fC (bE (QPF.w (bq (wR T) hr T.qZ (ae (qv 6) aC))))
 (az (cU (i:=1) (pv 1) (QPE.f (qv 6))))
 bh)))))
 (az (sf (i:=1) (pv 1)))))))),λts Q h=>?_)
  let(U,hq):=h;refine(by decide,by decide,bb (by rw[d7];decide),λi ys=>∃ ns:List Str,ys=ns.map .s/\ns.length=i/\∀ w∈ns,ay w=O,([],U,U,λ_ z=>nomatch z),?_,?_)
  ·rintro i x ys hx ⟨ns,rfl,hc,hn⟩
   let(U,hi):=jz hx;refine(_,U,U,λwd ah=>(ns ++ [wd],by simp,by simp[hc],λw V=>?_))
   rcases j1.mp V with z|z
   ·exact hn w z
   ·rw[bB.mp z];exact ah
  ·rintro ys ⟨ns,rfl,hc,hn⟩
   rw[d7]at hc;have hc:ns.length=4:=hc;let(w0,ew,hm):=ox (ws:=ns) (i:=0) (by omega) (by omega)
   have h0:=bG (hn w0 hm);refine(_,ew,U,ja (by omega),by omega,by omega,λat_ a0 a1=>?_)
   have aj:(Txt.slice w0 Y (Z at_)).length<=8:=uj (Txt.slice_le _ _ _) h0.2;have ai:(Txt.slice w0 (Z (at_+1)) Y).length<=8:=uj (Txt.slice_le _ _ _) h0.2;refine(by decide,by decide,λi q=>(Q4 λo4 o5 o6 ws=>q = [.r .jS,.o (.l (ws.map .s)),.o (.s w0),.o (.i at_),o4,o5,o6]/\4<=ws.length/\ws.length<=4+i/\∀ w∈ws,ay w=O),(_,_,_,ns,U,by omega,by omega,hn),?_,?_)
   ·rintro i x q hx ⟨o4,o5,o6,ws,rfl,w1,w2,hw⟩
    let(U,hi):=jz hx;have hi:i<3:=by omega
    refine(_,U,by decide,by decide,λr r0 r1=>(by decide +kernel,_,Cr r0 r1,U,?_))
    have e1:∀ c:Nat,(⟨#[c]⟩:Str).length=1:=λ_=>rfl
    refine(ja (by omega),ja (by rw[e1];omega),ja (by omega),ja (by rw[Str.length_append,e1];omega),_,U,by rw[Str.length_append,Str.length_append,e1];omega,a5 (λh=>?_) (λh=>?_))
    ·refine(bb (by rw[gV];omega),U,_,_,_,ws ++ [Txt.slice w0 Y (Z at_)++⟨#[Be r.toNat]⟩++Txt.slice w0 (Z (at_+1)) Y],by rw[tx];rfl,by rw[px];omega,by rw[px];show ws.length+1<=_;omega,λw V=>?_)
     rcases j1.mp V with z|z
     ·exact hw w z
     ·rw[bB.mp z];exact h
    ·exact(_,_,_,ws,U,w1,by omega,hw)
   ·rintro q ⟨o4,o5,o6,ws,rfl,w1,w2,hw⟩
    rw[d7]at w2;exact hq ws w1 w2 hw
mutual
def Bd.cd:Bd->Nat
 | .give _=>0
 | .gJ _ _ b=>b.cd
 | .nam _ _ b=>b.cd
 | .mk _ _ _ _ b=>b.cd
 | .cas _ as=>as.cd+1
def Ar.cd:Ar->Nat
 | .nil=>0
 | .cons _ _ b r=>max b.cd r.cd
end
def pY:List (Str×List Str×Bd)->Ar
 | []=>.nil
 | z::r=>.cons z.1 z.2.1 z.2.2 (pY r)
theorem C2:∀ ls,(pY ls).ts=ls.map EO
 | []=>rfl
 | z::r=>by show _ ::(pY r).ts=_;rw[C2 r];rfl
theorem C1:∀ ls,(pY ls).wt =(ls.map λz=>3+z.2.1.length+z.2.2.wt).sum
 | []=>rfl
 | z::r=>by show _+(pY r).wt=_;rw[C1 r];rfl
theorem C3:∀{ls},(∀ z∈ls,ay z.1=O/\(∀ k∈z.2.1,ay k=O)/\z.2.2.ok) ->(pY ls).ok
 | [],_=>trivial
 | z::r,h=>((h z dZ).1,(h z dZ).2.1,(h z dZ).2.2,C3 λy g=>h y (c5 _ g))
theorem C4{x:Str}{d:Int}(hd:d<=39):∀{ls},(∀ z∈ls,(z.2.2.cd:Int)+(d+1)<=40) ->((Bd.cas x (pY ls)).cd:Int)+d<=40
 | [],_=>by show(((0+1:Nat)):Int)+d<=40;omega
 | z::r,h=>by
  have h1:=h z dZ;have h2:=C4 (x:=x) hd (ls:=r) λy g=>h y (c5 _ g)
  have h2:(((pY r).cd+1:Nat):Int)+d<=40:=h2;show((max z.2.2.cd (pY r).cd+1:Nat):Int)+d<=40;omega
theorem NF{w:World}{K:PySem.W.Frag}{CX:CXT}{k:Nat}{js S:List Nat}{f:J}{fd:FuncData}{ps:List Str}{sp:gK}(h:∀ ts Q W,¬ sp ts Q W):aR P w K mg base CX k f fd ps (spG K js S sp):=(λvs H Q E z=>by
 cases z with
 | mk dl ts F Qp Wp h1 h2 h3 h4 h5 h6 h7 h8=>exact(h _ _ _ h6).elim,λA outer s H args us vs Q E _ _ _ _ z=>by
 cases z with
 | mk dl ts F Qp Wp h1 h2 h3 h4 h5 h6 h7 h8=>exact(h _ _ _ h6).elim)
theorem RY{f:Int}{g:Bool}(h5:q[5]? = Z (.o (.i f)))(h4:q[4]? = Z (.r (.b g)))(h:∀ b,Qb b):AQ (jU (qOp JM (lN 5) (qC (.i 0)))) (DQ (DP (lN 4))) q Qb:=by
 unfold AQ jU qOp lN;rw[h5];refine(U,a5 (λ_=>?_) (λ_=>h _))
 unfold DQ DP;show match q[4]? with|some (Sl.o t)=>_|some (Sl.r t)=>_|x=>False
 rw[h4];exact h _
def J0(n:Nat):gK:=λts Q _=>∃(ws:List Str)(y:J)(r d:Int)(g:Bool),ts = [.jS,.zl (ws.map .s),.lp y [.i r],.i d,.b g]/\4<=ws.length/\ws.length<=7/\(∀ w∈ws,ay w=O) /\ -6<=r/\r<=48/\1<=d/\d<=40/\41<=d+n /\
 ∀(b:Bd)(r':Int),b.ok ->(b.cd:Int)+d<=40 -> -6<=r'->r'<=r ->(b.wt:Int)<=3+10*(r - r')->Q b.t [.lp y [.i r']]
theorem Ks(T:Txt K mg a)(n:Nat):aR P w K mg base (CX1 P w) (n+4) a.xy a.Ih ["_law_deal_here","_law_pool_here","_law_room","_law_depth","_law_long"] (spG K [2] [2] (J0 n)):=by
 induction n with
 | zero =>
  refine NF λts Q W h=>?_
  let(_,_,_,_,_,_,_,_,_,_,_,_,d1,hd,_):=h;omega
 | succ n qh =>
  have bz:=mJ (@jF P w K mg base a T);refine T.fb.F.okG gQ (λts Q W h=>?_) (by decide) (λ_ h=>h) (λ_ _ _ _ _ _ hr=>?_) λts Q W h=>?_
  ·let(_,_,_,_,_,U,_):=h;rfl
  ·have hu:=bg hr;refine(_,_,((ag (aY (a8 5 gQ.nd (bq bz hr T.bO (ae (qv 0) (ae ar aC)))))
 (ag (aY (fC (QPW.pt (ng (B7 (a6 (qvp 2) ar) ar) (ng (Gb (qv 3) ar) (pj (QPW.pt (pz (gN hu (qv 5) ar) (nh (kL (bE (qv 4))))))))))
 (az (dG (cM (af aw (af (bq (wQ T) hr T.j8 (ae (qv 0) (ae (qv 1) aC))) aF)))))
 bh))
 (ag (aY (yu (i:=2) (pv 2) ar (QPF.w (AJ (a6 (qvp 2) ar) ar))))
 (ag (fO (B7 (qv 5) ar)
 (ag (aY (a8 6 gQ.nd (aO ar (QPF.w (bq bz hr T.bO (ae (qv 0) (ae (QPF.w (gD (aN (af bN (af bN (af bN aF)))) (QPF.w (bq bz hr T.bO (ae (qv 0) (ae ar aC)))))) aC)))))))
 (aI (ni (kN (cx (f9 (QPF.w (gD (aN (iH (by rfl))) (QPF.w (bq bz hr T.bO (ae (qv 0) (ae ar aC))))))) (cx (f9 (qv 6)) (cx (kO (i:=2) (j:=2) qh hr.aP U T.fb.m T.fb.F.kp T.fb.b (gv (qv 0) (gv (qv 1) (nk (i:=2) (pv 2) (ae (QPF.w (aO (qv 3) ar)) (ae (qv 4) aC)))))) cb)))))))
 (d8 bh))
 (ag (aY (MG (i:=7) (j:=8) U gQ.nd U U (by decide) U U (QPF.w (bq (wQ T) hr T.j8 (ae (qv 0) (ae (qv 1) aC)))) (QPF.w (bq (wQ T) hr T.j8 (ae (qv 0) (ae (qv 1) aC)))) U))
 (ag (fO (gN hu (qv 5) ar)
 (aI (ni (kN (cx (f9 (QPF.w aw)) (cx (f9 (qv 7)) (cx (f9 (qv 8)) (cx (kO (i:=2) (j:=2) qh hr.aP U T.fb.m T.fb.F.kp T.fb.b (gv (qv 0) (gv (qv 1) (nk (i:=2) (pv 2) (ae (QPF.w (aO (qv 3) ar)) (ae (qv 4) aC)))))) cb)))))))
 (d8 bh))
 (ag (fO (B7 (qv 5) ar)
 (ag (aY (a8 9 gQ.nd (bq (Cm T) hr T.xW (ae (qv 0) (ae (qv 1) (ae ar aC))))))
 (aI (ni (kN (cx (f9 (QPF.w (gD (aN (iH (by rfl))) (QPF.w (bq bz hr T.bO (ae (qv 0) (ae ar aC))))))) (cx (f9 (qv 7)) (cx (f9 (qv 8)) (cx (f9 (qv 9)) (cx (kO (i:=2) (j:=2) qh hr.aP U T.fb.m T.fb.F.kp T.fb.b (gv (qv 0) (gv (qv 1) (nk (i:=2) (pv 2) (ae (QPF.w (aO (qv 3) ar)) (ae (qv 4) aC)))))) cb)))))))))
 (d8 bh))
 (ag (aY (a8 10 gQ.nd (aO ar (QPF.w (bq bz hr T.bO (ae (qv 0) (ae (QPF.w (gD (aN (af bN (af bN aF))) (QPF.w (aW jm mY (by rfl) T.uw (by kernel_rfl) (ae (QPF.w (gE (mz hu U) jq (bH _) (QPF.w (bq bz hr T.bO (ae (qv 0) (ae ar aC)))) ar)) aC))))) aC)))))))
 (ag (aY (yu (i:=2) (pv 2) ar (QPF.w (AJ (a6 (qvp 2) ar) (qv 10)))))
 (ag (aY (a8 11 gQ.nd (aN aF)))
 (ag (wm (g:=(Tg.nm 12)) PassesOwn.leaving U (je U T.gX (ae (qv 10) aC)) (gR 12 gQ.nd)
 (ag (aY (a8 9 gQ.nd (bq (Cm T) hr T.xW (ae (qv 0) (ae (qv 1) (ae (QPF.w (gD (aN (af bN (af bN aF))) (QPF.w (bq bz hr T.bO (ae (qv 0) (ae ar aC)))))) aC))))))
 (aI (iG (i:=11) (pv 11) (kN (cx (f9 (QPF.w (bq (wQ T) hr T.j8 (ae (qv 0) (ae (qv 1) aC))))) (cx (f9 (qv 9)) (cx (kO (i:=2) (j:=2) qh hr.aP U T.fb.m T.fb.F.kp T.fb.b (gv (qv 0) (gv (qv 1) (nk (i:=2) (pv 2) (ae (QPF.w (aO (qv 3) ar)) (ae (qv 4) aC)))))) cb))))))))
 (aI (aY (dG (cM (af aw (af (QPE.f (qv 7)) (af (aW (cj U) cf (by rfl) T.dm (by kernel_rfl) (ae (qv 11) aC)) aF))))))))))))))))))),λts Q W as h ha=>?_)
   let(ws,y,r,d,lg,U,w1,w2,hw,r0,r1,d0,d1,hd,hq):=h;obtain rfl:as = [y]:=by
    match as,ha with
    | [b],((u,e1,e2),_)=>cases e1;cases e2;rfl
   refine(by decide,by decide,λf f0 f1=>?_)
   refine(_,U,a5 (λh1=>?_) (λh1=>?_))
   ·exact QD (ws,U,w1,w2,hw,λwd V=>([_],(U,U,trivial),hq (.give wd) r V (by show((0:Nat):Int)+d<=40;omega) r0 (by omega) (by show(3:Int)<=_;omega)))
   have h1:¬ r<1:=λz=>h1 (decide_eq_true z)
   refine a5 (λh2=>?_) (λh2=>?_)
   ·exact QD (ws,U,w1,w2,hw,λwd V=>([_],(U,U,trivial),hq (.give wd) r V (by show((0:Nat):Int)+d<=40;omega) r0 (by omega) (by show(3:Int)<=_;omega)))
   have h2:¬ 39<d:=λz=>h2 (decide_eq_true z)
   refine RY U U λb=>?_
   cases b with
   | true=>exact(ws,U,w1,w2,hw,λwd V=>([_],(U,U,trivial),hq (.give wd) r V (by show((0:Nat):Int)+d<=40;omega) r0 (by omega) (by show(3:Int)<=_;omega)))
   | false =>
   refine(_,U,0,U,U,U,a5 (λh3=>?_) (λh3=>?_))
   ·refine(by decide,by decide,λc c0 c1=>?_)
    obtain⟨m,em,m1,m2⟩:∃ m:Int,atI [L2.T.i 9,.i 1000,.i 9999999] c=Z (.i m)/\1<=m/\m<=9999999:=by
     rcases(by omega:c=0\/c=1\/c=2)with rfl|rfl|rfl
     ·exact(9,U,by decide,by decide)
     ·exact(1000,U,by decide,by decide)
     ·exact(9999999,U,by decide,by decide)
    refine(_,em,by omega,by omega,λv v0 v1=>(by decide,by decide,λz z0 z1=>?_))
    let(wd,ew,hm):=ox (ws:=[("pay":Str),"get"]) z0 z1;have V:wd = "pay" \/ wd = "get":=by simpa using hm
    refine(_,ew,U,U,U,U,_,U,U,U,U,λ_=>(ws,y,r - 1,d+1,lg,U,w1,w2,hw,by omega,by omega,by omega,by omega,by omega,λb r' hb ah s0 s1 aj=>(b.im,?_)))
    refine(b.im,rV (bb (by simp)),[_],(U,U,trivial),?_)
    have:=hq (.gJ wd (1+v).toNat b) r' (V,by omega,by omega,hb) (by show(b.cd:Int)+d<=40;omega) s0 (by omega) (by show((4+b.wt:Nat):Int)<=_;omega)
    rw[show(Bd.gJ wd (1+v).toNat b).t = .t [.s wd,.i ((1+v).toNat:Int),b.t]from U,TV (by omega)]at this
    exact this
   refine(ws,U,w1,w2,hw,λx hx=>(U,ws,U,w1,w2,hw,λz hz=>(U,U,a5 (λh4=>?_) (λh4=>a5 (λh5=>?_) (λh5=>?_)))))
   ·refine(U,U,U,U,U,U,_,U,U,U,U,λ_=>(ws,y,r - 1,d+1,lg,U,w1,w2,hw,by omega,by omega,by omega,by omega,by omega,λb r' hb ah s0 s1 aj=>(b.im,b.im,rV (bb (by simp)),[_],(U,U,trivial),?_)))
    exact hq (.nam x z b) r' (hx,hz,hb) (by show(b.cd:Int)+d<=40;omega) s0 (by omega) (by show((6+b.wt:Nat):Int)<=_;omega)
   ·refine(ws,4,U,w1,w2,hw,by decide,by decide,λns hn ln=>(by decide,by decide,λk k0 k1=>?_))
    let(wd,ew,hm):=ox (ws:=[("make":Str),"call"]) k0 k1;have V:wd = "make" \/ wd = "call":=by simpa using hm
    have hi:=aZ ns;refine(_,ew,U,U,U,U,U,U,hi,hi,_,U,U,U,U,λ_=>(ws,y,r - 1,d+1,lg,U,w1,w2,hw,by omega,by omega,by omega,by omega,by omega,λb r' hb ah s0 s1 aj=>(b.im,b.im,rV (bb (by simp)),[_],(U,U,trivial),?_)))
    exact hq (.mk wd x z ns b) r' (V,hx,hz,hn,hb) (by show(b.cd:Int)+d<=40;omega) s0 (by omega) (by show((6+ns.length+b.wt:Nat):Int)<=_;omega)
   ·refine(by decide,by decide,λc c0 c1=>?_)
    let(m,em,m1):=pick (x:=3) (y:=6) (decide ((L2.T.i c).v =(L2.T.i 1).v));refine(U,_,em,by omega,by omega,λv v0 v1=>(_,U,0,U,U,U,by omega,by omega,λi q=>(∃(o9 ai:Sl)(ls:List (Str×List Str×Bd))(rr:Int),q = [.r .jS,.r (.zl (ws.map .s)),.o (.lp y [.i rr]),.r (.i d),.r (.b lg),.o (.i f),.no,.o (.s x),.o (.s z),o9,.o (.i (1+v)),.o (.l (ls.map EO)),ai]/\ls.length=i/\(∀ z∈ls,(ay z.1=O/\(∀ k∈z.2.1,ay k=O)/\z.2.2.ok)/\(z.2.2.cd:Int)+(d+1)<=40) /\ -6<=rr/\rr<=r - 1 - (1+v)/\(((ls.map λz=>3+z.2.1.length+z.2.2.wt).sum:Nat):Int)<=10*(i:Int)+10*(r - 1 - (1+v) - rr)),(_,_,[],_,U,U,(λ_ z=>nomatch z),by omega,by omega,by show(0:Int)<=_;omega),?_,?_))
    ·rintro i k q hk ⟨o9,ai,ls,rr,rfl,hc,hl,ak,aA,hs⟩
     let(U,hi):=jz hk;refine(_,U,by decide,by decide,λe e0 e1=>?_)
     obtain⟨m2,aH,m3⟩:∃ m:Int,atI [L2.T.i 2,.i 4] e=Z (.i m)/\(m=2\/m=4):=by
      rcases(by omega:e=0\/e=1)with rfl|rfl
      ·exact(2,U,.inl U)
      ·exact(4,U,.inr U)
     refine(_,aH,ws,m2,U,w1,w2,hw,by omega,by omega,λns hn ln=>((_,U),ws,U,w1,w2,hw,λmk aG=>?_))
     have ax:=aZ ns;refine(U,U,ax,ax,_,U,U,U,U,λ_=>(ws,y,rr,d+1,lg,U,w1,w2,hw,by omega,by omega,by omega,by omega,by omega,λb r' hb ah s0 s1 aj=>(b.im,b.im,rV (bb (by simp)),_,U,bb (by rw[gV];omega),_,_,ls ++ [(mk,ns,b)],r',by rw[tx];rfl,by simp[hc],λu hu=>?_,s0,by omega,?_)))
     ·rcases j1.mp hu with z|z
      ·exact hl u z
      ·rw[bB.mp z];exact((aG,hn,hb),ah)
     ·rw[tx,Uu];show(((ls.map λz=>3+z.2.1.length+z.2.2.wt).sum+(3+ns.length+b.wt+0):Nat):Int)<=_
      omega
    ·rintro q ⟨o9,ai,ls,rr,rfl,hc,hl,ak,aA,hs⟩
     rw[d7]at hc hs;refine(U,cG C0 ls,[_],(U,U,trivial),?_);have aK:=C1 ls
     have:=hq (.cas x (pY ls)) rr (hx,λe=>?_,C3 λz hz=>(hl z hz).1) (C4 (by omega) λz hz=>(hl z hz).2) ak (by omega) (by show((4+(pY ls).wt:Nat):Int)<=_;omega)
     ·rw[show(Bd.cas x (pY ls)).t = .t [.s "case",.s x,.t (pY ls).ts]from U,C2]at this
      exact this
     ·cases ls with
      | nil=>simp at hc;omega
      | cons _ _=>cases e
  ·let(ws,y,r,d,lg,U,_):=h;exact([y],(_,U,U),trivial)
theorem yG:∀ ws:List Str,L2.T.wC (ws.map .s)=O
 | []=>rfl
 | w::r=>by show(O&&L2.T.wC (r.map .s))=O;rw[yG r];rfl
def Nh:BF:=λts Q _=>ts = [.jS]/\∀ ks fs,uz ks fs ->(∀ z∈fs,z.2.cd<=39)->Q (pT ks fs)
theorem Kq(T:Txt K mg a):aR P w K mg base (CX1 P w) 60 a.ub a.Bw ["_law_deal_here"] (Ji K Nh):=by
 have bz:=mJ (@jF P w K mg base a T);refine T.BN.F.Qe fM (λts Q W h=>?_) (λ_ _ _ _ _ _ hr=>?_)
 ·let(U,_):=h;rfl
 ·have hu:=bg hr;refine(_,_,((ag (aY (a8 1 fM.nd (JH (bq (Km T) hr T.II (ae (qv 0) aC)))))
 (ag (aY (a8 2 fM.nd (bq bz hr T.bO (ae (qv 0) (ae ar aC)))))
 (ag (aY (nj (i:=3) fM.nd U (Or.inl U) U (lE U T.gX (ae (QPF.w (bq bz hr T.bO (ae (qv 0) (ae (QPF.w (gD (aN (af bN (af bN aF))) (QPF.w (aW jm mY (by rfl) T.uw (by kernel_rfl) (ae (QPF.w (gE (mz hu U) jq (bH _) (qv 2) ar)) aC))))) aC)))) aC)) (N':=["_law_k","_law_deal_here","_law_pool_here"]) (.own U (.got (i:=0) U U (.inl U) (.got (i:=1) U U (.inl U) .nil))) (ij (g:=(Tg.nm 0)) (λ_ _ _ _ _=>((pF 0),(bq (Ko T) hr T.IK (ae (qv 1) (ae (qv 2) aC))))))))
 (ag (aY (a8 4 fM.nd (aN aF)))
 (ag (aY (a8 5 fM.nd (aN (af (gD (aN (af bN (af bN (af bN aF)))) (QPF.w (bq bz hr T.bO (ae (qv 0) (ae ar aC))))) aF))))
 (ag (aY (a8 6 fM.nd (gE (mz hu U) jq (bH _) (QPF.w (bq bz hr T.bO (ae (qv 0) (ae ar aC)))) ar)))
 (ag (wm (g:=(Tg.nm 7)) PassesOwn.leaving U (je U T.gX (ae (QPF.w (bq bz hr T.bO (ae (qv 0) (ae (QPF.w (gD (aN (af bN (af bN aF))) (QPF.w (aW jm mY (by rfl) T.uw (by kernel_rfl) (ae (QPF.w (gE (mz hu U) jq (bH _) (qv 2) ar)) aC))))) aC)))) aC)) (gR 7 fM.nd)
 (ag (aY (a8 8 fM.nd (aN aF)))
 (ag (aY (iZ (g:=(Tg.nm 9)) PassesOwn.leaving U (je U T.gX (ae (QPF.w (bq bz hr T.bO (ae (qv 0) (ae (QPF.w (gD (aN (af bN (af bN aF))) (QPF.w (bq bz hr T.bO (ae (qv 0) (ae ar aC)))))) aC)))) aC)) (gR 9 fM.nd)
 (az (cU (i:=8) (pv 8) (cM (af (bq (wQ T) hr T.j8 (ae (qv 0) (ae (qv 1) aC))) (af (bq (wQ T) hr T.j8 (ae (qv 0) (ae (qv 1) aC))) aF)))))))
 (ag (cC (i:=10) fM.nd (kO (i:=5) (j:=2) (Ks T 40) hr.aP U T.fb.m T.fb.F.kp T.fb.b (gv (qv 0) (gv (qv 1) (nk (i:=5) (pv 5) (ae ar (ae (qv 6) aC)))))))
 (aI (aY (cU (i:=4) (pv 4) (cM (af (bq (wQ T) hr T.j8 (ae (qv 0) (ae (qv 1) aC))) (af (aW (cj U) cf (by rfl) T.dm (by kernel_rfl) (ae (qv 8) aC)) (af (bq (wQ T) hr T.j8 (ae (qv 0) (ae (qv 1) aC))) (af (QPE.f (qv 10)) aF))))))))))))
 (aI (aY (bp (cM (af (aW (cj U) cf (by rfl) T.dm (by kernel_rfl) (ae (qv 3) aC)) (af (aW (cj U) cf (by rfl) T.dm (by kernel_rfl) (ae (qv 4) aC)) aF)))))))))))))),λts Q W h=>?_)
  let(U,hq):=h;refine(U,λws w1 w2 hw=>(yG ws,by decide,by decide,λg g0 g1=>?_))
  let(m,em,m1):=pick (x:=4) (y:=7) (decide ((L2.T.i g).v =(L2.T.i 1).v));refine(U,_,em,by omega,by omega,λn n0 n1=>(by omega,by omega,bb (by rw[d7];omega),λi ys=>∃ ks:List Kd,ys=ks.map tK/\ks.length=i/\∀ k∈ks,z5 k,([],U,U,λ_ z=>nomatch z),?_,?_))
  ·rintro i x ys hx ⟨ks,rfl,hc,hk⟩
   let(U,hi):=jz hx;refine(_,U,ws,U,w1,w2,hw,λk aG=>(ks ++ [k],by simp,by simp[hc],λz hz=>?_))
   rcases j1.mp hz with z|z
   ·exact hk _ z
   ·rw[bB.mp z];exact aG
  rintro ys ⟨ks,rfl,aA,hk⟩
  rw[d7]at aA;refine(by decide,by decide,λc c0 c1=>?_)
  obtain⟨r,er,r0,r1⟩:∃ m:Int,atI [L2.T.i 14,.i 14,.i 48] c=Z (.i m)/\1<=m/\m<=48:=by
   rcases(by omega:c=0\/c=1\/c=2)with rfl|rfl|rfl
   ·exact(14,U,by decide,by decide)
   ·exact(14,U,by decide,by decide)
   ·exact(48,U,by decide,by decide)
  refine(_,er,by decide,by decide,λlg l0 l1=>(U,?_))
  generalize decide ((L2.T.i lg).v =(L2.T.i 1).v)=ah
  let(m,em,m1):=pick (x:=4) (y:=9) (decide ((L2.T.i g).v =(L2.T.i 2).v));refine(U,_,em,by omega,by omega,λn2 aX aS=>(by omega,by omega,λi q=>(∃(o7 o8 o9 V:Sl)(fs:List (Fh×Bd))(rr:Int),q = [.r .jS,.o (.zl (ws.map .s)),.o (.i g),.o (.l (ks.map tK)),.o (.l (fs.map fT)),.o (.l [.i rr]),.o (.b ah),o7,o8,o9,V]/\fs.length=i/\(∀ z∈fs,lu z/\z.2.cd<=39) /\ -6<=rr/\rr<=48),(_,_,_,_,[],r,U,U,(λ_ z=>nomatch z),by omega,by omega),?_,?_))
  ·rintro i k q hk ⟨o7,o8,o9,V,fs,rr,rfl,hc,hf,aj,ai⟩
   let(U,hi):=jz hk;refine(_,U,by decide,by decide,λe e0 e1=>?_)
   obtain⟨m2,aH,m3⟩:∃ m:Int,atI [L2.T.i 3,.i 5] e=Z (.i m)/\(m=3\/m=5):=by
    rcases(by omega:e=0\/e=1)with rfl|rfl
    ·exact(3,U,.inl U)
    ·exact(5,U,.inr U)
   refine(_,aH,by omega,by omega,λn3 aM aK=>(by omega,by omega,λj q=>(∃(o9:Sl)(ps:List (Str×Str)),q = [.r .jS,.o (.zl (ws.map .s)),.o (.i g),.o (.l (ks.map tK)),.o (.l (fs.map fT)),.o (.l [.i rr]),.o (.b ah),.r (.i (0+(i:Int))),.o (.l (ps.map λp=>.t [.s p.1,.s p.2])),o9,V]/\ps.length=j/\∀ p∈ps,ay p.1=O/\ay p.2=O),(_,[],U,U,(λ_ z=>nomatch z)),?_,?_))
   ·rintro j k q hk ⟨o9,ps,rfl,hc,hp⟩
    let(U,hj):=jz hk;refine(_,U,bb (by rw[gV];omega),ws,U,w1,w2,hw,λx hx=>(ws,U,w1,w2,hw,λz hz=>(_,ps ++ [(x,z)],by rw[tx];rfl,by simp[hc],λp ax=>?_)))
    rcases j1.mp ax with u|u
    ·exact hp p u
    ·rw[bB.mp u];exact(hx,hz)
   rintro q ⟨o9,ps,rfl,ak,hp⟩
   rw[d7]at ak;refine(_,U,U,U,U,λy=>(ws,y,rr,1,ah,U,w1,w2,hw,aj,ai,by decide,by decide,by decide,λb r' hb a3 s0 s1 a0=>(b.im,?_)))
   refine(bb (by rw[gV];omega),ws,U,w1,w2,hw,λx hx=>(pR ps,ws,U,w1,w2,hw,λz hz=>(b.im,_,_,_,_,fs ++ [((x,ps,z),b)],r',by rw[tx];rfl,by simp[hc],λu hu=>?_,s0,by omega)))
   rcases j1.mp hu with v|v
   ·exact hf u v
   ·rw[bB.mp v];exact((hx,hz,by show ps.length<=10;omega,hp,hb,by show b.wt<=2000;omega),by show b.cd<=39;omega)
  ·rintro q ⟨o7,o8,o9,V,fs,rr,rfl,hc,hf,aj,ai⟩
   rw[d7]at hc;exact(cG zC ks,cG LU fs,hq ks fs (hk,λz hz=>(hf z hz).1,by omega,by omega) λz hz=>(hf z hz).2)
theorem bC(h:n<=1000000):n<=j5:=rV (aD (by omega))
theorem assoc(a b c:Str):a++b++c=a++(b++c):=Str.append_assoc a b c
theorem empty_append(x:Str):("":Str)++x=x:=by
 show Str.empty++x=x;exact Str.empty_append x
theorem Bd.ne(b:Bd):b.ws ≠ []:=by
 cases b <;> exact xU _ _
theorem dD{r:List Str}(h:r ≠ []):Txt.join sep (x::r)=x++(sep++Txt.join sep r):=by
 cases r with
 | nil=>exact absurd U h
 | cons y r=>rw[jL,assoc]
def kh(z:Str×List Str×Bd):List Str:=z.1 ::(z.2.1++(":":Str)::z.2.2.ws)
theorem Lq:∀ as:Ar,as.ws=as.ls.flatMap λz=>("|":Str)::kh z
 | .nil=>rfl
 | .cons m ns b r=>by
  show("|":Str)::m ::(ns++(":":Str) ::(b.ws++r.ws)) =(("|":Str)::kh (m,ns,b))++r.ls.flatMap _
  rw[Lq r];simp[kh]
theorem Bk{α:Type}{f:α->List Str}(hf:∀ z,f z ≠ []):∀(z:α)(r:List α),Txt.join " " (f z++r.flatMap λy=>("|":Str)::f y)=Txt.join " | " ((z::r).map λy=>Txt.join " " (f y))
 | z,[]=>by rw[Vg,ko];exact tU.symm
 | z,y::r=>by
  rw[Ug,pQ (hf z) (by simp),Tw,dD (by simp[hf y]),Bk hf y r]
  simp only[OY];rw[jL];simp only[assoc];rw[show(" | ":Str) = " " ++ ("|" ++ " ")from by decide +kernel]
  simp only[assoc]
theorem Ip(z:Str×List Str×Bd):Txt.join " " (kh z)=Txt.join " " (z.1::z.2.1) ++ " : " ++ Txt.join " " z.2.2.ws:=by
 show Txt.join " " ((z.1::z.2.1)++(":":Str)::z.2.2.ws)=_;rw[pQ (by simp) (by simp),dD z.2.2.ne,show(" : ":Str) = " " ++ (":" ++ " ")from by decide +kernel]
 simp only[assoc]
theorem Lh(z:Str×List Str×Bd):kh z ≠ []:=xU _ _
theorem OC{as:Ar}(h:as ≠ .nil):Txt.join " " (Bd.cas x as).ws = "case " ++ (x++(" " ++ (Txt.join " | " (as.ls.map λz=>Txt.join " " (kh z)) ++ " end"))):=by
 cases as with
 | nil=>exact absurd U h
 | cons m ns b r =>
  have e:(Ar.cons m ns b r).ws.tail=kh (m,ns,b)++r.ls.flatMap λy=>("|":Str)::kh y:=by rw[Lq];rfl
  show Txt.join " " ("case" :: x ::((Ar.cons m ns b r).ws.tail ++ [("end":Str)]))=_
  rw[dD (by simp),dD (by simp),pQ (by rw[e];simp[kh]) (by simp),e,Bk Lh,tU,show("case ":Str) = "case" ++ " " from by decide +kernel,show(" end":Str) = " " ++ "end" from by decide +kernel]
  simp only[assoc];rfl
theorem Lc{w:Str}:Txt.join " " (Bd.gJ w n b).ws=w++(" " ++ (gS n++(" ; " ++ Txt.join " " b.ws))):=by
 show Txt.join " " (w::gS n :: ";" :: b.ws)=_;rw[dD (by simp),dD (by simp),dD b.ne,show(" ; ":Str) = " " ++ (";" ++ " ")from by decide +kernel]
 simp only[assoc]
theorem NG:Txt.join " " (Bd.nam x y b).ws = "let " ++ (x++(" name " ++ (y++(" ; " ++ Txt.join " " b.ws)))):=by
 show Txt.join " " ("let" :: x :: "name" :: y :: ";" :: b.ws)=_
 rw[dD (by simp),dD (by simp),dD (by simp),dD (by simp),dD b.ne,show(" ; ":Str) = " " ++ (";" ++ " ")from by decide +kernel,show("let ":Str) = "let" ++ " " from by decide +kernel,show(" name ":Str) = " " ++ ("name" ++ " ")from by decide +kernel]
 simp only[assoc]
theorem Qm{w:Str}:Txt.join " " (Bd.mk w x y ns b).ws=Txt.join " " (("let":Str)::x::w::y::ns)++(" ; " ++ Txt.join " " b.ws):=by
 show Txt.join " " ((("let":Str)::x::w::y::ns)++(";":Str)::b.ws)=_
 rw[pQ (by simp) (by simp),dD b.ne,show(" ; ":Str) = " " ++ (";" ++ " ")from by decide +kernel]
 simp only[assoc]
theorem E8(h:b.ok)(hw:b.wt<=2000):(Txt.join " " b.ws).length<=20000:=by
 have h1:=pP " " b.ws;have h2:=(Bd.sh h).sum;have h3:=b.wl;rw[show(" ":Str).length=1 from by decide]at h1
 omega
theorem never{w:World}{K:W.Frag}{CX:CXT}{k:Nat}{f:J}{fd:FuncData}{ps:List Str}{sp:PSp}(h:∀ ts Q,¬ sp ts Q):aR P w K mg base CX k f fd ps (spQ K sp) :=
 (λ_ _ _ _ g=>by let(_,ts,_,Qp,_,_,z,_):=g;exact(h ts Qp z).elim,λ_ _ _ _ _ _ _ _ _ _ _ _ _ g=>by let(_,ts,_,Qp,_,_,z,_):=g;exact(h ts Qp z).elim)
def M3(n:Nat):PSp:=λts Q=>∃ b:Bd,ts = [b.t]/\b.ok/\b.wt<=2000/\b.cd<n/\Q (.s (Txt.join " " b.ws))
theorem Hg:∀ as:Ar,as.ls.length<=as.wt
 | .nil=>lx _
 | .cons m ns b r=>by show r.ls.length+1<=3+ns.length+b.wt+r.wt;have:=Hg r;omega
theorem Hf:∀{as:Ar},as.ok->∀ z∈as.ls,ay z.1=O/\(∀ k∈z.2.1,ay k=O)/\z.2.2.ok/\z.2.2.wt<=as.wt/\z.2.1.length<=as.wt/\z.2.2.cd<=as.cd
 | .nil,_,z,g=>nomatch g
 | .cons m ns b r,(h1,h2,h3,h4),z,g=>by
  have V:(Ar.cons m ns b r).wt=3+ns.length+b.wt+r.wt:=rfl;have Q:(Ar.cons m ns b r).cd=max b.cd r.cd:=rfl;rcases i8.mp (show z∈(m,ns,b)::r.ls from g)with u|u
  ·subst u;exact(h1,h2,h3,by show b.wt<=_;omega,by show ns.length<=_;omega,by show b.cd<=_;omega)
  ·let(g1,g2,g3,P,K,q):=Hf h4 z u;exact(g1,g2,g3,by omega,by omega,by omega)
def aT(z:Str×List Str×Bd):L2.T:=.s (Txt.join " " (kh z))
theorem vP{z:Str×List Str×Bd}(g1:ay z.1=O)(g2:∀ k∈z.2.1,ay k=O)(g3:z.2.2.ok)(q:z.2.2.wt<=2000)(Q:z.2.1.length<=2000) :
  txs ([L2.T.s z.1]++z.2.1.map L2.T.s)=Z (z.1::z.2.1)/\((z.1::z.2.1).map (·.length)).sum+(z.1::z.2.1).length*(Str.ofString " ").length<=16777216 /\ [L2.T.s z.1].length+(z.2.1.map L2.T.s).length<=j5 /\
  (Txt.join " " (z.1::z.2.1)).length+(" : ":Str).length<=j5/\(Txt.join " " (z.1::z.2.1) ++ " : ").length+(Txt.join " " z.2.2.ws).length<=j5:=by
 have hs:((z.1::z.2.1).map (·.length)).sum<=8*(z.1::z.2.1).length:=Sh.sum (.cons (bG g1).2 (.nm g2));rw[mu]at hs;have l1:(Str.ofString " ").length=1:=by decide +kernel
 have K:(Str.ofString " : ").length=3:=by decide +kernel
 have g:=pP " " (z.1::z.2.1);rw[mu,l1]at g;have P:=E8 g3 q;refine(fh (z.1::z.2.1),by rw[l1,mu];omega,bC (by rw[gV];show 1+z.2.1.length<=_;omega),bC (by omega),bC (by rw[Str.length_append];omega))
def TxI(n:Nat)(g:Bd)(q:Sq)(c:Nat):Prop:=∃(o0:Sl)(b:Bd)(fo:Str),q = [o0,.o (.s fo),.no,.no,.no,.no]/\(o0 = .r b.t\/o0 = .o b.t)/\b.ok/\b.wt<=2000/\b.cd<n+1/\fo++Txt.join " " b.ws=Txt.join " " g.ws/\c=b.wt
theorem wU(T:Txt K mg a)(n:Nat):aR P w K mg base CX0 (n+1) a.iR a.qR ["_law_body_here"] (spQ K (M3 n)):=by
 induction n with
 | zero=>exact never λts Q h=>by let(b,_,_,_,z,_):=h;omega
 | succ n lr =>
  refine T.lA.F.okQ bQ (λts Q h=>?_) (λ_ _ _ _ _ _ hr=>?_)
  ·let(_,U,_):=h;rfl
  ·have hu:=bg hr;refine(_,_,((av (a8 1 bQ.nd aw)
 (av (sU PassesOwn.never (cS (vt U) lY U (a6 (qv 0) ar) (QPF.w (cM (iH (by rfl)))))
 (av (fC (cS (tI U) lY U (a6 (qv 0) ar) (QPF.w (cM (iH (by rfl)))))
 (az (a8 1 bQ.nd (aO (QPF.w (aO (QPF.w (aO (QPF.w (aO (qv 1) (a6 (qv 0) ar))) (QPF.w aw))) (QPF.w (aW vJ yk (by rfl) T.vO (by kernel_rfl) (ae (a6 (qv 0) ar) aC))))) (QPF.w aw))))
 (az (fC (gN hu (a6 (qv 0) ar) (QPF.w aw))
 (az (a8 1 bQ.nd (aO (QPF.w (aO (QPF.w (aO (QPF.w (aO (QPF.w (aO (qv 1) (QPF.w aw))) (a6 (qv 0) ar))) (QPF.w aw))) (a6 (qv 0) ar))) (QPF.w aw))))
 (az (a8 1 bQ.nd (aO (QPF.w (aO (qv 1) (QPF.w (fP (QPF.w aw) (QPF.w (aO (QPF.w (aN (af aw (af (QPE.f (a6 (qv 0) ar)) (af (QPE.f (a6 (qv 0) ar)) (af (QPE.f (a6 (qv 0) ar)) aF)))))) (QPF.w (aW (jl U) jc (by rfl) T.lj (by kernel_rfl) (ae (a6 (qv 0) ar) aC))))))))) (QPF.w aw)))))))
 (az (a8 0 bQ.nd (QPE.f (a6 (qv 0) (QPF.w (MI ar))))))))
 (av (fC (gN hu (a6 (qv 0) ar) (QPF.w aw))
 (az (bp (aO (QPF.w (aO (qv 1) (QPF.w aw))) (a6 (qv 0) ar))))
 bh)
 (av (a8 2 bQ.nd (aN aF))
 (av (iZ (g:=(Tg.tp [3,4,5])) PassesOwn.never U (sV (QPE.f (a6 (qv 0) ar))) (wF (K:=K) (n:=3) U U (fQ (gR 3 bQ.nd) (fQ (gR 4 bQ.nd) (fQ (gR 5 bQ.nd) wD))))
 (az (cU (i:=2) (pv 2) (aO (QPF.w (aO (QPF.w (fP (QPF.w aw) (QPF.w (aO (QPF.w (aN (af (QPE.f (qv 3)) aF))) (QPF.w (aW (jl U) jc (by rfl) T.lj (by kernel_rfl) (ae (qv 4) aC))))))) (QPF.w aw))) (QPF.w (bq lr hr T.lA (ae (qv 5) aC)))))))
 (az (bp (aO (QPF.w (aO (QPF.w (aO (QPF.w (aO (QPF.w (aO (qv 1) (QPF.w aw))) (a6 (qv 0) ar))) (QPF.w aw))) (QPF.w (fP (QPF.w aw) (qv 2))))) (QPF.w aw)))))))))),λts Q h=>?_)
   let(b0,U,ax,ak,aA,hq):=h;have aG:=E8 ax ak;refine(λc q=>TxI n b0 q c,(_,_,b0,"",U,.inl U,ax,ak,aA,empty_append _,U),?_)
   rintro c q ⟨o0,b,fo,rfl,ho,hb,hw,hn,hf,rfl⟩
   have V:fo.length+(Txt.join " " b.ws).length<=20000:=by rw[<- Str.length_append,hf];exact aG
   cases b with
   | give x =>
    have e:Txt.join " " (Bd.give x).ws = "give " ++ x:=by
     show Txt.join " " ["give",x]=_;rw[jL,tU];rfl
    rw[e]at hf V;rw[<- hf,<- assoc]at hq;rw[Str.length_append]at V;rcases ho with rfl|rfl
    all_goals
     refine(_,U,U,a5 (λz=>absurd z (by decide +kernel)) (λ_=>?_))
     refine(_,U,U,a5 (λ_=>?_) (λz=>absurd (by decide +kernel) z))
     exact(bC (by omega),_,U,bC (by rw[Str.length_append];omega),hq)
   | gJ w k b =>
    let(ah,k1,k2,hb):=hb;have ai:(Bd.gJ w k b).wt=4+b.wt:=rfl;have aj:(Bd.gJ w k b).cd=b.cd:=rfl;rw[Lc]at hf V;simp only[Str.length_append]at V;have hf:fo++w ++ " " ++ gS k ++ " ; " ++ Txt.join " " b.ws=Txt.join " " b0.ws:=by rw[<- hf];simp only[assoc]
    have ln:=(wV k2).2;have lw:w.length=3:=by rcases ah with rfl|rfl <;> decide +kernel
    have l1:(" ":Str).length=1:=by decide +kernel
    have l3:(" ; ":Str).length=3:=by decide +kernel
    rcases ah with rfl|rfl
    all_goals
     rcases ho with rfl|rfl
     all_goals
      refine(_,U,U,a5 (λ_=>?_) (λz=>absurd (by decide +kernel) z))
      refine(λq=>∃ c,c<_/\TxI n b0 q c,λq h=>h,?_)
      refine(_,U,U,a5 (λ_=>?_) (λz=>absurd (by decide +kernel) z))
      refine(_,U,bC (by omega),bC (by rw[Str.length_append];omega),_,U,vv k2,bC (by simp only[Str.length_append];omega),bC (by simp only[Str.length_append];omega),?_)
      exact(_,U,b.im,b.wt,by omega,_,b,_,U,.inr U,hb,by omega,by omega,hf,U)
   | nam x y b =>
    let(h1,h2,hb):=hb;have ai:(Bd.nam x y b).wt=6+b.wt:=rfl;have aj:(Bd.nam x y b).cd=b.cd:=rfl;rw[NG]at hf V;simp only[Str.length_append]at V;have hf:fo ++ "let " ++ x ++ " name " ++ y ++ " ; " ++ Txt.join " " b.ws=Txt.join " " b0.ws:=by rw[<- hf];simp only[assoc]
    rcases ho with rfl|rfl
    all_goals
     refine(_,U,U,a5 (λ_=>?_) (λz=>absurd (by decide +kernel) z))
     refine(λq=>∃ c,c<_/\TxI n b0 q c,λq h=>h,?_)
     refine(_,U,U,a5 (λz=>absurd z (by decide +kernel)) (λ_=>?_))
     refine(_,U,U,a5 (λ_=>?_) (λz=>absurd (by decide +kernel) z))
     refine(bC (by omega),_,U,bC (by simp only[Str.length_append];omega),bC (by simp only[Str.length_append];omega),_,U,bC (by simp only[Str.length_append];omega),bC (by simp only[Str.length_append];omega),?_)
     exact(_,U,b.im,b.wt,by omega,_,b,_,U,.inr U,hb,by omega,by omega,hf,U)
   | mk w x y ns b =>
    let(ah,h1,h2,h3,hb):=hb;have ai:(Bd.mk w x y ns b).wt=6+ns.length+b.wt:=rfl;have aj:(Bd.mk w x y ns b).cd=b.cd:=rfl;rw[Qm]at hf V;simp only[Str.length_append]at V;have hf:fo++Txt.join " " (("let":Str)::x::w::y::ns) ++ " ; " ++ Txt.join " " b.ws=Txt.join " " b0.ws:=by rw[<- hf];simp only[assoc]
    have hs:((("let":Str)::x::w::y::ns).map (·.length)).sum<=8*(("let":Str)::x::w::y::ns).length:=Sh.sum (.cons (by decide) (.cons (bG h1).2 (.cons (by rcases ah with h|h <;> rw[h] <;> decide) (.cons (bG h2).2 (.nm h3)))))
    have hi:=aZ ns;have t1:(!inT (.s w) [.s "give",.s "case"])=true:=by rcases ah with rfl|rfl <;> decide +kernel
    have t2:¬ inT (.s w) [.s "pay",.s "get"]=true:=by rcases ah with rfl|rfl <;> decide +kernel
    have t3:¬ decide ((L2.T.s w).v =(L2.T.s "name").v)=true:=by rcases ah with rfl|rfl <;> decide +kernel
    have l1:(Str.ofString " ").length=1:=by decide +kernel
    have le:(("let":Str)::x::w::y::ns).length=ns.length+4:=rfl
    rw[le]at hs;have et:txs ([L2.T.s "let",.s x,.s w,.s y]++ns.map L2.T.s)=Z (("let":Str)::x::w::y::ns):=fh (("let":Str)::x::w::y::ns)
    have eb:((("let":Str)::x::w::y::ns).map (·.length)).sum+(("let":Str)::x::w::y::ns).length*(Str.ofString " ").length<=16777216:=by rw[l1,le];omega
    have el:[L2.T.s "let",.s x,.s w,.s y].length+(ns.map L2.T.s).length<=j5:=bC (by rw[gV];show 4+ns.length<=_;omega)
    have e2:fo.length+(Txt.join " " (("let":Str)::x::w::y::ns)).length<=j5:=bC (by omega)
    have e3:(fo++Txt.join " " (("let":Str)::x::w::y::ns)).length+(" ; ":Str).length<=j5:=bC (by rw[Str.length_append];omega)
    rcases ho with rfl|rfl
    ·refine(_,U,U,a5 (λ_=>?_) (λz=>absurd t1 z))
     refine(λq=>∃ c,c<_/\TxI n b0 q c,λq h=>h,?_)
     refine(_,U,U,a5 (λz=>absurd z t2) (λ_=>?_))
     refine(_,U,U,a5 (λz=>absurd z t3) (λ_=>?_))
     refine(_,U,U,_,U,U,_,U,U,_,U,hi,el,U,hi,_,et,eb,e2,e3,?_);exact(_,U,b.im,b.wt,by omega,_,b,_,U,.inr U,hb,by omega,by omega,hf,U)
    ·refine(_,U,U,a5 (λ_=>?_) (λz=>absurd t1 z))
     refine(λq=>∃ c,c<_/\TxI n b0 q c,λq h=>h,?_)
     refine(_,U,U,a5 (λz=>absurd z t2) (λ_=>?_))
     refine(_,U,U,a5 (λz=>absurd z t3) (λ_=>?_))
     refine(_,U,U,_,U,U,_,U,U,_,U,hi,el,U,hi,_,et,eb,e2,e3,?_);exact(_,U,b.im,b.wt,by omega,_,b,_,U,.inr U,hb,by omega,by omega,hf,U)
   | cas x as =>
    let(h1,h2,h3):=hb;have ai:(Bd.cas x as).wt=4+as.wt:=rfl;have aj:(Bd.cas x as).cd=as.cd+1:=rfl;rw[OC h2]at hf V;simp only[Str.length_append]at V;have hf:fo ++ "case " ++ x ++ " " ++ Txt.join " | " (as.ls.map λz=>Txt.join " " (kh z)) ++ " end" = Txt.join " " b0.ws:=by rw[<- hf];simp only[assoc]
    rw[<- hf]at hq;have aH:=Hg as;have e1:fo.length+("case ":Str).length<=j5:=bC (by omega)
    have e2:(fo ++ "case ").length+x.length<=j5:=bC (by simp only[Str.length_append];omega)
    have e3:(fo ++ "case " ++ x).length+(" ":Str).length<=j5:=bC (by simp only[Str.length_append];omega)
    have e4:txs (as.ls.map aT)=Z (as.ls.map λz=>Txt.join " " (kh z)):=by
     rw[<- fh,EU];rfl
    have e5:((as.ls.map λz=>Txt.join " " (kh z)).map (·.length)).sum+(as.ls.map λz=>Txt.join " " (kh z)).length*(Str.ofString " | ").length<=16777216:=by
     have h:(Txt.join " | " (as.ls.map λz=>Txt.join " " (kh z))).length=_:=PySem.size_glued " | " (as.ls.map λz=>Txt.join " " (kh z))
     rw[show(Str.ofString " | ").length=3 from by decide +kernel]at h ⊢
     rw[gV]at h ⊢;omega
    have e6:(fo ++ "case " ++ x ++ " ").length+(Txt.join " | " (as.ls.map λz=>Txt.join " " (kh z))).length<=j5:=bC (by simp only[Str.length_append];omega)
    have e7:(fo ++ "case " ++ x ++ " " ++ Txt.join " | " (as.ls.map λz=>Txt.join " " (kh z))).length+(" end":Str).length<=j5:=bC (by simp only[Str.length_append];omega)
    rcases ho with rfl|rfl
    ·refine(_,U,U,a5 (λz=>absurd z (by decide +kernel)) (λ_=>?_))
     refine(_,U,U,a5 (λz=>absurd z (by decide +kernel)) (λ_=>?_))
     refine(_,U,as.im,λi q=>∃(o3 o4 o5:Sl),q = [.r (Bd.cas x as).t,.o (.s fo),.o (.l ((as.ls.take i).map aT)),o3,o4,o5],(_,_,_,U),?_,?_)
     ·rintro i t q ht ⟨o3,o4,o5,rfl⟩
      rw[vj,qx]at ht;let(z,hz,U):=j3.mp ht;let(g1,g2,g3,g4,g5,g6):=Hf h3 z (u3 hz);let(et,eb,el,e2,e3):=vP g1 g2 g3 (by omega) (by omega)
      have hi:=aZ z.2.1;refine(_,U,aD (by rw[gV,BJ];omega),?_)
      refine(U,hi,el,U,hi,_,et,eb,e2,z.2.2,U,g3,by omega,by omega,e3,?_)
      have es:(as.ls.take (i+1)).map aT =(as.ls.take i).map aT ++ [.s (Txt.join " " (z.1::z.2.1) ++ " : " ++ Txt.join " " z.2.2.ws)]:=by
       rw[x2,hz,tx,<- Ip];rfl
      exact(_,_,_,by rw[es];rfl)
     ·rintro q ⟨o3,o4,o5,rfl⟩
      rw[vj,gV,z6];exact(e1,_,U,e2,e3,_,e4,e5,e6,e7,hq)
    ·refine(_,U,U,a5 (λz=>absurd z (by decide +kernel)) (λ_=>?_))
     refine(_,U,U,a5 (λz=>absurd z (by decide +kernel)) (λ_=>?_))
     refine(_,U,as.im,λi q=>∃(o3 o4 o5:Sl),q = [.o (Bd.cas x as).t,.o (.s fo),.o (.l ((as.ls.take i).map aT)),o3,o4,o5],(_,_,_,U),?_,?_)
     ·rintro i t q ht ⟨o3,o4,o5,rfl⟩
      rw[vj,qx]at ht;let(z,hz,U):=j3.mp ht;let(g1,g2,g3,g4,g5,g6):=Hf h3 z (u3 hz);let(et,eb,el,e2,e3):=vP g1 g2 g3 (by omega) (by omega)
      have hi:=aZ z.2.1;refine(_,U,aD (by rw[gV,BJ];omega),?_)
      refine(U,hi,el,U,hi,_,et,eb,e2,z.2.2,U,g3,by omega,by omega,e3,?_)
      have es:(as.ls.take (i+1)).map aT =(as.ls.take i).map aT ++ [.s (Txt.join " " (z.1::z.2.1) ++ " : " ++ Txt.join " " z.2.2.ws)]:=by
       rw[x2,hz,tx,<- Ip];rfl
      exact(_,_,_,by rw[es];rfl)
     ·rintro q ⟨o3,o4,o5,rfl⟩
      rw[vj,gV,z6];exact(e1,_,U,e2,e3,_,e4,e5,e6,e7,hq)
theorem S0(z:Fh×Bd):gy z=Txt.join " " (("def":Str)::z.1.nm::pws z.1.ps) ++ " to " ++ z.1.kd ++ " : " ++ Txt.join " " z.2.ws:=by
 show Txt.join " " ((("def":Str)::z.1.nm::pws z.1.ps)++("to":Str)::z.1.kd :: ":" :: z.2.ws)=_;rw[pQ (xU _ _) (xU _ _)]
 generalize Txt.join " " (("def":Str)::z.1.nm::pws z.1.ps)=D
 rw[dD (xU _ _),dD (xU _ _),dD z.2.ne,show(" to ":Str) = " " ++ ("to" ++ " ")from by decide +kernel,show(" : ":Str) = " " ++ (":" ++ " ")from by decide +kernel]
 simp only[assoc]
def M6:PSp:=λts Q=>∃ ks fs,ts = [pT ks fs]/\uz ks fs/\(∀ z∈fs,z.2.cd<=39)/\Q (.l ((ks.map fc++fs.map gy).map .s))
theorem Kk(T:Txt K mg a):aR P w K mg base CX0 42 a.xr a.HZ ["_law_program"] (spQ K M6):=by
 refine T.IH.F.okQ fL (λts Q h=>?_) (λ_ _ _ _ _ _ hr=>?_)
 ·let(_,_,U,_):=h;rfl
 ·have hu:=bg hr;refine(_,_,((av (a8 1 fL.nd (aN aF))
 (av (iZ (g:=(Tg.tp [2,3])) PassesOwn.never U (sV (QPE.f (a6 (qv 0) ar))) (AX (gR 2 fL.nd) (gR 3 fL.nd))
 (av (nj (i:=4) fL.nd U (Or.inl U) U (wo (qv 3)) (N':=["_law_maker","_law_fields"]) (.own U (.own U .nil)) (ij (g:=(Tg.tp [0,1])) (λ_ _ _ _ _=>((AX (pF 0) (pF 1)),(fP (QPF.w aw) (QPF.w (aO (QPF.w (aN (af (QPE.f (qv 0)) aF))) (QPF.w (aW (jl U) jc (by rfl) T.lj (by kernel_rfl) (ae (qv 1) aC))))))))))
 (az (cU (i:=1) (pv 1) (aO (QPF.w (aO (QPF.w (aO (QPF.w aw) (qv 2))) (QPF.w aw))) (QPF.w (fP (QPF.w aw) (qv 4))))))))
 (av (iZ (g:=(Tg.tp [2,5,6,7])) PassesOwn.never U (sV (QPE.f (a6 (qv 0) ar))) (wF (K:=K) (n:=4) U U (fQ (gR 2 fL.nd) (fQ (gR 5 fL.nd) (fQ (gR 6 fL.nd) (fQ (gR 7 fL.nd) wD)))))
 (av (a8 8 fL.nd (aN (af aw (af (QPE.f (qv 2)) aF))))
 (av (iZ (g:=(Tg.nm 9)) PassesOwn.never U (sV (QPE.f (qv 5))) (gR 9 fL.nd)
 (az (fD (i:=8) (pv 8) (aW (jl U) jc (by rfl) T.lj (by kernel_rfl) (ae (qv 9) aC)))))
 (az (cU (i:=1) (pv 1) (aO (QPF.w (aO (QPF.w (aO (QPF.w (aO (QPF.w (fP (QPF.w aw) (qv 8))) (QPF.w aw))) (qv 6))) (QPF.w aw))) (QPF.w (bq (wU T 40) hr T.lA (ae (qv 7) aC)))))))))
 (az (sf (i:=1) (pv 1))))))),λts Q h=>?_)
  let(ks,fs,U,hp,hd,hq):=h;have hl:=hp.l;refine(_,U,cG zC ks,λi q=>∃(o2 o3 o4:Sl),q = [.r (pT ks fs),.o (.l (((ks.take i).map fc).map .s)),o2,o3,o4,.no,.no,.no,.no,.no],(_,_,_,U),?_,?_)
  ·rintro i t q V ⟨o2,o3,o4,rfl⟩
   rw[qx]at V;let(k,hk,U):=j3.mp V;have ok:=hp.k k (u3 hk);have e1:∀ m∈k.2,txs ([L2.T.s m.1]++m.2.map L2.T.s)=Z (m.1::m.2):=λm _=>fh (m.1::m.2)
   refine(_,U,bb (by rw[gV];have:=ok.l;omega),λj ys=>ys =(k.2.take j).map λm=>.s (Txt.join " " (m.1::m.2)),U,?_,?_)
   ·rintro j t ys V rfl
    rw[qx]at V;let(m,hm,U):=j3.mp V;have mo:=ok.m m (u3 hm);have hi:=aZ m.2;have ml:=A8 mo;refine(_,U,U,hi,bC (by rw[gV];show 1+m.2.length<=_;omega),U,hi,_,e1 m (u3 hm),by rw[mu,show(Str.ofString " ").length=1 from by decide +kernel];omega,?_)
    rw[x2,hm,tx];rfl
   ·rintro ys rfl
    rw[gV,z6];have kl:=tS ok;unfold fc at kl;simp only[Str.length_append]at kl;have e2:txs (k.2.map λm=>L2.T.s (Txt.join " " (m.1::m.2)))=Z (k.2.map λm=>Txt.join " " (m.1::m.2)):=by rw[<- fh,EU];rfl
    have e3:=si ok.m;have e4:=ok.l;have ek:((ks.take (i+1)).map fc).map L2.T.s =((ks.take i).map fc).map L2.T.s ++ [.s (fc k)]:=by
     rw[x2,hk,tx,tx];rfl
    refine(aD (by rw[gV,gV,BJ];omega),bC (by omega),bC (by simp only[Str.length_append];omega),_,e2,by rw[gV,show(Str.ofString " | ").length=3 from by decide +kernel];omega,bC (by simp only[Str.length_append];omega),?_)
    exact(_,_,_,by rw[ek];rfl)
  rintro q ⟨o2,o3,o4,rfl⟩
  rw[gV,z6];refine(_,U,cG LU fs,λi q=>∃(o2 o3 o4 o5 o6 o7 o8 o9:Sl),q = [.r (pT ks fs),.o (.l ((ks.map fc++(fs.take i).map gy).map .s)),o2,o3,o4,o5,o6,o7,o8,o9],(_,_,_,_,_,_,_,_,by rw[List.take_zero,List.map_nil,ko]),?_,?_)
  ·rintro i t q V ⟨o2,o3,o4,o5,o6,o7,o8,o9,rfl⟩
   rw[qx]at V;let(z,hz,U):=j3.mp V;have hm:=u3 hz;have ok:=hp.f z hm;have ol:=ok.l;refine(_,U,U,pR z.1.ps,λj q=>∃(o9:Sl),q = [.r (pT ks fs),.o (.l ((ks.map fc++(fs.take i).map gy).map .s)),.r (.s z.1.nm),o3,o4,.r (tPs z.1.ps),.r (.s z.1.kd),.r z.2.t,.o (.l ((("def":Str)::z.1.nm::pws (z.1.ps.take j)).map .s)),o9],(_,U),?_,?_)
   ·rintro j t q V ⟨o9,rfl⟩
    rw[qx]at V;let(p,ai,U):=j3.mp V;have ep:(("def":Str)::z.1.nm::pws (z.1.ps.take (j+1))).map L2.T.s =(("def":Str)::z.1.nm::pws (z.1.ps.take j)).map L2.T.s ++ [.s p.1,.s p.2]:=by
     rw[x2,ai];unfold pws;rw[TX];simp
    have el:(pws (z.1.ps.take j)).length<=20:=by rw[lH,BJ];omega
    refine(_,U,U,bC (by rw[gV,mu,mu];show _+2<=_;omega),_,by rw[ep];rfl)
   ·rintro q ⟨o9,rfl⟩
    rw[gV,z6];have ft:=S0 z;have fl:=zH ok;rw[ft]at fl;simp only[Str.length_append]at fl;have hs:((("def":Str)::z.1.nm::pws z.1.ps).map (·.length)).sum<=8*(("def":Str)::z.1.nm::pws z.1.ps).length:=Sh.sum (.cons (by decide) (.cons (bG ok.n).2 (GA ok.p)))
    have aj:=lH z.1.ps;have ah:(("def":Str)::z.1.nm::pws z.1.ps).length =(pws z.1.ps).length+2:=rfl;rw[ah]at hs;have ef:((ks.map fc++(fs.take (i+1)).map gy).map L2.T.s) =(ks.map fc++(fs.take i).map gy).map L2.T.s ++ [.s (gy z)]:=by
     rw[x2,hz,tx (l₁:=fs.take i),<- BI,tx];rfl
    rw[ft]at ef;refine(aD (by rw[gV,px,gV,gV,BJ];omega),_,fh (("def":Str)::z.1.nm::pws z.1.ps),by rw[ah,show(Str.ofString " ").length=1 from by decide +kernel];omega,bC (by omega),bC (by simp only[Str.length_append];omega),bC (by simp only[Str.length_append];omega),z.2,U,ok.b,ok.w,by have:=hd z hm;omega,bC (by simp only[Str.length_append];omega),?_)
    exact(_,_,_,_,_,_,_,_,by rw[ef];rfl)
  ·rintro q ⟨o2,o3,o4,o5,o6,o7,o8,o9,rfl⟩
   rw[gV,z6];exact hq
mutual
inductive Tr
 | s(x:Str)
 | i(n:Int)
 | t(xs:Trs)
inductive Trs
 | nil
 | cons(x:Tr)(r:Trs)
end
mutual
def Tr.T:Tr->L2.T
 | .s x=>.s x
 | .i n=>.i n
 | .t xs=>.t xs.T
def Trs.T:Trs->List L2.T
 | .nil=>[]
 | .cons x r=>x.T::r.T
end
mutual
def Tr.sz:Tr->Nat
 | .s _=>1
 | .i _=>1
 | .t xs=>xs.sz+1
def Trs.sz:Trs->Nat
 | .nil=>0
 | .cons x r=>x.sz+r.sz
end
mutual
theorem Tr.im:∀ t:Tr,t.T.im=O
 | .s _=>rfl
 | .i _=>rfl
 | .t xs=>xs.im
theorem Trs.im:∀ xs:Trs,L2.T.ims xs.T=O
 | .nil=>rfl
 | .cons x r=>by show(x.T.im&&L2.T.ims r.T)=O;rw[x.im,r.im];rfl
end
def Trs.l:Trs->List Tr
 | .nil=>[]
 | .cons x r=>x::r.l
def szs(ss:List Tr):Nat:=(ss.map Tr.sz).sum
theorem Trs.szl:∀ xs:Trs,szs xs.l=xs.sz
 | .nil=>rfl
 | .cons x r=>by show x.sz+szs r.l=x.sz+r.sz;rw[r.szl]
theorem Trs.tl:∀ xs:Trs,xs.T=xs.l.map Tr.T
 | .nil=>rfl
 | .cons x r=>by show x.T::r.T=_;rw[r.tl];rfl
theorem v7(a b:List Tr):szs (a++b)=szs a+szs b:=by unfold szs;rw[tx,Uu]
theorem Tr.pos(t:Tr):1<=t.sz:=by
 cases t with
 | s x=>exact lx _
 | i n=>exact lx _
 | t xs=>exact Nat.le_add_left _ _
theorem w6:∀ xs:List Tr,xs.length<=szs xs
 | []=>lx _
 | x::r=>by show r.length+1<=x.sz+szs r;have:=x.pos;have:=w6 r;omega
def pr(t:Tr):L2.T:=.t [t.T,t.T]
theorem EV:∀ xs:Trs,IZ xs.T xs.T=xs.l.map pr
 | .nil=>rfl
 | .cons x r=>by show pr x::IZ r.T r.T=_;rw[EV r];rfl
theorem P6(t:Tr):(pr t).im=true:=by show(t.T.im&&(t.T.im&&O))=O;rw[t.im];rfl
def J1:PSp:=λts Q=>∃ t:Tr,ts = [t.T,t.T]/\t.sz<=100000/\Q (.b O)
theorem zd(T:Txt K mg a):aR P w K mg base CX0 1 a.sv a.CS ["_law_found","_law_due"] (spQ K J1):=by
 refine T.x4.F.okQ m6 (λts Q h=>?_) (λ_ _ _ _ _ _ hr=>?_)
 ·let(_,U,_):=h;rfl
 ·have hu:=bg hr;refine(_,_,((av (a8 2 m6.nd (aN (af (cM (af (QPE.f (qv 0)) (af (QPE.f (qv 1)) aF))) aF)))
 (av (sU PassesOwn.never (cS (G4 hu U) DC (bH _) (qv 2) (QPF.w (aN aF)))
 (av (JA (g:=(Tg.tp [3,4])) (i:=2) (pv 2) (AX (gR 3 m6.nd) (gR 4 m6.nd)))
 (az (fC (bE (QPF.w (du (fE U) iE (by rfl) T.cI (by kernel_rfl) (ae (qv 4) (ae (QPF.w (qD (n:="tuple") U T.dm (by kernel_rfl))) aC)))))
 (av (fC (QPW.pt (ng (kL (bE (QPF.w (du (fE U) iE (by rfl) T.cI (by kernel_rfl) (ae (qv 3) (ae (QPF.w (qD (n:="tuple") U T.dm (by kernel_rfl))) aC)))))) (pj (cS iK fK (bH _) (QPF.w (kP T.oq (ae (qv 3) aC))) (QPF.w (kP T.oq (ae (qv 4) aC)))))))
 (az (bp sY))
 bh)
 (az (fD (i:=2) (pv 2) (AL U U T.lj U T.Rz (ae (qv 3) (ae (qv 4) aC))))))
 (az (fC (bE (QPF.w (du (fE U) iE (by rfl) T.cI (by kernel_rfl) (ae (qv 4) (ae (QPF.w (qD (n:="str") U T.vO (by kernel_rfl))) aC)))))
 (az (fC (QPW.pt (ng (kL (bE (QPF.w (du (fE U) iE (by rfl) T.cI (by kernel_rfl) (ae (qv 3) (ae (QPF.w (qD (n:="str") U T.vO (by kernel_rfl))) aC)))))) (pj (cS iK fK (bH _) (qv 3) (qv 4)))))
 (az (bp sY))
 bh))
 (az (fC (QPW.pt (ng (kL (bE (QPF.w (du (fE U) iE (by rfl) T.cI (by kernel_rfl) (ae (qv 3) (ae (QPF.w (qD (n:="int") U T.uw (by kernel_rfl))) aC)))))) (ng (bE (QPF.w (du (fE U) iE (by rfl) T.cI (by kernel_rfl) (ae (qv 3) (ae (QPF.w (qD (n:="bool") U T.OE (by kernel_rfl))) aC))))) (pj (cS iK fK (bH _) (qv 3) (qv 4))))))
 (az (bp sY))
 bh))))))))
 (az (bp sY))))),λts Q h=>?_)
  let(t,U,hz,hq):=h;refine(t.im,t.im,λc q=>∃(o3 o4:Sl)(ss:List Tr),q = [.r t.T,.r t.T,.o (.l (ss.map pr)),o3,o4]/\szs ss<=100000/\c=szs ss,(_,_,_,[t],U,by show t.sz+0<=_;omega,U),?_)
  rintro c q ⟨o3,o4,ss,rfl,hl,rfl⟩
  rcases Uk ss with rfl |⟨ss,x,rfl⟩
  ·exact hq
  rw[UR]at hl ⊢;rw[v7]at hl;refine a5 (λ_=>?_) (λz=>absurd (by simp) z)
  refine(λq=>∃(o3 o4:Sl)(V:List Tr),q = [.r t.T,.r t.T,.o (.l (V.map pr)),o3,o4]/\szs V<szs ss+x.sz,?_,?_)
  ·rintro q ⟨o3,o4,V,rfl,g2⟩
   have e1:szs (ss ++ [x])=szs ss+(x.sz+0):=by rw[v7];rfl
   have hl:szs ss+(x.sz+0)<=100000:=hl;exact(_,by rw[e1];omega,_,_,V,U,by omega,U)
  refine(ss.map pr,pr x,by simp,cG P6 _,_,U,?_)
  have hl:szs ss+(x.sz+0)<=100000:=hl
  have:=x.pos
  cases x with
  | s y =>
   refine(U,a5 (λz=>absurd z (by decide +kernel)) (λ_=>(U,a5 (λ_=>?_) (λz=>absurd (by decide +kernel) z))))
   refine(U,a5 (λz=>absurd z (by decide +kernel)) (λ_=>(U,a5 (λz=>absurd z (by simp)) (λ_=>?_))))
   exact(_,_,ss,U,by omega)
  | i n =>
   refine(U,a5 (λz=>absurd z (by decide +kernel)) (λ_=>(U,a5 (λz=>absurd z (by decide +kernel)) (λ_=>?_))))
   refine(U,a5 (λz=>absurd z (by decide +kernel)) (λ_=>(U,a5 (λz=>absurd z (by decide +kernel)) (λ_=>(U,a5 (λz=>absurd z (by simp)) (λ_=>?_))))))
   exact(_,_,ss,U,by omega)
  | t xs =>
   have hx:(Tr.t xs).sz=xs.sz+1:=rfl;have h1:=xs.szl;have h2:=w6 xs.l;have h3:=w6 ss;have h4:xs.T.length=xs.l.length:=by rw[xs.tl,gV]
   refine(U,a5 (λ_=>?_) (λz=>absurd (by decide +kernel) z))
   refine(U,a5 (λz=>absurd z (by decide +kernel)) (λ_=>(U,a5 (λz=>absurd z (by simp)) (λ_=>?_))))
   refine(xs.im,xs.im,?_);rw[EV];exact(rV (aD (by rw[gV,gV];omega)),_,_,ss++xs.l,by have e:=tx (f:=pr) (l₁:=ss) (l₂:=xs.l);rw[e];rfl,by rw[v7];omega)
theorem mD{due:Str}(hd:ay due=ϊ){l:List Str}:∀{ns:List Str},(∀ m∈ns,ay m=O)->fNames due (ns++due::l)=Z (ns,l)
 | [],_=>by show fNames due (due::l)=_;rw[fNames,if_pos rfl]
 | n::r,h=>by
  have hn:=h n dZ;show fNames due (n ::(r++due::l))=_;rw[fNames,if_neg (λe=>by rw[e,hd]at hn;cases hn),if_pos hn,mD hd λm hm=>h m (c5 _ hm)]
  rfl
theorem semi:ay ";" = false:=by decide +kernel
theorem colon:ay ":" = false:=by decide +kernel
theorem zS{l:List Str}(hm:ay m=O)(hn:∀ k∈ns,ay k=O):rF (m ::(ns++(":":Str)::l))=Z ([.s m,.t (ns.map .s)],l):=by
 unfold rF;show(if ay m=O then(fNames ":" (ns++(":":Str)::l)).map _ else Y)=_
 rw[if_pos hm,mD colon hn];rfl
def After(cs:List Oc)(u:L2.T)(l:List Str)(o:Option (L2.T×List Str)):Prop:=match bV cs u l with
 | .fin b l=>o=Z (b,l)
 | .on cs l=>Run (cs,[],l) o
 | .bad=>o=Y
theorem oR(hts:List (List L2.T))(h:List L2.T)(b:L2.T):dO (hts ++ [h]) b=dO hts (.t (h ++ [b])):=by
 unfold dO;rw[List.foldr_append];rfl
theorem DK{s:BS}{u:L2.T}{l:List Str}{o:Option (L2.T×List Str)}(hs:iD s =(bV cs u l).stp)(h:After cs u l o):Run s o:=by
 unfold After at h;cases e:bV cs u l with
 | fin b l'=>rw[e]at h hs;rw[h];exact .fin hs
 | on g l'=>rw[e]at h hs;exact .on hs h
 | bad=>rw[e]at h hs;rw[h];exact .bad hs
mutual
theorem pf:∀{b:Bd},b.ok->∀{cs:List Oc}{hts:List (List L2.T)}{l:List Str}{o:Option (L2.T×List Str)},After cs (dO hts b.t) l o->Run (cs,hts,b.ws++l) o
 | .give x,g,cs,hts,l,o,h=>DK (u:=dO hts (Bd.give x).t) (l:=l) (cs:=cs) (by
   have g:ay x=true:=g;show(if("give":Str) = "case" then _ else if("give":Str) = "give" then(if ay x=O then _ else _)else _)=_
   rw[if_neg (by decide),if_pos U,if_pos g]
   rfl) h
 | .gJ w n b,(h1,h2,h3,h4),cs,hts,l,o,h=>by
  let(P,K):=G9 h2 h3;have e:dW w (gS n ::(";":Str) ::(b.ws++l))=Z ([.s w,.i n],b.ws++l):=by
   unfold dW;rw[if_neg (by rcases h1 with h|h <;> rw[h] <;> decide),if_pos h1]
   show(if eZ (gS n)=O then(rE ";" ((";":Str) ::(b.ws++l))).map (λz=>Prod.mk [L2.T.s w,.i (intOf (gS n))] z.2)else Y)=_
   rw[if_pos P,K];rfl
  refine .on (s':=(cs,hts ++ [[.s w,.i n]],b.ws++l)) ?_ (pf h4 (by rw[oR];exact h))
  show(if w = "case" then _ else if w = "give" then _ else match dW w (gS n ::(";":Str) ::(b.ws++l))with|some (h,l2)=>Stp.on (cs,hts ++ [h],l2)|none=>.bad)=_
  rw[if_neg (by rcases h1 with h|h <;> rw[h] <;> decide),if_neg (by rcases h1 with h|h <;> rw[h] <;> decide),e]
 | .nam x y b,(h1,h2,h3),cs,hts,l,o,h=>by
  have e:dW "let" (x :: "name" :: y ::(";":Str) ::(b.ws++l))=Z ([.s "name",.s x,.s y],b.ws++l):=by
   unfold dW;rw[if_pos rfl];show(if ay x=O then if("name":Str) = "make" \/ ("name":Str) = "call" \/ ("name":Str) = "name" then if ay y=O then if("name":Str) = "name" then _ else _ else Y else Y else Y)=_
   rw[if_pos h1,if_pos (.inr (.inr U)),if_pos h2,if_pos rfl];rfl
  refine .on (s':=(cs,hts ++ [[.s "name",.s x,.s y]],b.ws++l)) ?_ (pf h3 (by rw[oR];exact h))
  show(if("let":Str) = "case" then _ else if("let":Str) = "give" then _ else match dW "let" (x :: "name" :: y ::(";":Str) ::(b.ws++l))with|some (h,l2)=>Stp.on (cs,hts ++ [h],l2)|none=>.bad)=_
  rw[if_neg (by decide),if_neg (by decide),e]
 | .mk w x y ns b,(h1,h2,h3,h4,h5),cs,hts,l,o,h=>by
  have e:dW "let" (x::w::y ::(ns++(";":Str) ::(b.ws++l)))=Z ([.s w,.s x,.s y,.t (ns.map .s)],b.ws++l):=by
   unfold dW;rw[if_pos rfl];show(if ay x=O then if w = "make" \/ w = "call" \/ w = "name" then if ay y=O then if w = "name" then _ else(fNames ";" (ns++(";":Str) ::(b.ws++l))).map _ else Y else Y else Y)=_
   rw[if_pos h2,if_pos (by rcases h1 with h|h;exact .inl h;exact .inr (.inl h)),if_pos h3,if_neg (by rcases h1 with h|h <;> rw[h] <;> decide),mD semi h4]
   rfl
  refine .on (s':=(cs,hts ++ [[.s w,.s x,.s y,.t (ns.map .s)]],b.ws++l)) ?_ (pf h5 (by rw[oR];exact h))
  have q:(Bd.mk w x y ns b).ws++l =("let":Str)::x::w::y ::(ns++(";":Str) ::(b.ws++l)):=by
   show(("let":Str)::x::w::y ::(ns++(";":Str)::b.ws))++l=_
   simp
  rw[q];show(if("let":Str) = "case" then _ else if("let":Str) = "give" then _ else match dW "let" (x::w::y ::(ns++(";":Str) ::(b.ws++l)))with|some (h,l2)=>Stp.on (cs,hts ++ [h],l2)|none=>.bad)=_
  rw[if_neg (by decide),if_neg (by decide),e]
 | .cas x .nil,(_,h,_),_,_,_,_,_=>absurd U h
 | .cas x (.cons m ns b r),(h1,_,h2,h3,h4,h5),cs,hts,l,o,h=>by
  have q:(Bd.cas x (.cons m ns b r)).ws++l =("case":Str)::x::m ::(ns++(":":Str) ::(b.ws++(r.ws++("end":Str)::l))):=by
   show(("case":Str)::x ::(m ::(ns++(":":Str) ::(b.ws++r.ws)) ++ [("end":Str)]))++l=_
   simp
  refine .on (s':=((hts,x,[],[.s m,.t (ns.map .s)])::cs,[],b.ws++(r.ws++("end":Str)::l))) ?_ (pf h4 (FU h5 h));rw[q];show(if("case":Str) = "case" then if ay x=O then match rF (m ::(ns++(":":Str) ::(b.ws++(r.ws++("end":Str)::l))))with|some (ah,l2)=>Stp.on ((hts,x,[],ah)::cs,[],l2)|none=>.bad else .bad else _)=_
  rw[if_pos U,if_pos h1,zS h2 h3]
theorem FU:∀{r:Ar},r.ok->∀{c:Oc}{cs:List Oc}{u:L2.T}{l:List Str}{o:Option (L2.T×List Str)},After cs (dO c.hts (.t [.s "case",.s c.lk,.t (c.arms ++ .t (c.ah ++ [u])::r.ts)])) l o->After (c::cs) u (r.ws++("end":Str)::l) o
 | .nil,_,c,cs,u,l,o,h=>by
  have e:bV (c::cs) u ((Ar.nil).ws++("end":Str)::l)=bV cs (c.fed u).whole l:=by
   show(if("end":Str) = "|" then _ else if("end":Str) = "end" then bV cs (c.fed u).whole l else .bad)=_
   rw[if_neg (by decide),if_pos rfl]
  unfold After;rw[e];exact h
 | .cons m ns b r,(h1,h2,h3,h4),c,cs,u,l,o,h=>by
  have g:(Ar.cons m ns b r).ws++("end":Str)::l =("|":Str)::m ::(ns++(":":Str) ::(b.ws++(r.ws++("end":Str)::l))):=by
   show(("|":Str)::m ::(ns++(":":Str) ::(b.ws++r.ws)))++("end":Str)::l=_
   simp
  have e:bV (c::cs) u ((Ar.cons m ns b r).ws++("end":Str)::l) = .on ({ c.fed u with ah:=[.s m,.t (ns.map .s)] }::cs) (b.ws++(r.ws++("end":Str)::l)):=by
   rw[g];show(if("|":Str) = "|" then match rF (m ::(ns++(":":Str) ::(b.ws++(r.ws++("end":Str)::l))))with|some (ah,l2)=>Res.on ({ c.fed u with ah:=ah }::cs) l2|none=>.bad else _)=_
   rw[if_pos U,zS h1 h2]
  unfold After;rw[e];refine pf h3 (FU h4 ?_);have q:(c.arms ++ [L2.T.t (c.ah ++ [u])])++L2.T.t ([L2.T.s m,.t (ns.map .s)] ++ [b.t])::r.ts=c.arms++L2.T.t (c.ah ++ [u]) ::(Ar.cons m ns b r).ts:=by
   show _=c.arms++L2.T.t (c.ah ++ [u]) ::(.t [.s m,.t (ns.map .s),b.t]::r.ts);simp
  show After cs (dO c.hts (.t [.s "case",.s c.lk,.t ((c.arms ++ [L2.T.t (c.ah ++ [u])])++L2.T.t ([L2.T.s m,.t (ns.map .s)] ++ [b.t])::r.ts)])) l o
  rw[q];exact h
end
theorem DI(h:b.ok):Run ([],[],b.ws) (Z (b.t,[])):=by
 have:=pf h (cs:=[]) (hts:=[]) (l:=[]) (o:=Z (b.t,[])) U
 rw[ko]at this;exact this
theorem qF{v:Str}{l:List Str}:∀{ps:List (Str×Str)},(∀ p∈ps,ay p.1=O/\ay p.2=O)->fParams (pws ps++("to":Str)::v::l)=Z (ps,v::l)
 | [],_=>by show fParams (("to":Str)::v::l)=_;rw[fParams,if_pos rfl]
 | p::r,h=>by
  have hp:=h p dZ;have e:pws (p::r)++("to":Str)::v::l=p.1::p.2 ::(pws r++("to":Str)::v::l):=rfl;rw[e,fParams,if_neg (λe=>by have:=hp.1;rw[e]at this;exact absurd this (by decide +kernel)),if_pos hp.1,if_pos hp.2,qF λq g=>h q (c5 _ g)]
  rfl
theorem Er(h:lu z):fHd (fws z.1 z.2)=Z (z.1,z.2.ws):=by
 unfold fHd fws;show(if("def":Str) = "def" then if ay z.1.nm=O then match fParams (pws z.1.ps++("to":Str)::z.1.kd :: ":" :: z.2.ws)with|some (ps,l2)=>(if ay (hd l2)=O then if hd l2.tail = ":" then Z (Prod.mk ((z.1.nm,ps,hd l2):Fh) l2.tail.tail)else Y else Y)|none=>Y else Y else Y)=_
 rw[if_pos U,if_pos h.n,qF h.p];show(if ay z.1.kd=O then if(":":Str) = ":" then _ else Y else Y)=_
 rw[if_pos h.k,if_pos rfl];rfl
theorem qJ{l:List Str}(hl:l = []\/∃ r,l =("|":Str)::r):∀{ns:List Str},(∀ m∈ns,ay m=O)->bZ (ns++l)=Z (ns,l)
 | [],_=>by
  rcases hl with rfl |⟨r,rfl⟩
  ·rfl
  ·show bZ (("|":Str)::r)=_;rw[bZ,if_pos rfl]
 | n::r,h=>by
  have hn:=h n dZ;show bZ (n ::(r++l))=_;rw[bZ,if_neg (λe=>by rw[e]at hn;exact absurd hn (by decide +kernel)),if_pos hn,qJ hl λm hm=>h m (c5 _ hm)]
  rfl
def mw(m:Mk1):List Str:=m.1::m.2
def OW(m:Mk1):Prop:=ay m.1=O/\m.2.length<=10/\∀ f∈m.2,ay f=O
theorem tL{m:Mk1}{l:List Str}(hm:OW m)(hl:l = []\/∃ r,l =("|":Str)::r):iA (mw m++l)=Z (m,l):=by
 unfold iA;show(if ay m.1=O then(bZ (m.2++l)).map (λz=>Prod.mk (Prod.mk m.1 z.1) z.2)else Y)=_
 rw[if_pos hm.1,qJ hl hm.2.2];rfl
theorem qG:∀{ms:List Mk1}{m:Mk1}{k:Nat},OW m ->(∀ m∈ms,OW m)->ms.length<k->di k (mw m++ms.flatMap λm=>("|":Str)::mw m)=Z (m::ms)
 | [],m,k+1,hm,_,_=>by
  rw[di,Vg,tL hm (.inl U)];rfl
 | n::r,m,k+1,hm,hr,q=>by
  rw[di,Ug,Tw,tL hm (.inr (_,U))];show(if ϊ=O then _ else if("|":Str) = "|" then(di k (mw n++r.flatMap λm=>("|":Str)::mw m)).map (m :: ·)else Y)=_
  rw[if_neg (by decide),if_pos U,qG (hr n dZ) (λy g=>hr y (c5 _ g)) (by rw[mu]at q;omega)]
  rfl
def kws(k:Kd):List Str:=("kind":Str)::k.1 ::(k.2.flatMap λm=>("|":Str)::mw m).tail
theorem Ct{k:Kd}(h:k.2 ≠ []):fc k=Txt.join " " (kws k):=by
 let(x,ms):=k;cases ms with
 | nil=>exact absurd U h
 | cons m ms =>
  have e:kws (x,m::ms) =("kind":Str)::x ::(mw m++ms.flatMap λm=>("|":Str)::mw m):=rfl
  rw[e,dD (xU _ _),dD (r:=mw m++ms.flatMap λm=>("|":Str)::mw m) (by simp[mw]),Bk (f:=mw) (λz=>xU _ _)]
  unfold fc;rw[show("kind ":Str) = "kind" ++ " " from by decide +kernel]
  simp only[assoc];rfl
theorem KC(ms:List Mk1):ms.length <=(ms.flatMap λm=>("|":Str)::mw m).length:=by
 induction ms with
 | nil=>exact lx _
 | cons m r g=>rw[Ug,px,mu,mu];omega
theorem Ef{k:Kd}(h:z5 k):k7 (kws k)=Z (k,[]):=by
 let(x,ms):=k;cases ms with
 | nil=>exact absurd U h.ne
 | cons m ms =>
  have hm:=h.m;have hx:ay x=true:=h.n;have hlen:=KC ms;unfold k7;show(if ay x=O then(di ((kws (x,m::ms)).length+1) (mw m++ms.flatMap λm=>("|":Str)::mw m)).map (λms=>Prod.mk (Prod.mk x ms) ([]:List Str))else Y)=_
  rw[if_pos hx,qG (hm m dZ) (λy g=>hm y (c5 _ g)) (by
   have e:kws (x,m::ms) =("kind":Str)::x ::(mw m++ms.flatMap λm=>("|":Str)::mw m):=rfl
   rw[e,mu,mu,px];omega)]
  rfl
def Cl(ws:List Str):Prop:=∀ w∈ws,∀ c∈w.cps.toList,c≠32/\c≠10
theorem Cl.cons{w:Str}{ws:List Str}(h:∀ c∈w.cps.toList,c≠32/\c≠10)(hr:Cl ws):Cl (w::ws):=λx hx=>(i8.mp hx).elim (λz=>z▸h) (hr x)
theorem Cl.app{a b:List Str}(ha:Cl a)(g:Cl b):Cl (a++b):=λx hx=>(j1.mp hx).elim (ha x) (g x)
theorem Cl.nil:Cl []:=λ_ h=>nomatch h
theorem Ed:∀ c∈eB.cps.toList,c≠32/\c≠10:=by decide +kernel
theorem dH(h:ay x=O):∀ c∈x.cps.toList,c≠32/\c≠10:=λc g=>by
 unfold ay ofB at h;simp only[qp]at h;exact Ed c (wb (z7.mp h.1.2.2 c g))
theorem Ld(h:eZ x=O):∀ c∈x.cps.toList,c≠32/\c≠10:=λc g=>by
 unfold eZ ofB at h;simp only[qp]at h
 have:=vC c (wb (z7.mp h.1.2.2 c g))
 omega
theorem Cl.nm(h:∀ m∈ns,ay m=O):Cl ns:=λx hx=>dH (h x hx)
theorem Cl.tail{a:List Str}(h:Cl a):Cl a.tail:=λx hx=>h x (Us hx)
mutual
theorem Bd.cl:∀{b:Bd},b.ok->Cl b.ws
 | .give x,h=>.cons (by decide +kernel) (.cons (dH h) .nil)
 | .gJ w n b,(h1,h2,h3,h4)=>.cons (by rcases h1 with h|h <;> rw[h] <;> decide +kernel) (.cons (Ld (G9 h2 h3).1) (.cons (by decide +kernel) (Bd.cl h4)))
 | .nam x y b,(h1,h2,h3)=>.cons (by decide +kernel) (.cons (dH h1) (.cons (by decide +kernel) (.cons (dH h2) (.cons (by decide +kernel) (Bd.cl h3)))))
 | .mk w x y ns b,(h1,h2,h3,h4,h5)=>.cons (by decide +kernel) (.cons (dH h2) (.cons (by rcases h1 with h|h <;> rw[h] <;> decide +kernel) (.cons (dH h3) (.app (.nm h4) (.cons (by decide +kernel) (Bd.cl h5))))))
 | .cas x as,(h1,_,h3)=>.cons (by decide +kernel) (.cons (dH h1) (.app (Ar.cl h3).tail (.cons (by decide +kernel) .nil)))
theorem Ar.cl:∀{as:Ar},as.ok->Cl as.ws
 | .nil,_=>.nil
 | .cons m ns b r,(h1,h2,h3,h4)=>.cons (by decide +kernel) (.cons (dH h1) (.app (.nm h2) (.cons (by decide +kernel) (.app (Bd.cl h3) (Ar.cl h4)))))
end
theorem MW{ps:List (Str×Str)}(h:∀ p∈ps,ay p.1=O/\ay p.2=O):Cl (pws ps):=λx hx=>by
 let(p,hp,hx):=TR.mp hx;rcases i8.mp hx with z|z
 ·rw[z];exact dH (h p hp).1
 ·rw[bB.mp z];exact dH (h p hp).2
theorem HG(h:lu z):Cl (fws z.1 z.2):=.cons (by decide +kernel) (.cons (dH h.n) (.app (MW h.p) (.cons (by decide +kernel) (.cons (dH h.k) (.cons (by decide +kernel) (Bd.cl h.b))))))
theorem Hm{k:Kd}(h:z5 k):Cl (kws k):=.cons (by decide +kernel) (.cons (dH h.n) (Cl.tail λx hx=>by
 let(m,hm,hx):=TR.mp hx;exact(Cl.cons (by decide +kernel) (.cons (dH (h.m m hm).1) (.nm (h.m m hm).2.2))) x hx))
theorem B0:(" ":Str) =⟨#[32]⟩:=by decide +kernel
theorem LN:("\n":Str) =⟨#[10]⟩:=by decide +kernel
theorem yh{ws:List Str}(g:ws ≠ [])(h:Cl ws):Txt.split (Txt.join " " ws) " " = ws:=by
 rw[B0];exact sJ g λp hp z=>(h p hp 32 z).1 U
theorem Cw{ws:List Str}(h:Cl ws):10 ∉ (Txt.join " " ws).cps.toList:=by
 rw[tV,B0]
 induction ws with
 | nil=>decide +kernel
 | cons w r g =>
  cases r with
  | nil=>exact λz=>(h w dZ 10 z).2 U
  | cons v r =>
   rw[ji];intro z;rcases j1.mp z with z|z
   ·exact(h w dZ 10 z).2 U
   ·rcases i8.mp z with z|z
    ·exact absurd z (by decide)
    ·exact g (λx hx=>h x (c5 _ hx)) z
theorem B6{fs:List (Fh×Bd)}(h:uz ks fs):rowsOf (Txt.join "\n" (ks.map fc++fs.map gy))=ks.map fc++fs.map gy:=by
 have hr:∀ r∈ks.map fc++fs.map gy,10 ∉ r.cps.toList/\1<=r.length:=λr hr=>by
  rcases j1.mp hr with z|z
  ·let(k,g,U):=O1.mp z;have ok:=h.k k g;rw[Ct ok.ne];refine(Cw (Hm ok),?_)
   have:=join_le (c:=32) (ws:=kws k) (w:="kind") dZ
   rw[tV,B0];exact uj (by decide +kernel) this
  ·let(f,hf,U):=O1.mp z;refine(Cw (HG (h.f f hf)),?_)
   have:=join_le (c:=32) (ws:=fws f.1 f.2) (w:="def") dZ
   show 1 <=(Txt.join " " (fws f.1 f.2)).length;rw[tV,B0];exact uj (by decide +kernel) this
 generalize ks.map fc++fs.map gy=rows at hr ⊢
 unfold rowsOf;cases rows with
 | nil=>rw[if_pos (by decide +kernel)]
 | cons r rs =>
  have h1:=(hr r dZ).2;have h2:=join_le (c:=10) (ws:=r::rs) (w:=r) dZ;have h3:Txt.join "\n" (r::rs) ≠ "":=λe=>by
   rw[tV,LN]at e;rw[e]at h2
   have:(Str.ofString "").length=0:=by decide +kernel
   omega
  rw[if_neg h3,LN];exact sJ (xU _ _) λp hp=>(hr p hp).1
def ofL:List Tr->Trs
 | []=>.nil
 | x::r=>.cons x (ofL r)
theorem G8:∀ l:List Tr,(ofL l).T=l.map Tr.T
 | []=>rfl
 | x::r=>by show x.T ::(ofL r).T=_;rw[G8 r];rfl
theorem A3:∀ l:List Tr,(ofL l).sz =(l.map Tr.sz).sum
 | []=>rfl
 | x::r=>by show x.sz+(ofL r).sz=_;rw[A3 r];rfl
def sTr(ns:List Str):Tr:=.t (ofL (ns.map .s))
theorem FR(ns:List Str):(sTr ns).T = .t (ns.map .s):=by show L2.T.t (ofL (ns.map Tr.s)).T=_;rw[G8,EU];rfl
theorem AE(ns:List Str):(sTr ns).sz=ns.length+1:=by
 show(ofL (ns.map Tr.s)).sz+1=_;rw[A3,EU]
 congr 1
 induction ns with
 | nil=>rfl
 | cons n r g=>show 1+(r.map (Tr.sz ∘ Tr.s)).sum=_;rw[g,mu];omega
mutual
def Bd.tr:Bd->Tr
 | .give x=>.t (.cons (.s "give") (.cons (.s x) .nil))
 | .gJ w n b=>.t (.cons (.s w) (.cons (.i n) (.cons b.tr .nil)))
 | .nam x y b=>.t (.cons (.s "name") (.cons (.s x) (.cons (.s y) (.cons b.tr .nil))))
 | .mk w x y ns b=>.t (.cons (.s w) (.cons (.s x) (.cons (.s y) (.cons (sTr ns) (.cons b.tr .nil)))))
 | .cas x as=>.t (.cons (.s "case") (.cons (.s x) (.cons (.t as.tr) .nil)))
def Ar.tr:Ar->Trs
 | .nil=>.nil
 | .cons m ns b r=>.cons (.t (.cons (.s m) (.cons (sTr ns) (.cons b.tr .nil)))) r.tr
end
mutual
theorem Bd.trT:∀ b:Bd,b.tr.T=b.t
 | .give x=>rfl
 | .gJ w n b=>by show L2.T.t [.s w,.i n,b.tr.T]=_;rw[b.trT];rfl
 | .nam x y b=>by show L2.T.t [.s "name",.s x,.s y,b.tr.T]=_;rw[b.trT];rfl
 | .mk w x y ns b=>by show L2.T.t [.s w,.s x,.s y,(sTr ns).T,b.tr.T]=_;rw[b.trT,FR];rfl
 | .cas x as=>by show L2.T.t [.s "case",.s x,.t as.tr.T]=_;rw[as.trT];rfl
theorem Ar.trT:∀ as:Ar,as.tr.T=as.ts
 | .nil=>rfl
 | .cons m ns b r=>by show L2.T.t [.s m,(sTr ns).T,b.tr.T]::r.tr.T=_;rw[b.trT,FR,r.trT];rfl
end
mutual
theorem Bd.trS:∀ b:Bd,b.tr.sz<=2*b.wt
 | .give x=>by show 1+(1+0)+1<=2*3;omega
 | .gJ w n b=>by have:=b.trS;show 1+(1+(b.tr.sz+0))+1<=2*(4+b.wt);omega
 | .nam x y b=>by have:=b.trS;show 1+(1+(1+(b.tr.sz+0)))+1<=2*(6+b.wt);omega
 | .mk w x y ns b=>by have:=b.trS;have:=AE ns;show 1+(1+(1+((sTr ns).sz+(b.tr.sz+0))))+1<=2*(6+ns.length+b.wt);omega
 | .cas x as=>by have:=as.trS;show 1+(1+(as.tr.sz+1+0))+1<=2*(4+as.wt);omega
theorem Ar.trS:∀ as:Ar,as.tr.sz<=2*as.wt
 | .nil=>lx _
 | .cons m ns b r=>by have:=b.trS;have:=AE ns;have:=r.trS;show 1+((sTr ns).sz+(b.tr.sz+0))+1+r.tr.sz<=2*(3+ns.length+b.wt+r.wt);omega
end
def mTr(m:Mk1):Tr:=.t (.cons (.s m.1) (.cons (sTr m.2) .nil))
theorem Qo(m:Mk1):(mTr m).T=tM m:=by show L2.T.t [.s m.1,(sTr m.2).T]=_;rw[FR];rfl
def kTr(k:Kd):Tr:=.t (.cons (.s k.1) (.cons (.t (ofL (k.2.map mTr))) .nil))
theorem Cp{α:Type}{f:α->Tr}{g:α->L2.T}(h:∀ x,(f x).T=g x)(xs:List α):(ofL (xs.map f)).T=xs.map g:=by
 rw[G8,EU];exact List.map_congr_left λx _=>h x
theorem Qz(k:Kd):(kTr k).T=tK k:=by show L2.T.t [.s k.1,.t (ofL (k.2.map mTr)).T]=_;rw[Cp Qo];rfl
def Kc(p:Str×Str):Tr:=.t (.cons (.s p.1) (.cons (.s p.2) .nil))
def fTr(z:Fh×Bd):Tr:=.t (.cons (.s z.1.nm) (.cons (.t (ofL (z.1.ps.map Kc))) (.cons (.s z.1.kd) (.cons z.2.tr .nil))))
theorem Rl(z:Fh×Bd):(fTr z).T=fT z:=by
 show L2.T.t [.s z.1.nm,.t (ofL (z.1.ps.map Kc)).T,.s z.1.kd,z.2.tr.T]=_;rw[Cp (g:=λp=>.t [.s p.1,.s p.2]) (λ_=>rfl),z.2.trT];rfl
def pTr(ks:List Kd)(fs:List (Fh×Bd)):Tr:=.t (.cons (.t (ofL (ks.map kTr))) (.cons (.t (ofL (fs.map fTr))) .nil))
theorem LH(ks:List Kd)(fs:List (Fh×Bd)):(pTr ks fs).T=pT ks fs:=by
 show L2.T.t [.t (ofL (ks.map kTr)).T,.t (ofL (fs.map fTr)).T]=_;rw[Cp Qz,Cp Rl];rfl
theorem w5{α:Type}{f:α->Tr}{xs:List α}(h:∀ x∈xs,(f x).sz<=n):(ofL (xs.map f)).sz<=n*xs.length:=by
 rw[A3,EU];exact jo (f:=Tr.sz ∘ f) h
theorem GY{fs:List (Fh×Bd)}(h:uz ks fs):(pTr ks fs).sz<=100000:=by
 have h1:=w5 (f:=kTr) (n:=200) (xs:=ks) λk q=>by
  have ok:=h.k k q
  have:=w5 (f:=mTr) (n:=13) (xs:=k.2) λm hm=>by
   have:=AE m.2
   have:=(ok.m m hm).2.1
   show 1+((sTr m.2).sz+0)+1<=13;omega
  have:=ok.l
  show 1+((ofL (k.2.map mTr)).sz+1+0)+1<=200;omega
 have h2:=w5 (f:=fTr) (n:=5000) (xs:=fs) λz g=>by
  have ok:=h.f z g
  have:=w5 (f:=Kc) (n:=3) (xs:=z.1.ps) λp _=>lx 3
  have:=ok.l
  have:=ok.w
  have:=z.2.trS
  show 1+((ofL (z.1.ps.map Kc)).sz+1+(1+(z.2.tr.sz+0)))+1<=5000;omega
 have:=h.l
 show(ofL (ks.map kTr)).sz+1+((ofL (fs.map fTr)).sz+1+0)+1<=100000;omega
theorem Run.det{s:BS}{o o':Option (L2.T×List Str)}(h:Run s o)(h':Run s o'):o=o':=by
 induction h generalizing o' with
 | on e _ q =>
  cases h' with
  | on g r=>rw[e]at g;cases g;exact q r
  | fin g=>rw[e]at g;cases g
  | bad g=>rw[e]at g;cases g
 | fin e =>
  cases h' with
  | on g r=>rw[e]at g;cases g
  | fin g=>rw[e]at g;cases g;rfl
  | bad g=>rw[e]at g;cases g
 | bad e =>
  cases h' with
  | on g r=>rw[e]at g;cases g
  | fin g=>rw[e]at g;cases g
  | bad g=>rfl
theorem CD(h:lu z){o:Option L2.T}(h':xV (fws z.1 z.2) o):o=Z (fT z):=by
 have e:=Er h;have r:=DI h.b;cases h' with
 | Ry g=>rw[e]at g;cases g
 | Rx g r'=>rw[e]at g;cases g;cases r.det r'
 | Rv g r' hl=>rw[e]at g;cases g;cases r.det r';cases hl
 | ok g r'=>rw[e]at g;cases g;cases r.det r';rfl
theorem Rn{fs:List (Fh×Bd)}(hf:∀ z∈fs,lu z):∀{gs:List (Fh×Bd)}{n:Nat}{ks:List Kd}{xs:List L2.T}{o:L2.T ⊕ Nat},xs=gs.map fT->jn n ks xs (fs.map gy) o->o = .inl (pT ks (gs++fs)):=by
 induction fs with
 | nil =>
  intro gs n ks xs o e h;rw[List.map_nil]at h;cases h;rw[ko,e];rfl
 | cons z r P =>
  intro gs n ks xs o ex h;have K:=hf z dZ;have es:Txt.split (gy z) " " = fws z.1 z.2:=yh (xU _ _) (HG K);have hn:¬ hd (fws z.1 z.2) = "kind":=by show ¬("def":Str) = "kind";decide
  rw[OY]at h;cases h with
  | kind q _ _=>rw[es]at q;exact absurd q hn
  | Hn q _=>rw[es]at q;exact absurd q hn
  | fn _ g V =>
   rw[es]at g;cases CD K g
   have:=P (λy Q=>hf y (c5 _ Q)) (gs:=gs ++ [z]) (by rw[ex,tx];rfl) V
   rw[BI]at this;exact this
  | fnX _ g=>rw[es]at g;cases CD K g
theorem xA{fs:List (Fh×Bd)}(hf:∀ z∈fs,lu z):∀{ks gs:List Kd}{n:Nat}{o:L2.T ⊕ Nat},(∀ k∈ks,z5 k)->jn n gs [] (ks.map fc++fs.map gy) o->o = .inl (pT (gs++ks) fs)
 | [],gs,n,o,_,h=>by rw[ko];exact Rn hf (gs:=[]) U h
 | k::r,gs,n,o,g,h=>by
  have P:=g k dZ;have es:Txt.split (fc k) " " = kws k:=by rw[Ct P.ne];exact yh (xU _ _) (Hm P)
  have hr:=Ef P;have hn:hd (kws k) = "kind":=rfl;rw[OY,Tw]at h;cases h with
  | kind _ q V =>
   rw[es,hr]at q;cases q
   have:=xA hf (ks:=r) (λy Q=>g y (c5 _ Q)) V
   rw[BI]at this;exact this
  | Hn _ q=>rw[es,hr]at q;cases q
  | fn K _ _=>rw[es]at K;exact absurd (hn,U) K
  | fnX K _=>rw[es]at K;exact absurd (hn,U) K
theorem Mb{fs:List (Fh×Bd)}(h:uz ks fs):((ks.map fc++fs.map gy).map (·.length)).sum+(ks.map fc++fs.map gy).length*(Str.ofString "\n").length<=16777216:=by
 have h1:=sR h;have h2:=h.l;rw[px,gV,gV,show(Str.ofString "\n").length=1 from by decide +kernel]
 omega
theorem Mc{fs:List (Fh×Bd)}(h:uz ks fs):(Txt.join "\n" (ks.map fc++fs.map gy)).length<=800000:=by
 have h1:=sR h;have h2:=h.l;have h3:=pP "\n" (ks.map fc++fs.map gy);rw[px,gV,gV,show(Str.ofString "\n").length=1 from by decide +kernel]at h3
 omega
def M7:PSp:=λts Q=>∃ ks fs,ts = [.s (Txt.join "\n" (ks.map fc++fs.map gy))]/\uz ks fs/\Q (pT ks fs)
def JR:PSp:=λts Q=>∃ ks fs,ts = [pT ks fs]/\uz ks fs/\(∀ z∈fs,z.2.cd<=39)/\Q (.b O)
def JX:PSp:=λts Q=>ts = [.jS]/\∀ ks fs,uz ks fs ->(∀ z∈fs,z.2.cd<=39)->Q (pT ks fs)
theorem y8(T:Txt K mg a):aR P w K mg base CX0 12 a.ua a.Bv ["text"] (spQ K M7):=by
 refine(Kl T).calm.imp λvs H Q E h=>?_
 let(dl,ts,Fp,Qp,D,r,h,fin):=h;refine(dl,ts,Fp,Qp,D,r,?_,fin);let(ks,fs,U,hp,g):=h;refine(_,U,Mc hp,λr hr _=>?_,λn hn=>?_)
 ·rw[B6 hp]at hr;cases xA hp.f hp.k hr;exact g
 ·rw[B6 hp]at hn;cases xA hp.f hp.k hn
theorem G7(T:Txt K mg a):aR P w K mg base CX0 50 a.sr a.CP ["_law_program"] (spQ K JR):=by
 refine T.xY.F.okQ sQ (λts Q h=>?_) (λ_ _ _ _ _ _ hr=>?_)
 ·let(_,_,U,_):=h;rfl
 ·have g:=bg hr;refine(_,_,((av (a8 1 sQ.nd (fP (QPF.w aw) (QPF.w (bq (Kk T) hr T.IH (ae (qv 0) aC)))))
 (av (a8 2 sQ.nd (bq (y4 T) hr T.xX (ae (qv 0) aC)))
 (az (bp (pA (QPF.w (du (fE U) iE (by rfl) T.cI (by kernel_rfl) (ae (qv 2) (ae (QPF.w (qD (n:="str") U T.vO (by kernel_rfl))) aC)))) (pA (QPF.w (gE (mz g U) jq (bH _) (qv 2) (qv 1))) (sX (bq (zd T) hr T.x4 (ae (QPF.w (bq (y8 T) hr T.BM (ae (qv 1) aC))) (ae (qv 0) aC))))))))))),λts Q h=>?_)
  let(ks,fs,U,hp,hd,q):=h;refine(ks,fs,U,hp,hd,_,fh _,Mb hp,ks,fs,U,hp,?_);refine(U,a5 (λ_=>?_) (λz=>absurd (by decide +kernel) z))
  refine(U,a5 (λ_=>?_) (λz=>absurd pO z))
  exact(ks,fs,U,hp,pTr ks fs,by rw[LH],GY hp,q)
theorem Nz(T:Txt K mg a):aR P w K mg base CX0 80 a.vD a.LX ["_law_script"] (sL K):=by
 have Iu:aR P w K mg base CX0 60 a.ub a.Bw ["_law_deal_here"] (spQ K JX):=(Kq T).calm;refine T.RP.F.Sx (n:=1) (s1:=(cc qz).headD (.Pass (0,0,0,0))) (rest:=(cc qz).tail) Ao U U (λ_ _ _ _ _ _ hr=>?_)
 have hu:=bg hr;refine(_,_,_,(i5 (i:=1) Ao.nd U (Or.inl U) (wI (Kr T) hr.aP U T.x3.m T.x3.F.kp T.x3.b .nil qE (bj (pv 0) (bj bS eT)))),((av (a8 2 Ao.nd (aN (af (bq Iu hr T.BN (ae (qv 1) aC)) (af (bq Iu hr T.BN (ae (qv 1) aC)) aF))))
 (av (fC (kL (bE (QPF.w (du (pW U U) wa (by rfl) T.Io (by kernel_rfl) (ae (QPF.w (lF U (JF (qv 2)) (N':=["_law_program"]) (.own U .nil) (ij (g:=(Tg.nm 0)) (λ_ _ _ _ _=>((pF 0),(bq (G7 T) hr T.xY (ae (qv 0) aC))))))) aC)))))
 (az (bp sY))
 bh)
 (az (bp (pA (QPF.w (bq (G7 T) hr T.xY (ae (a6 (qv 2) ar) aC))) (sX (bq (zd T) hr T.x4 (ae (QPF.w (bq (y8 T) hr T.BM (ae (QPF.w (bq (y4 T) hr T.xX (ae (a6 (qv 2) ar) aC))) aC))) (ae (a6 (qv 2) ar) aC)))))))))),λp0 ns D hS hlen k=>?_,λns hlen=>?_)
 ·refine(_,U,p0,ns,_,U,hS,hlen,by decide,by decide,λd l H1 fd fl D1 s1=>?_)
  exact k d l H1 fd fl D1 s1
 ·refine(U,λks fs hp hd=>(U,λq Q V hd2=>?_))
  refine(bb (by simp),λi ys=>ys=uA i (L2.T.b O),U,?_,?_)
  ·rintro i x ys hx rfl
   have hx:[pT ks fs,pT q Q][i]? = Z x:=hx;have es:uA (i+1) (L2.T.b O)=uA i (L2.T.b O) ++ [.b O]:=List.replicate_succ'
   match i,hx with
   | 0,hx=>cases hx;exact(_,U,ks,fs,U,hp,hd,es.symm)
   | 1,hx=>cases hx;exact(_,U,q,Q,U,V,hd2,es.symm)
  ·rintro ys rfl
   refine([O,O],U,?_);refine a5 (λz=>absurd z (by decide)) (λ_=>?_)
   refine(_,U,ks,fs,U,hp,hd,a5 (λ_=>?_) (λz=>absurd U z))
   exact(_,U,q,Q,U,V,q,Q,U,V,_,U,pTr q Q,by rw[LH],GY V,U)
end
variable{mg:Str->Option B}
theorem all_mk{l:W.OpenLaw}{w:World}{K:W.Frag}{h:Heap}{fa:J}(X:K.In h)(G:h.Ns mainGlobals mg)(hfa:mg "law" = Z (.ref fa))
  {bA:J} (uM:W.nsIn K mainGlobals "PurseError" = Z (Z (.ref bA))) (uL:W.keepIn K (.ref bA)=O)
  (uK:vV K fns bA (bmV) Y=O)
  {aU:J} (Dj:W.nsIn K mainGlobals "NoText" = Z (Z (.ref aU))) (Dg:W.keepIn K (.ref aU)=O)
  {vI:ClassData} (O3:W.clsIn K aU=Z vI)
  (O4:W.nsIn K vI.ns "__init__" = Z (Z (.ref fe))) (Df:LK K fe "__init__" "NoText.__init__" oY Oa N9 Og Oh N8 Oj Bo Oi N7) (Di:CI K Bo "NoText.__init__") (De:KI K fe) (Dh:W.isFn K (.ref fe)=O)
  (Dd:vV K fns aU (.ref bA::bmV) (Z fe)=O)
  {ai:J} (yL:W.nsIn K mainGlobals "RowWords" = Z (Z (.ref ai))) (yX:W.plainGet K ai Str.empty=O) (yV:W.hasDictIn K ai=O) (yT:W.plainOver K ai=O)
  (yR:W.findIn K (.ref ai) "__setattr__" = Z (Z (.builtin "object.__setattr__"))) (yP:W.makesIn K ai=O) (yN:W.keepIn K (.ref ai)=O)
  (nE:bJ K ai "words")
  (mv:bJ K ai "number")
  (nF:bJ K ai "place")
  (pC:DM K ai "__init__" "RowWords.__init__" gi cA)
  (nt:DM K ai "ahead" "RowWords.ahead" fH cY)
  (kR:DM K ai "has_more" "RowWords.has_more" dQ b9)
  (pB:DM K ai "take" "RowWords.take" gh dv)
  (kQ:DM K ai "take_due" "RowWords.take_due" dP b8)
  (ka:DM K ai "take_name" "RowWords.take_name" dB bT)
  (iB:DM K ai "take_names_to" "RowWords.take_names_to" cy bx)
  (jC:DM K ai "take_coins" "RowWords.take_coins" c9 bK)
  (mr:DM K ai "finish" "RowWords.finish" fA cH)
  {aA:J} (yM:W.nsIn K mainGlobals "OpenCase" = Z (Z (.ref aA))) (yY:W.plainGet K aA Str.empty=O) (yW:W.hasDictIn K aA=O) (yU:W.plainOver K aA=O)
  (yS:W.findIn K (.ref aA) "__setattr__" = Z (Z (.builtin "object.__setattr__"))) (yQ:W.makesIn K aA=O) (yO:W.keepIn K (.ref aA)=O)
  (nH:bJ K aA "heads")
  (mx:bJ K aA "looked")
  (pH:bJ K aA "arms")
  (kS:bJ K aA "arm_head")
  (pE:DM K aA "__init__" "OpenCase.__init__" gj cB)
  (kb:DM K aA "begin_arm" "OpenCase.begin_arm" dC bU)
  (jD:DM K aA "finish_arm" "OpenCase.finish_arm" de bL)
  (nA:DM K aA "whole" "OpenCase.whole" fJ cZ)
  (xnd:decide [bA,aU].Nodup=O)
  (Ee:DY K "is_name" pe lL)
  (Bi:DY K "is_coins" mh jR)
  (KH:DY K "is_of" wj su)
  (NO:DY K "read" Au ua)
  (zt:DY K "read_kind" kF iN)
  (xa:DY K "read_maker" jw gT)
  (rC:DY K "read_function" gC fm)
  (zv:DY K "read_body" kI iP)
  (xb:DY K "close_arms" jx gU)
  (u6:DY K "under_heads" iX gw)
  (zu:DY K "read_head" kH iO)
  (Bg:DY K "read_let" me jP)
  (KD:DY K "shown" we so)
  (Bh:DY K "kind_row" mf jQ)
  (tR:DY K "function_row" ie fU)
  (xf:DY K "body_words" jy gW)
  (Bf:DY K "unfolded" ma jO)
  (rB:DY K "unfolded_case" gB fk)
  (NW:DY K "_law_deal" AA xx)
  (NV:DY K "_law_draw" Az xw)
  (NQ:DY K "_law_name" Aw xu)
  (NP:DY K "_law_pool" Av xt)
  (zw:DY K "_law_good_name" kJ iQ)
  (Qw:DY K "_law_one" FQ CG)
  (NL:DY K "_law_some" Aq xq)
  (NS:DY K "_law_kind" Ax xv)
  (NX:DY K "_law_body" AB xy)
  (NU:DY K "_law_form" Ay ub)
  (zx:DY K "_law_body_text" kK iR)
  (NM:DY K "_law_rows" As xr)
  (KJ:DY K "_law_alike" wk sv)
  (KG:DY K "_law_right" wg sr)
  (L0:NI K "law" vD) (Qx:LK K vD "law" "law" qz Sj Si N2 OA Nj OH Ik OB RZ) (Rt:CI K Ik "law") (Qy:KI K vD)
  (O8:NB K "len")
  (Pa:NB K "all")
  (L5:NB K "list")
  (I0:NB K "tuple")
  (O6:NB K "str")
  (O9:NB K "int")
  (L6:NB K "bool")
  (Ad:NB K "reversed")
  (O7:NB K "max")
  (Ja:NB K "range")
  (vS:NB K "isinstance")
  (O5:NB K "zip")
  (ya:NB K "enumerate")
  (vT:NB K "ValueError")
  {eC:J} {uX:Option J} {kZ:Array B} {wY:Nat} {uR:Array (Option B)}
  (vW:W.nsIn K mainGlobals "KEPT_WORDS" = Z (Z (.ref eC))) (vU:K.lookup eC=Z (.type "tuple",uX,.seq kZ wY,uR)) (mU:Vals ((["kind","def","to","let","make","call","name","case","end","pay","get","give"]:List Str).map V.str) kZ.toList)
  {Dv:Tok} (Dk:W.nsIn K mainGlobals "LETTERS" = Z (Z (.str "abcdefghijklmnopqrstuvwxyz" Dv)))
  {Dw:Tok} (Dm:W.nsIn K mainGlobals "FIGURES" = Z (Z (.str "0123456789" Dw)))
  {sF:Tok} (sA:W.nsIn K mainGlobals "LONGEST_NAME" = Z (Z (.int 8 sF)))
  {rj:Tok} (q5:W.nsIn K mainGlobals "LONGEST_COINS" = Z (Z (.int 7 rj)))
  : ∃ fd:FuncData,(∀(s:ϋ)(v:B),BindsTo s fd ([v],[]) [("_law_script",v)])/\∀ base:Heap,K.In base->base.Ns mainGlobals mg->aR l.prog w K mg base CX0 80 fa fd ["_law_script"] (sL K):=by
 have e:=hfa.symm.trans (W.mg_of X G L0);cases e;have lM:=xp Df Di De;let(ES,_,vQ):=Ee;let(BE,_,uE):=Bi;let(Lk,_,C8):=KH;let(OL,_,Iy):=NO;let(zU,_,qU):=zt;let(xI,_,oG):=xa;let(rO,_,j6):=rC;let(zW,_,qW):=zv;let(xJ,_,oH):=xb;let(vb,_,lX):=u6;let(zV,_,qV):=zu;let(BB,_,uC):=Bg;let(Li,_,C6):=KD;let(BD,_,uD):=Bh;let(ux,_,ly):=tR;let(xK,_,oJ):=xf;let(BA,_,uB):=Bf;let(rM,_,j4):=rB;let(OR,_,IE):=NW;let(OQ,_,ID):=NV;let(ON,_,IA):=NQ;let(OM,_,Iz):=NP;let(zX,_,qX):=zw;let(RE,_,L1):=Qw;let(OI,_,Iv):=NL;let(OO,_,IB):=NS;let(OS,_,IF):=NX;let(OP,_,IC):=NU;let(zY,_,qY):=zx;let(OJ,_,Iw):=NM;let(Ll,_,C9):=KJ;let(Lj,_,C7):=KG;have L3:=xp Qx Rt Qy;let(gL,_,fu):=pC;let(p7,_,eD):=nt;let(lT,_,cR):=kR;let(rR,_,fq):=pB;let(lR,_,cQ):=kQ;let(ll,_,cK):=ka;let(i7,_,bR):=iB;let(kj,_,cu):=jC;let(oC,_,dJ):=mr;let(gM,_,fv):=pE;let(lq,_,cL):=kb;let(km,_,cv):=jD;let(p8,_,eI):=nA;have T:Txt K mg (bA,aU,fe,_,ai,cA,_,cY,_,b9,_,dv,_,b8,_,bT,_,bx,_,bK,_,cH,_,aA,cB,_,bU,_,bL,_,cZ,_,lL,_,jR,_,su,_,ua,_,iN,_,gT,_,fm,_,iP,_,gU,_,gw,_,iO,_,jP,_,so,_,jQ,_,fU,_,gW,_,jO,_,fk,_,xx,_,xw,_,xu,_,xt,_,iQ,_,CG,_,xq,_,xv,_,xy,_,ub,_,iR,_,xr,_,sv,_,sr,_,vD,_,eC):=(BP uK,W.mg_of X G uM,uL,BP Dd,W.mg_of X G Dj,Dg,lM,Dh,lM.b2,(yX,yV,yT,yR),W.mg_of X G yL,(yP,gL.1,gL.2,yN),nE,mv,nF,fu,gL,fu.b3,eD,p7,eD.b1,cR,lT,cR.b1,fq,rR,fq.b1,cQ,lR,cQ.b2,cK,ll,cK.b1,bR,i7,bR.b2,cu,kj,cu.b1,dJ,oC,dJ.b1,(yY,yW,yU,yS),W.mg_of X G yM,(yQ,gM.1,gM.2,yO),nH,mx,pH,kS,fv,gM,fv.b3,cL,lq,cL.b2,cv,km,cv.b2,eI,p8,eI.b1,of_decide_eq_true xnd,(vQ,W.mg_of X G ES,vQ.b1),(uE,W.mg_of X G BE,uE.b1),(C8,W.mg_of X G Lk,C8.b3),(Iy,W.mg_of X G OL,Iy.b1),(qU,W.mg_of X G zU,qU.b1),(oG,W.mg_of X G xI,oG.b1),(j6,W.mg_of X G rO,j6.b1),(qW,W.mg_of X G zW,qW.b1),(oH,W.mg_of X G xJ,oH.b3),(lX,W.mg_of X G vb,lX.b2),(qV,W.mg_of X G zV,qV.b2),(uC,W.mg_of X G BB,uC.b1),(C6,W.mg_of X G Li,C6.b1),(uD,W.mg_of X G BD,uD.b1),(ly,W.mg_of X G ux,ly.b1),(oJ,W.mg_of X G xK,oJ.b1),(uB,W.mg_of X G BA,uB.b1),(j4,W.mg_of X G rM,j4.b1),(IE,W.mg_of X G OR,IE.b2),(ID,W.mg_of X G OQ,ID.b2),(IA,W.mg_of X G ON,IA.b1),(Iz,W.mg_of X G OM,Iz.b1),(qX,W.mg_of X G zX,qX.b1),(L1,W.mg_of X G RE,L1.b2),(Iv,W.mg_of X G OI,Iv.b3),(IB,W.mg_of X G OO,IB.b2),(IF,W.mg_of X G OS,IF.b5),(IC,W.mg_of X G OP,IC.b1),(qY,W.mg_of X G zY,qY.b1),(Iw,W.mg_of X G OJ,Iw.b1),(C9,W.mg_of X G Ll,C9.b2),(C7,W.mg_of X G Lj,C7.b1),(L3,W.mg_of X G L0,L3.b1),W.mg_none_of X G O8,W.mg_none_of X G Pa,W.mg_none_of X G L5,W.mg_none_of X G I0,W.mg_none_of X G O6,W.mg_none_of X G O9,W.mg_none_of X G L6,W.mg_none_of X G Ad,W.mg_none_of X G O7,W.mg_none_of X G Ja,W.mg_none_of X G vS,W.mg_none_of X G O5,W.mg_none_of X G ya,W.mg_none_of X G vT,W.mg_of X G vW,λ_=>.inr (_,_,_,vU,U,U,DA mU,mU),(_,W.mg_of X G Dk),(_,W.mg_of X G Dm),(_,W.mg_of X G sA),(_,W.mg_of X G q5))
 exact(W.fnOf "law" "law" (gx qz) (cc qz) (aq qz) .none N2 OA Nj OH Ik OB,λs v=>.of_eq U,λbase _ _=>Nz T)
theorem walk{l:W.OpenLaw}{q:Program}{loose:List Str}{XP:(Str->Option B)->Heap->Prop}{P:World->Heap->Prop}{d:DefRec}{K:Params->W.Frag}(hn:l.most=Z 63)(g:d.params.defaults = [])
  (Q:∀(w:World)(h:Heap),P w h ->(K w.params).In h)
  (F:∀(w:World)(mg:Str->Option B)(fa:J)(h:Heap),(K w.params).In h->h.Ns mainGlobals mg->mg d.name=Z (.ref fa) ->
   ∃ fd:FuncData,(∀(s:ϋ)(u:B),BindsTo s fd ([u],[]) [("_law_script",u)])/\∀ base:Heap,(K w.params).In base->base.Ns mainGlobals mg->aR l.prog w (K w.params) mg base CX0 80 fa fd ["_law_script"] (sL (K w.params))) :
  W.WalkO q loose XP P l.row.toRowW d [] (λf vs=>PySem.call f vs) :=
 L2.Jd (n:=63) (k:=80) (x:="_law_script") (CX:=λ_=>CX0) (sp:=λw=>sL (K w.params)) hn (by decide) g (U,by decide,by decide) Q F (λ_ _ a ns hl hO V=>(a,ns,U,Rk hO V,hl,λ_=>rfl)) λ_ _ _ _ _ z=>z
end K02
namespace PySem.W.Fast
def tw1003285791223741471:=()
def tw10062729426778888231:=()
def tw10254859797800815691:=()
def tw10264628799383130188:=()
def tw10438438813564435178:=()
def tw10467437750654273062:=()
def tw10585209497474853821:=()
def tw1064424256998588525:=()
def tw10670194415932700915:=()
def tw10717496624137913354:=()
def tw10758333620835123852:=()
def tw10824041767319885141:=()
def tw10879466632908288318:=()
def tw10934688529513641878:=()
def tw10950692735886670684:=()
def tw10996503291180842711:=()
def tw11009920141615457378:=()
def tw11027170370621658185:=()
def tw11060381094292003628:=()
def tw11108609132532494115:=()
def tw1119514527392029764:=()
def tw11272792981839572248:=()
def tw11319293262348247921:=()
def tw11392376153273853111:=()
def tw11473596009210425585:=()
def tw11734328287619549340:=()
def tw11820223787224648180:=()
def tw11846933433346535133:=()
def tw1191008725542473238:=()
def tw12014161699221673786:=()
def tw12019440302067665954:=()
def tw1202468658305757335:=()
def tw12056120478794192332:=()
def tw1213790356405753314:=()
def tw12232040936038618313:=()
def tw12384918265670760460:=()
def tw12413458649710127669:=()
def tw12446089418612874639:=()
def tw12716036575506968807:=()
def tw1275917214161694412:=()
def tw12769770976498877564:=()
def tw12817295192136258942:=()
def tw12914486791233728247:=()
def tw12956505091628799595:=()
def tw12980324193722765665:=()
def tw13067646253007295673:=()
def tw13073823919092081550:=()
def tw13075518391220849581:=()
def tw13130280548530614974:=()
def tw13206131028978331748:=()
def tw13291637278615809039:=()
def tw13333462107756610647:=()
def tw13368012233029306979:=()
def tw13386114030063235636:=()
def tw13484173861622344723:=()
def tw13503563804080287961:=()
def tw13615565756357322219:=()
def tw13645679170094857640:=()
def tw13888853753294143670:=()
def tw13901624787797758041:=()
def tw13992700990609199210:=()
def tw14008762473529555424:=()
def tw14029451503444642498:=()
def tw14040401148377933272:=()
def tw14057559833484742341:=()
def tw14106591834712160763:=()
def tw14134857040839684906:=()
def tw14175524556801378414:=()
def tw14200935629614558383:=()
def tw14220928990754250793:=()
def tw1428301285957973463:=()
def tw14295942361493755661:=()
def tw14312430266040524260:=()
def tw14319788870673448458:=()
def tw14342493132865660433:=()
def tw14438927322226303911:=()
def tw14573918418209270989:=()
def tw14642115021208979733:=()
def tw14679727686652885438:=()
def tw14771857677304752658:=()
def tw14828109178355071999:=()
def tw14979847843631198603:=()
def tw15042739546133813415:=()
def tw15055172871556083362:=()
def tw15098058749799276169:=()
def tw15198138459180559736:=()
def tw15267014032497850337:=()
def tw1569638453528966973:=()
def tw15743600894711322754:=()
def tw15745488707494087118:=()
def tw15843314641207733544:=()
def tw15932871574578543387:=()
def tw15951743471602508838:=()
def tw16146640907332639903:=()
def tw16230491098805200847:=()
def tw16320169648565438102:=()
def tw16323196546294867546:=()
def tw16334598548619806271:=()
def tw16337749291474258504:=()
def tw16357263508957471394:=()
def tw1640094449796053894:=()
def tw16401059265018988783:=()
def tw16633136950332409907:=()
def tw16717582632319821952:=()
def tw16741524799070502888:=()
def tw16876476254126540472:=()
def tw16898374323786808523:=()
def tw17067752600029708315:=()
def tw17073976235457721017:=()
def tw17093929320048287528:=()
def tw17119876917160237069:=()
def tw1719292167702595444:=()
def tw1741170794133260822:=()
def tw17414682444041416595:=()
def tw1752417286006115803:=()
def tw17539543669743424615:=()
def tw17541171044798082907:=()
def tw17555618076684820093:=()
def tw17590970093622775536:=()
def tw17794223887492885297:=()
def tw17835213399910712557:=()
def tw1794766232542450373:=()
def tw18197136351907767113:=()
def tw18197900479055109085:=()
def tw18322199013954371175:=()
def tw2006059487355979415:=()
def tw2008887364575579403:=()
def tw2115193227387980470:=()
def tw2159980758097555413:=()
def tw2187513717664435905:=()
def tw2217968752880618293:=()
def tw2309918036296074630:=()
def tw2393108222387881975:=()
def tw2696140089774822380:=()
def tw2711044185651201664:=()
def tw2723683958484400098:=()
def tw2744325454587305622:=()
def tw2854570214278441496:=()
def tw2944777537117985779:=()
def tw3007005909475098321:=()
def tw3040842933553685584:=()
def tw3095359961685637543:=()
def tw3197884993218274104:=()
def tw3301817379117545704:=()
def tw3322046604244038197:=()
def tw332466432168154342:=()
def tw3420728894434538103:=()
def tw3432123127232856881:=()
def tw3449671406788234554:=()
def tw3527114051529485526:=()
def tw3633343645834302914:=()
def tw3641069982898668973:=()
def tw366611893178981831:=()
def tw3749593146880420964:=()
def tw3762020637077656695:=()
def tw3911227191691602127:=()
def tw3967670202345925199:=()
def tw4204508776602839526:=()
def tw4328843811059820450:=()
def tw4357631003335401336:=()
def tw4383553382104704251:=()
def tw4402047861609350824:=()
def tw4510788442442105904:=()
def tw4549620581780999826:=()
def tw4594720113149842017:=()
def tw4627318033877299998:=()
def tw4632214948183179592:=()
def tw4635973139713019653:=()
def tw4805635970961231330:=()
def tw4913663819988606539:=()
def tw5069960686913803832:=()
def tw5174251937420741972:=()
def tw5187770084059958439:=()
def tw5242377285023488927:=()
def tw5349393181175619901:=()
def tw5405361714883465735:=()
def tw5460884917092246287:=()
def tw5540974251836698439:=()
def tw5583965971269886765:=()
def tw5622298557852736547:=()
def tw5731938152172122738:=()
def tw5745107370335595006:=()
def tw5811203869584082388:=()
def tw5896881162539052306:=()
def tw5905428919632049745:=()
def tw5911704416892868879:=()
def tw5923228795611103757:=()
def tw5942141469006482407:=()
def tw5967389363048034716:=()
def tw605683650100534331:=()
def tw6161610059914604854:=()
def tw6199376829735409600:=()
def tw6229463748334725086:=()
def tw623731405562467892:=()
def tw6418777530104048525:=()
def tw6627339362559296052:=()
def tw6633792578479099271:=()
def tw6640805491359251694:=()
def tw6648274691988483317:=()
def tw6657662592580132251:=()
def tw6746074620958976286:=()
def tw6876536665417937076:=()
def tw6923842259696270987:=()
def tw7041169883305473926:=()
def tw7173989259540610981:=()
def tw720491968198692288:=()
def tw7270722317021452366:=()
def tw7340394573866206804:=()
def tw7345454409355403593:=()
def tw7425880348214878408:=()
def tw7510440477212889084:=()
def tw7655795747718015348:=()
def tw7817177473500386591:=()
def tw7888185619958594856:=()
def tw7919658782822236962:=()
def tw7932575281198763621:=()
def tw7984534950016985834:=()
def tw8194948005033642841:=()
def tw8277039520935833421:=()
def tw8909573751513946011:=()
def tw8912016669293708120:=()
def tw9057016480233366838:=()
def tw9415992059597344378:=()
def tw9576737787506916875:=()
def tw9629617164163301934:=()
def tw965453703323206555:=()
def tw9738580847994428015:=()
def tw974303568254129201:=()
def tw9750364062242500321:=()
def tw9784041070613652781:=()
end PySem.W.Fast
open PySem PySem.W PyProof.Rows
set_option maxRecDepth 100000 in
set_option maxHeartbeats 0 in
theorem PySem.Challenge.cw_pursewright_k02_whole_written_and_read_holds : PySem.Challenge.rw_pursewright_k02_whole_written_and_read.Holds := by
 w_on;o_law;k_head;(case hw=>w_witness2)
 k_fill
 refine K02.walk (l:=PySem.Challenge.rw_pursewright_k02_whole_written_and_read) rfl rfl (fun w h Y=>PySem.W.kIn_of Y) ?F
 case F =>
  intro w mg fa h KX G hmg;refine' K02.all_mk KX G hmg ..
  all_goals try first|refine' L2.DY.of ?_ ?_ ?_ ?_|refine' L2.DM.of ?_ ?_ ?_ ?_ ?_
  all_goals try delta L2.NI L2.LK L2.CI L2.KI L2.NB L2.bJ
  all_goals try first|k_is|kernel_rfl|repeat (first|exact .nil|refine .cons ⟨_,rfl⟩ ?_)