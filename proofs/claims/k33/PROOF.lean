import PyProof.Rows.All
import Wide.All
import OpenK.AllK
import Wide.FinOn
import Lean
import PyProof.EqAt
import PyProof.EqKinds
import PyProof.TupleCall
import PyProof.InstStoreFacts
import PySem.Challenge.RW_pursewright_k33_papers_of_another_form
set_option Elab.async false
set_option linter.all false
set_option maxRecDepth 100000
local macro_rules|`(tactic|symm)=>`(tactic|exact ⟨rfl,rfl,rfl,by decide +kernel,rfl,by decide +kernel,by decide +kernel⟩)
open PySem renaming wpAny_bind→cZ,wpAny_pure→kq,starEach→m4,sizeLine→pq,wpAny_holding→BI,wpAny_mono→Nz,wpAny_Call_Name_kw→RZ,plainId_quiet→R3,wpAny_call_entry→So,wpAny_updateSeq→Ul,codeAny_builtin→Uw,wpAny_typeOf→VD,wpAny_rule→Wo,wpAny_newObj_type→Wz,sizeLine_eq→WA,wpAny_specialOf→WL,wpAny_isInstance→WY,wpAny_attempt→W0,wpAny_setField→Xe,GenState→X5,PassesOwn→X6
open List renaming length_map→dN,mem_singleton→fy,getElem?_eq_getElem→fZ,getElem?_map→gs,mem_cons_of_mem→g5,length_append→iQ,getElem?_eq_some_iff→jS,mem_cons_self→lD,mem_of_getElem?→mu,mem_append→nZ,nodup_nil→n6,mem_cons→ot,mem_map→oG,map_append→pz,mem_append_right→pA,mem_append_left→p7,length_cons→qf,append_nil→qg,length_take→qp,size_toArray→ri,take_add_one→ro,take_length→rr,getElem_of_mem→sS,lookup_cons→uj,map_map→uk,length_eq_zero_iff→uy,append_assoc→u4,nodup_cons→u6,contains_cons→vb,getElem?_append_left→vr,length_singleton→v5,append_eq_nil_iff→xq,not_mem_nil→x2,nodup_append→yK,getElem?_append_right→C5,map_cons→E3,range→Fh,replicate→Fi,length_drop→Fs,filter_cons_of_pos→JU,getElem?_set_ne→M1,length→Nv,find?_cons→Ny,getD_eq_getElem?_getD→QL,mem_of_mem_take→RV,all_eq_true→R4,getElem?_eq_none→Uk,any_eq_true→Wg,filter_cons_of_neg→Wh,getElem?_zip_eq_some→Wk,take_sublist→Wm,length_set→Wn,length_pos_iff→Wq,getElem?_set_self→Wr,cons_ne_nil→Ws,length_nil→Wv,length_zip→Ww,lookup→Wx,pairwise_map→Wy,any_cons→WB,set_eq_of_length_le→WC,map_congr_left→WE,append_cancel_left→WG,mem_flatMap→WH,any_map→WI,of_mem_zip→WJ,getElem?_toArray→WO,drop_left→WU,getElem_mem→WW,sum_cons→WZ,forIn_cons→W3,mem_range→W6,reverse_cons→W8,drop_eq_nil_of_le→Xd,map_take→Xf,take_append_of_le_length→Xi,filterMap_cons→Xk,nodup_iff_pairwise_ne→Xn,map_inj_right→Xo,mem_or_eq_of_mem_set→Xp,sublist_append_right→Xr,drop_eq_getElem_cons→Xs,any_eq_false→Xt,foldl_append→Xv,getElem?_take_of_lt→Xx,map_drop→Xy,getElem_inj→Xz,getElem?_replicate→XA,cons_append→XE,map_fst_zip→XG,sublist_nil→XH,drop_length→XI,all_map→XN,take_of_length_le→XO,mem_filter→XQ,length_filter_le→XT,eq_nil_or_concat→XU,dropLast_concat→XY,zip→XZ,drop_zero→X0,mem_of_mem_drop→X1,take_zero→X3,length_reverse→X7,mem_filterMap→Ya,pairwise_cons→Yf,ext_getElem?→Yh,getElem?_inj→Yl,nodup_range→Yo,zipIdx_cons→Yp
open PySem.Heap renaming get?_push_of_some→ft,lt_size→jR,get?_push_size→px,get?_update_other→sT,get?_update_self→ui,size_push→v3,get?_none_of_le→OW,MadeExcOf→WS,SameBut→WV,get?_push_cases→XX,get?_update_ne→X8,get?_push_at→Yj,ExtBut→Yr
open Option renaming map_eq_some_iff→gV,isSome_map→WQ,map_some→Xj,isSome_iff_exists→Xw,bind_eq_some_iff→XF,getD_none→Yn
open Nat renaming le_refl→nY,ne_of_lt→rz,lt_of_lt_of_le→rE,le_trans→sR,le_of_lt→sV,zero_le→wh,ne_of_gt→zj,lt_irrefl→BH,zero_add→Fq,min_eq_left→Nx,lt_of_le_of_lt→V8,lt_succ_self→Wl,le_max_left→WK,lt_of_sub_eq_succ→WN,lt_succ_of_lt→WR,lt_trans→W9,le_of_lt_succ→Xc,add_le_add_left→Xl,sub_succ→Xm,min_le_right→XC,le_of_eq→XJ,add_le_add_right→X4,mod_lt→Yc,mod_mod_of_dvd→Yd,le_succ_of_le→Ym,le_succ→Yq,sub_le→Ys
open Bool renaming false_ne_true→sQ,and_eq_true→sU,eq_iff_iff→W2,false_eq_true→W5,or_true→Xb,eq_false_iff→Xu,true_or→XM,and_false→XW,false_or→X9
open PySem.Obj renaming mapSeq→QG,data_mapFields→Wu,isFreed_of_fields→WM,mapFields→Xg,cls_mapFields→Yi
open Int renaming toNat_of_nonneg→Wi,le_refl→Wj,zero_add→WX,natCast_nonneg→W4,toNat_natCast→W7,natCast_mul→XR,toNat_le→Yg,le_trans→Yk
open Array renaming length_toList→WD,getElem?_eq_some_iff→WT,getElem?_eq_none→Xa,getElem?_eq_getElem→Xq,getElem?_toList→XS,find?_toList→Yb,forIn_toList→Ye
open PySem.Around renaming under_plainId→Xh
open Option renaming some→Z,none→Y
open Bool renaming true→O,false→ϊ
open PySem renaming Value→B,Addr→J,Shared→ϋ
def U{α:Sort u}{a:α}:a=a:=rfl
open Lean in
def lp:Nat->Syntax->MacroM (TSyntax `rcasesPat)
|n+1,s=>match s with
 |`(($a,$b,*))=>do let c<-(#[a]++b.getElems).mapM λx=>lp n x;`(rcasesPat|⟨$[$c:rcasesPat],*⟩)
 |`(⟨$a,*⟩)=>do let c<-a.getElems.mapM λx=>lp n x;`(rcasesPat|⟨$[$c:rcasesPat],*⟩)
 |`($x:ident)=>let y:=if x.getId==`U then mkIdent `rfl else x;`(rcasesPat|$y:ident)
 |_=>`(rcasesPat|_)
|_,_=>`(rcasesPat|_)
local macro_rules|`(tactic|let $p:term:=$e)=>do`(tactic|obtain $(<-lp 9 p):rcasesPat:=$e)
local macro_rules|`(($a,$b,*))=>`(⟨$a,$b,*⟩)
open PySem.W renaming Frag→BT
open PySem renaming FuncData→Ch,World→Cl,Program→Da,Around→Db,Heap→Do,Expr→Ev,Stmt→EQ
open Lean in
local macro_rules|`(tactic|left)=>`(tactic|intro $(mkIdent `gd):ident $(mkIdent `s):ident $(mkIdent `σ):ident $(mkIdent `H):ident $(mkIdent `Q):ident $(mkIdent `I):ident $(mkIdent `h):ident)
open Lean in
local macro_rules|`(tactic|right)=>`(tactic|intro $(mkIdent `gd):ident $(mkIdent `s):ident $(mkIdent `σ):ident $(mkIdent `H):ident $(mkIdent `D):ident $(mkIdent `I):ident $(mkIdent `h):ident)
theorem zdc(h:True:=by decide):True:=h
theorem zrf(h:True=True:=by rfl):True=True:=h
local macro_rules|`(‹$t›)=>`(autoParam $t zrf._auto_1)
noncomputable section
set_option bootstrap.genMatcherCode false
set_option genSizeOf false
set_option genInjectivity false
namespace L2
open PySem PySem.Spec PyProof.Rows
abbrev Key:=Sum Int Str
def uV:Key->B->Bool
 |.inl k,v=>B.isInt k v
 |.inr x,v=>B.isStrOf x v
def Vw(w:Cl):Key->Int
 |.inl k=>hashInt k
 |.inr x=>hashStr w x
theorem bT:∀{k:Key}{v:B},uV k v=O->(∃i t,k=Sum.inl i/\v=B.int i t)\/(∃x t,k=Sum.inr x/\v=B.str x t)
 |.inl i,v,h=>by
  let(t,e):=B.isInt_shape h;exact .inl (i,t,U,e)
 |.inr x,v,h=>by
  let(t,e):=B.isStrOf_shape h;exact .inr (x,t,U,e)
def EB(i:Int)(t:Tok):uV (.inl i) (.int i t)=true:=by simp[uV,B.isInt]
def EA(x:Str)(t:Tok):uV (.inr x) (.str x t)=true:=by simp[uV,B.isStrOf]
def Q7(a b:Int):decide ((Sum.inl a:Key)=Sum.inl b)=(a==b):=by
 by_cases e:a=b
 ·subst e;simp
 ·have h:¬(Sum.inl a:Key)=Sum.inl b:=λq=>e (Sum.inl.inj q)
  rw[decide_eq_false h];exact(beq_eq_false_iff_ne.mpr e).symm
def Q0(a b:Str):decide ((Sum.inr a:Key)=Sum.inr b)=decide (a=b):=by
 by_cases e:a=b
 ·simp
 ·have h:¬(Sum.inr a:Key)=Sum.inr b:=λq=>e (Sum.inr.inj q)
  rw[decide_eq_false h,decide_eq_false e]
def Q6(a:Int)(b:Str):decide ((Sum.inl a:Key)=Sum.inr b)=false:=decide_eq_false (λq=>nomatch q)
def Q5(a:Str)(b:Int):decide ((Sum.inr a:Key)=Sum.inl b)=false:=decide_eq_false (λq=>nomatch q)
def bq(prog:Da)(w:Cl):PySem.KeyKind prog w Key where
 is:=uV
 hash:=Vw w
 inj:=λv a b ha q=>by
  obtain⟨i,t,rfl,rfl⟩|⟨x,t,rfl,rfl⟩:=bT ha
  ·obtain⟨j,u,rfl,e⟩|⟨y,u,rfl,e⟩:=bT q
   ·injection e with g _;rw[g]
   ·exact nomatch e
  ·obtain⟨j,u,rfl,e⟩|⟨y,u,rfl,e⟩:=bT q
   ·exact nomatch e
   ·injection e with g _;rw[g]
 byValue:=λk v h=>by
  obtain⟨i,t,rfl,rfl⟩|⟨x,t,rfl,rfl⟩:=bT h <;> rfl
 pyHash:=λhv h=>by
  obtain⟨i,t,rfl,rfl⟩|⟨x,t,rfl,rfl⟩:=bT hv
  ·exact wpAny_pyHash_int h
  ·exact wpAny_pyHash_str h
 eqBool:=λz hv h=>by
  obtain⟨i,t,rfl,rfl⟩|⟨x,t,rfl,rfl⟩:=bT z
  ·obtain⟨j,u,rfl,rfl⟩|⟨y,u,rfl,rfl⟩:=bT hv
   ·rw[Q7]at h;exact wpAny_eqBool_int h
   ·rw[Q6]at h;exact SeqAt.EqAt.int_str i t y u _ _ _ _ h
  ·obtain⟨j,u,rfl,rfl⟩|⟨y,u,rfl,rfl⟩:=bT hv
   ·rw[Q5]at h;exact SeqAt.EqAt.str_int x t j u _ _ _ _ h
   ·rw[Q0]at h;exact wpAny_eqBool_str h
 «strs»:=λk x t v h=>by
  obtain⟨i,u,rfl,e⟩|⟨y,u,rfl,e⟩:=bT h
  ·exact nomatch e
  ·injection e with g _
   subst g;cases v <;> rfl
def yr(prog:Da)(w:Cl)(i:Int)(t:Tok):(bq prog w).is (.inl i) (.int i t)=true:=EB i t
def yq(prog:Da)(w:Cl)(x:Str)(t:Tok):(bq prog w).is (.inr x) (.str x t)=true:=EA x t
set_option genInjectivity true in
inductive V where
 |non|bl (b:Bool)|int (i:Int)|str (x:Str)|byt (b:Array UInt8)|flt (b:UInt64)|ref (a:J)|ty (n:String)
 deriving DecidableEq
def RelV:V->B->Prop
 |.non,u=>u=B.none
 |.bl b,u=>u=B.bool b
 |.int i,u=>∃t,u=B.int i t
 |.str x,u=>∃t,u=B.str x t
 |.byt b,u=>∃t,u=B.bytes b t
 |.flt b,u=>∃t,u=B.float b t
 |.ref a,u=>u=B.ref a
 |.ty n,u=>u=B.type n
abbrev Vals:List V->List B->Prop:=Paired RelV
theorem Vals.length{xs:List V}{us:List B}(r:Vals xs us):xs.length=us.length:=Paired.length r
theorem Vals.get:∀{xs:List V}{us:List B}{i:Nat}{x:V},Vals xs us->xs[i]?=Z x->∃u,us[i]?=Z u/\RelV x u
 |_,_,_,_,.nil,e=>by simp at e
 |_,_,0,_,.cons r _,e=>by simp at e;subst e;exact(_,U,r)
 |_,_,i+1,x,.cons _ t,e=>by
  let(u,h1,h2):=Vals.get t (by simpa using e)
  exact(u,by simpa using h1,h2)
theorem Vals.set{x:V}{u:B}(r:RelV x u):∀{xs:List V}{us:List B}(i:Nat),Vals xs us->Vals (xs.set i x) (us.set i u)
 |_,_,_,.nil=>.nil
 |_,_,0,.cons _ t=>.cons r t
 |_,_,i+1,.cons q t=>.cons q (Vals.set r i t)
variable{us:List B}
def Vals.append{xs ys:List V}{ws:List B}(h:Vals xs us)(s:Vals ys ws):Vals (xs++ys) (us++ws):=by
 induction h with
 |nil=>exact s
 |cons r _ g=>exact .cons r g
theorem Vals.take:∀{xs:List V}{us:List B}(n:Nat),Vals xs us->Vals (xs.take n) (us.take n)
 |_,_,0,_=>.nil
 |_,_,_+1,.nil=>.nil
 |_,_,n+1,.cons r t=>.cons r (Vals.take n t)
theorem Vals.drop:∀{xs:List V}{us:List B}(n:Nat),Vals xs us->Vals (xs.drop n) (us.drop n)
 |_,_,0,r=>r
 |_,_,_+1,.nil=>.nil
 |_,_,n+1,.cons _ t=>Vals.drop n t
def iO:Option V->Option B->Prop
 |some v,Z u=>RelV v u
 |none,Y=>True
 |_,_=>False
def KV{κ:Type}:List (κ×V)->List (κ×B)->Prop:=Paired λ(p:κ×V)(q:κ×B)=>p.1=q.1/\RelV p.2 q.2
def kV:Key->V
 |.inl i=>.int i
 |.inr x=>.str x
inductive HO where
 |lst(xs:List V)
 |tup(xs:List V)
 |dK(kvs:List (Key×V))|dT (kvs:List (List Key×V))
 |set(S:Int->Bool)(n:Nat)
 |ins(C dx:J)(fs:List (Str×V))
 |own(x:J)
 |xd(fs:List (Str×V))
 |room(x:Int)
 |met(f x:J)
 |rng(lo hi:Int)
 |frz(o:Obj)(u:HO)
 |tbl(ps:Array B)
 |ext(φ:Do->Prop)
abbrev Hp:=J->Option HO
def upd(H:Hp)(a:J)(o:HO):Hp:=λb=>if b=a then Z o else H b
variable{H:Hp}{a:J}{o:HO}
def au:upd H a o a=Z o:=by unfold upd;rw[if_pos rfl]
def aj{b:J}(h:b≠a):upd H a o b=H b:=by unfold upd;rw[if_neg h]
def gc{u:HO}:upd (upd H a o) a u=upd H a u:=by
 funext b;unfold upd;split <;> rfl
def gT{b:J}{u:HO}(h:H a=Z o)(h':H b=Z u)(d:o≠u):a≠b:=by
 intro e;subst e;rw[h]at h';exact d (Option.some.inj h')
def aL{b:J}(h:H a=Z o)(h':H b=Y):a≠b:=by
 intro e;subst e;rw[h]at h';cases h'
def jQ(h:Do)(a:J)(items:Array B):Prop:=IsTup h a items/\∃o,h.get? a=Z o/\o.dict=Y
theorem jQ.new(h:Do)(items:Array B):jQ (h.push {cls:=.type "tuple",data:=.seq items}) h.objs.size items:=(IsTup.new _ _,_,px _ U,U)
section
variable(P:Da)(w:Cl)
def bJ(H:Hp)(h:Do)(a:J):HO->Prop
 |.lst xs=>xs.length<=pq/\∃(its:List B)(n:Nat),Vals xs its/\h.get? a=Z {cls:=.type "list",data:=.seq its.toArray n}
 |.tup xs=>xs.length<=pq/\∃its:List B,Vals xs its/\jQ h a its.toArray
 |.dK kvs=>kvs.length<=pq/\(a==sysModules)=ϊ/\∃vs,KV kvs vs/\h.DictOf (bq P w) a vs
 |.dT kvs=>kvs.length<=pq/\(a==sysModules)=ϊ/\∃xs:List (List Key×J×B),
   Paired (λ(p:List Key×V)(q:List Key×J×B)=>p.1=q.1/\H q.2.1=Z (.tup (p.1.map kV))/\RelV p.2 q.2.2) kvs xs /\
   ∃o es g,h.get? a=Z o/\o.ExactDict/\o.data=.dict es g/\es.toList=xs.map (entryOfKey (tupleKind (bq P w)))/\(xs.map (·.1)).Nodup
 |.set S n=>h.SetOf (intKind P w) a S n
 |.ins C dx fs=>H dx=Z (.own a)/\fs.length<=1000/\dx≠a/\h.get? a=Z (W.instObj C dx) /\
   ∃mA,h.Ns1 dx mA/\(∀f,iO (fs.lookup f) (mA f))/\PySem.Within mA (fs.map (·.1))
 |.own _=>∃o,h.get? a=Z o
 |.xd fs=>∃mA,h.Ns1 a mA/\∀f,iO (fs.lookup f) (mA f)
 |.room x=>∃(its:List B)(n:Nat),Vals [.int x] its/\h.get? a=Z {cls:=.type "list",data:=.seq its.toArray n}
 |.rng lo hi=>∃t u v,h.get? a=Z {cls:=.type "range",data:=.fields #[.int lo t,.int hi u,.int 1 v]}
 |.frz o u=>h.get? a=Z o/\bJ H h a u
 |.tbl ps=>h.get? a=Z {cls:=.none,data:=.fields ps}
 |.met f x=>h.get? a=Z (W.methodObj (.ref f) (.ref x))
 |.ext φ=>φ h/\(∃o,h.get? a=Z o)/\∀h1 h2:Do,φ h1->(∀o,h1.get? a=Z o->h2.get? a=Z o)->φ h2
def HOk(H:Hp)(h:Do):Prop:=∀a o,H a=Z o->bJ P w H h a o
end
section
variable{P:Da}{w:Cl}{H':Hp}{h h':Do}
theorem bJ.lt(x:bJ P w H h a o):a<h.objs.size:=by
 cases o with
 |lst xs=>let(_,_,_,_,e):=x;exact jR e
 |tup xs=>let(_,_,_,p):=x;exact p.1.lt
 |dK kvs=>let(_,_,_,_,o,_,_,e,_):=x;exact jR e
 |dT kvs=>let(_,_,_,_,o,_,_,e,_):=x;exact jR e
 |set S n=>let(o,_,_,_,e,_):=x;exact jR e
 |ins C dx fs=>let(_,_,_,e,_):=x;exact jR e
 |own y=>let(_,e):=x;exact jR e
 |xd fs=>let(_,(_,_,_,e,_),_):=x;exact jR e
 |room g=>let(_,_,_,e):=x;exact jR e
 |rng lo hi=>let(_,_,_,e):=x;exact jR e
 |frz ob u=>let(e,_):=x;exact jR e
 |tbl ps=>exact jR (x)
 |met f y=>exact jR (x)
 |ext φ=>let(_,(_,e),_):=x;exact jR e
def Paired.TN{α β:Type}{F G:α->β->Prop}{q:List α}{g:List β}(r:Paired F q g)(f:∀a b,F a b->G a b):Paired G q g:=by
 induction r with
 |nil=>exact .nil
 |cons r _ z=>exact .cons (f _ _ r) z
def bJ.dj(x:bJ P w H h a o)(k:∀b u,(b=a\/H b=Z (.own a))->h.get? b=Z u->h'.get? b=Z u)
  (ho:∀b,H b=Z (.own a)->H' b=Z (.own a)) (V:∀b xs,H b=Z (.tup xs)->H' b=Z (.tup xs)):bJ P w H' h' a o:=by
 induction o with
 |lst xs=>let(z,its,n,r,e):=x;exact(z,its,n,r,k _ _ (.inl U) e)
 |tup xs=>let(z,its,r,(ob,e,c),o2,K,d2):=x;exact(z,its,r,(ob,k _ _ (.inl U) e,c),o2,k _ _ (.inl U) K,d2)
 |dK kvs=>let(z,y,vs,r,ob,es,g,e,c):=x;exact(z,y,vs,r,ob,es,g,k _ _ (.inl U) e,c)
 |dT kvs =>
  let(z,y,xs,r,ob,es,g,e,c):=x;exact(z,y,xs,Paired.TN r λp q z=>(z.1,V _ _ z.2.1,z.2.2),ob,es,g,k _ _ (.inl U) e,c)
 |set S n=>let(ob,es,g,t,e,c):=x;exact(ob,es,g,t,k _ _ (.inl U) e,c)
 |ins C dx fs =>
  let(d,z,ne,e,mA,(od,es,g,K,c),r):=x;exact(ho _ d,z,ne,k _ _ (.inl U) e,mA,(od,es,g,k _ _ (.inr d) K,c),r)
 |own y=>let(ob,e):=x;exact(ob,k _ _ (.inl U) e)
 |xd fs=>let(mA,(od,es,g,e,c),r):=x;exact(mA,(od,es,g,k _ _ (.inl U) e,c),r)
 |room x'=>let(t,u,v,e):=x;exact(t,u,v,k _ _ (.inl U) e)
 |rng lo hi=>let(t,u,v,e):=x;exact(t,u,v,k _ _ (.inl U) e)
 |frz ob u Q=>let(e,q):=x;exact(k _ _ (.inl U) e,Q q)
 |tbl ps =>
  have e:=x;exact k a _ (.inl U) e
 |met f y =>
  have e:=x;exact k a _ (.inl U) e
 |ext φ=>let(p,(o,e),st):=x;exact(st _ _ p λo q=>k _ _ (.inl U) q,(o,k _ _ (.inl U) e),st)
theorem HOk.lt(x:HOk P w H h)(e:H a=Z o):a<h.objs.size:=(x a o e).lt
def HOk.fresh(x:HOk P w H h)(e:h.objs.size<=a):H a=none:=by
 cases q:H a with
 |none=>rfl
 |some u=>exact absurd (rE (x.lt q) e) (BH _)
def HOk.kept(x:HOk P w H h)(k:∀b u,h.get? b=Z u->h'.get? b=Z u):HOk P w H h':=λa o e =>
 (x a o e).dj (λb u _ q=>k b u q) (λ_ q=>q) λ_ _ q=>q
def HOk.laid(x:HOk P w H h)(k:∀b u,h.get? b=Z u->h'.get? b=Z u)(hp:h.objs.size<=a)(new:bJ P w (upd H a o) h' a o):HOk P w (upd H a o) h':=λb u e=>by
 have hn:=x.fresh hp;by_cases g:b=a
 ·subst g;rw[au]at e;cases e;exact new
 ·rw[aj g]at e;exact(x b u e).dj (λc v _ q=>k c v q) (λc q=>by rw[aj (aL q hn)];exact q) λc xs q=>by rw[aj (aL q hn)];exact q
end
def Rd(H:Hp)(a:J)(u:HO):Prop:=H a=Z u\/∃o,H a=Z (.frz o u)
variable{P:Da}
def Rd.ok{w:Cl}{h:Do}{u:HO}(r:Rd H a u)(x:HOk P w H h):bJ P w H h a u:=by
 obtain r |⟨o,r⟩:=r
 ·exact x a u r
 ·let(_,q):=x a _ r;exact q
def Mut:Option HO->Prop
 |some (.lst _)=>True
 |some (.dK _)=>True
 |some (.dT _)=>True
 |some (.set _ _)=>True
 |some (.ins _ _ _)=>True
 |some (.ext _)=>True
 |some (.room _)=>True
 |_=>False
section
variable{w:Cl}{h h':Do}{x e:J}{o':HO}
def HOk.write(ok:HOk P w H h)(K:Mut (H x))(he:e=x\/H e=Z (.own x))(k:∀b u,b≠e->h.get? b=Z u->h'.get? b=Z u)(ak:∃u,h'.get? e=Z u)
  (new:bJ P w (upd H x o') h' x o'):HOk P w (upd H x o') h':=λb u q=>by
 have TC:∀c y,H c=Z (.own y)->c≠x:=λc y r z=>by subst z;rw[r]at K;exact K
 have Vh:∀c xs,H c=Z (.tup xs)->c≠x:=λc xs r z=>by subst z;rw[r]at K;exact K
 by_cases V:b=x
 ·subst V;rw[au]at q;cases q;exact new
 ·rw[aj V]at q;by_cases g:b=e
  ·have q':H b=Z (.own x):=by
    obtain z|z:=he
    ·exact absurd (g.trans z) V
    ·rw[g];exact z
   rw[q]at q';cases q';let(v,hv):=ak;exact(v,by rw[g];exact hv)
  ·refine(ok b u q).dj (λc v Q r=>k c v ?_ r) (λc r=>by rw[aj (TC c b r)];exact r) λc xs r=>by rw[aj (Vh c xs r)];exact r
   obtain rfl|Q:=Q
   ·exact g
   ·rintro rfl
    obtain z|z:=he
    ·exact TC c b Q z
    ·rw[Q]at z;cases z;exact V U
end
structure Un(fs ex:List J)(H H':Hp)(h h':Do):Prop where
 keep:∀b o,h.get? b=Z o->H b=Y->b ∉ fs->b ∉ ex->h'.get? b=Z o
 slot:∀b o,h.get? b=Z o->H b=Y->b∈fs->b ∉ ex->∃sl,h'.get? b=Z {o with slots:=sl}
 free:∀b o,h.get? b=Z o->H b=Y->b ∉ ex->H' b=Y
 there:∀b o,h.get? b=Z o->b ∉ ex->∃o',h'.get? b=Z o'
 lL:∀b xs,H b=Z (.tup xs)->H' b=Z (.tup xs)
 jd:∀b o u,H b=Z (.frz o u)->H' b=Z (.frz o u)
 lN:∀b ps,H b=Z (.tbl ps)->∃more,H' b=Z (.tbl (ps++more))
variable{ob:Obj}
section
variable{fs ex:List J}{H1:Hp}{h h1 h':Do}{x e:J}
def Un.any(u:Un fs ex H H1 h h1){b:J}(q:h.get? b=Z ob)(n:H b=Y)(hx:b ∉ ex):∃sl,h1.get? b=Z {ob with slots:=sl}:=by
 by_cases g:b∈fs
 ·exact u.slot b ob q n g hx
 ·exact(ob.slots,u.keep b ob q n g hx)
def Un.kept(k:∀b u,h.get? b=Z u->h'.get? b=Z u):Un fs ex H H h h' :=
 (λb ob q _ _ _=>k b ob q,λb ob q _ _ _=>(ob.slots,k b ob q),λ_ _ _ n _=>n,λb ob q _=>(ob,k b ob q),λ_ _ q=>q,λ_ _ _ q=>q,λ_ ps q=>(#[],by rw[q];simp))
def Un.refl:Un fs ex H H h h:=Un.kept λ_ _ q=>q
def Un.laid(k:∀b u,h.get? b=Z u->h'.get? b=Z u)(hp:h.objs.size<=a)(hn:H a=Y):Un fs ex H (upd H a o) h h' where
 keep:=λb u q _ _ _=>k b u q
 slot:=λb u q _ _ _=>(u.slots,k b u q)
 free:=λb u q n _=>by rw[aj (rz (rE (jR q) hp))];exact n
 there:=λb u q _=>(u,k b u q)
 lL:=λb xs q=>by rw[aj (aL q hn)];exact q
 jd:=λb u xs q=>by rw[aj (aL q hn)];exact q
 lN:=λb ps q=>(#[],by rw[aj (aL q hn),q];simp)
def Un.write(K:Mut (H x))(he:e=x\/H e=Z (.own x))(k:∀b u,b≠e->h.get? b=Z u->h'.get? b=Z u)(P:∃u,h'.get? e=Z u):Un fs ex H (upd H x o) h h':=by
 have hx:∀b,H b=Y->b≠x:=λb n z=>by subst z;rw[n]at K;exact K
 have Q:∀b,H b=Y->b≠e:=λb n z=>by
  subst z;obtain r|r:=he
  ·exact hx b n r
  ·rw[n]at r;cases r
 have hm:∀b u,H b=Z u->¬ Mut (Z u)->b≠x:=λb u q nm z=>by subst z;rw[q]at K;exact nm K
 refine(λb u q n _ _=>k b u (Q b n) q,λb u q n _ _=>(u.slots,k b u (Q b n) q),λb u q n _=>by rw[aj (hx b n)];exact n,λb u q _=>?_,
  λb xs q=>by rw[aj (hm b _ q λz=>z)];exact q,λb u xs q=>by rw[aj (hm b _ q λz=>z)];exact q,λb ps q=>(#[],by rw[aj (hm b _ q λz=>z),q];simp))
 by_cases g:b=e
 ·subst g;exact P
 ·exact(u,k b u g q)
end
def trk(h:Do)(H:Hp):List Addr:=(Fh h.objs.size).filter λa=>(H a).isSome
def yI(h:Do)(H:Hp):Do:=W.hideAll h (trk h H)
theorem EG(h:Do)(H:Hp):(yI h H).objs.size=h.objs.size:=W.hideAll_size _ _
theorem Jc{h:Do}{b:J}{o:Obj}(e:h.get? b=Z o)(n:H b=Y):(yI h H).get? b=Z o :=
 W.hideAll_get _ e λhm=>by
  have q:=(XQ.mp hm).2;rw[n]at q;simp at q
theorem MB{h:Do}{b:J}{o:Obj}(e:(yI h H).get? b=Z o):h.get? b=Z o/\H b=none:=by
 have g:=W.of_hideAll (trk h H) e;refine(g,?_);cases q:H b with
 |none=>rfl
 |some x =>
  have hm:b∈trk h H:=XQ.mpr (W6.mpr (jR g),by simp[q])
  have z:(yI h H).get? b=none:=W.hideAll_none (trk h H) hm;rw[z]at e;cases e
structure Mod(K:BT)(mg:Str->Option B)(base:Do):Prop where
 kin:K.In base
 glob:base.Ns mainGlobals mg
 blt:∃mb,base.Ns builtinsNs mb/\∀x:Str,x ≠ "__name__"->mb x=bootBuiltins x
 nolimit:base.NoLimit
structure Cx where
 prog:Da
 w:Cl
 K:BT
 mg:Str->Option B
 base:Do
 A:Db
 N:List Str
 s₀:ϋ
 H₀:Hp
 env:Env
 outer:List Env
 stack:List Env
 ex:List J
 fn:Str->Bool
 calm:Bool
 pn:List (J×Obj)
 xe:B->ϋ->Prop
abbrev Zc(X:Cx){α:Type}:=@wpAny α (model X.prog X.w) X.A
def frs(l:List Env):List Addr:=l.filterMap (·.frame)
abbrev Cx.fs(X:Cx):List Addr:=frs X.outer
def Vis(sc:Scope)(x:Str):Prop:=sc.names.lookup x=Z .local\/sc.names.lookup x=Z .cell\/sc.names.lookup x=Z .free
def Loc(sc:Scope)(x:Str):Prop:=sc.names.lookup x=Z .local\/sc.names.lookup x=Z .cell
def Look(env:Env)(h:Do)(m:Str->Option B)(x:Str)(u:B):Prop :=
 (env.kindOf x=Z .local/\m x=Z u)\/((env.kindOf x=Z .cell\/env.kindOf x=Z .free)/\∃c,env.cells.lookup x=Z c/\h.IsCell c (Z u))
structure Cx.Ok(X:Cx):Prop where
 mod:Mod X.K X.mg X.base
 kind:X.env.scope.kind=.function
 glob:X.env.globals=mainGlobals
 blt:X.env.builtins=builtinsNs
 above:X.s₀.heap.objs.size<=X.env.locals
 inj:∀x y c,X.env.cells.lookup x=Z c->X.env.cells.lookup y=Z c->x=y
 has:∀x,(X.env.kindOf x=Z .cell\/X.env.kindOf x=Z .free)->∃c,X.env.cells.lookup x=Z c
 cab:∀x c,X.fn x=O->X.env.cells.lookup x=Z c->X.s₀.heap.objs.size<=c
 hd:X.calm=O->X.A.handled=Y
 frames:X.A.frames=Z X.stack
 stk:X.stack=X.outer\/(X.stack=X.env::X.outer/\X.env.frame=Z X.env.locals)
 exf:∀b∈X.ex,b≠X.env.locals/\∀x c,X.env.cells.lookup x=Z c->c≠b
 bs:∀b o,X.base.get? b=Z o->X.s₀.heap.get? b=Z o/\X.H₀ b=Y
 bsz:X.base.objs.size<=X.s₀.heap.objs.size
 AL:∀b o,X.base.get? b=Z o->b ∉ X.ex
 EK:∀b∈X.ex,b ∉ X.fs
 kn:X.s₀.heap.FunFrames X.base X.outer
 frf:∀b∈X.fs,X.H₀ b=Y
structure Inv(X:Cx)(gd:List (J×Obj))(σ:List (Option V))(H:Hp)(s:ϋ):Prop where
 ok:X.Ok
 os:s.os=X.s₀.os
 bare:AllBare s.gens
 base:Un X.fs X.ex X.H₀ H X.s₀.heap s.heap
 loc:∃m,s.heap.Ns X.env.locals m/\∀(i:Nat)(x:Str)(v:V),X.N[i]?=Z x->σ[i]?=Z (Z v)->Vis X.env.scope x->∃u,RelV v u/\Look X.env s.heap m x u
 cell:∀x c,X.env.cells.lookup x=Z c->∃v,s.heap.IsCell c v
 free:H X.env.locals=Y
 dO:∀x c,X.env.cells.lookup x=Z c->H c=Y
 pin:∀p∈X.pn++gd,s.heap.get? p.1=Z p.2/\H p.1=Y/\p.1≠X.env.locals/\p.1 ∉ X.fs/\∀v,p.2.data ≠ .cell v
 hok:HOk X.prog X.w H s.heap
 len:σ.length=X.N.length
variable{ch:List J}{t':Nat}{it:J}{N:List Str}{j:Nat}{x:Str}{u:B}{s':ϋ}
section
variable{X:Cx}{gd:List (J×Obj)}{σ:List (Option V)}{H':Hp}{s:ϋ}{h':Do}
def Cx.Ok.Vk(ok:X.Ok){b:J}{o:Obj}(e:X.base.get? b=Z o):b ∉ X.fs:=λg=>by
 have:=(ok.kn.mem g).1
 rw[e]at this;cases this
theorem Inv.bs(I:Inv X gd σ H s):∀b o,X.base.get? b=Z o->s.heap.get? b=Z o/\H b=none:=λb o e =>
 (I.base.keep b o (I.ok.bs b o e).1 (I.ok.bs b o e).2 (I.ok.Vk e) (I.ok.AL b o e),I.base.free b o (I.ok.bs b o e).1 (I.ok.bs b o e).2 (I.ok.AL b o e))
def Inv.bk(I:Inv X gd σ H s):∀b o,X.base.get? b=Z o->s.heap.get? b=Z o:=λb o e=>(I.bs b o e).1
theorem Inv.mod(I:Inv X gd σ H s):Mod X.K X.mg X.base:=I.ok.mod
def Inv.kIn(I:Inv X gd σ H s):X.K.In s.heap:=I.ok.mod.kin.keeps I.bk
theorem Inv.lt(I:Inv X gd σ H s):X.env.locals<s.heap.objs.size:=let(_,hn,_):=I.loc;hn.lt
def Inv.sz(I:Inv X gd σ H s):X.s₀.heap.objs.size<=s.heap.objs.size:=sR I.ok.above (sV I.lt)
def Inv.TJ(I:Inv X gd σ H s)(h:s.heap.objs.size<=a):a ∉ X.fs:=λg=>by
 let(_,o,ho,_):=I.ok.kn.mem g;exact absurd (rE (jR ho) (sR I.sz h)) (BH _)
def Inv.cne(I:Inv X gd σ H s):∀x c,X.env.cells.lookup x=Z c->c≠X.env.locals:=λx c e z=>by
 let(v,o,ho,hd):=I.cell x c e;let(m,(o',es,K,g,q,_),_):=I.loc;rw[z,g]at ho;cases ho;rw[q]at hd;cases hd
theorem Inv.kn(I:Inv X gd σ H s):s.heap.FunFrames X.base X.outer:=by
 have all:∀l,(∀b∈frs l,b∈X.fs)->X.s₀.heap.FunFrames X.base l->s.heap.FunFrames X.base l:=by
  intro l
  induction l with
  |nil=>intro _ _;trivial
  |cons env r K =>
   intro hs hl;let(hk,(L,o,hf,hn,ho,hd),hr):=hl;have q:=hs L (by unfold frs;rw[Xk,hf];exact lD)
   let(sl,e):=I.base.slot L o ho (I.ok.frf L q) q λz=>I.ok.EK L z q
   exact(hk,(L,_,hf,hn,e,hd),K (λb g=>hs b (by unfold frs;rw[Xk,hf];exact g5 _ g)) hr)
 exact all X.outer (λ_ g=>g) I.ok.kn
theorem Inv.stack(I:Inv X gd σ H s):s.heap.FunFrames X.base X.stack:=by
 obtain e |⟨e,hf⟩:=I.ok.stk
 ·rw[e];exact I.kn
 ·rw[e];let(m,hn,_):=I.loc;exact .cons (by rw[I.ok.kind];decide) hf hn (OW (sR I.ok.bsz I.ok.above)) I.kn
def Inv.ny(I:Inv X gd σ H s):∀b∈frs X.stack,b∈X.env.locals::X.fs:=λb g=>by
 obtain e |⟨e,hf⟩:=I.ok.stk
 ·rw[e]at g;exact g5 _ g
 ·rw[e]at g;unfold frs at g;rw[Xk,hf]at g;exact g
def Inv.jX(I:Inv X gd σ H s):∀b∈frs X.stack,H b=none:=λb g=>by
 obtain e|g:=ot.mp (I.ny b g)
 ·rw[e];exact I.free
 ·let(_,o,ho,_):=I.ok.kn.mem g;exact I.base.free b o ho (I.ok.frf b g) λz=>I.ok.EK b z g
def Inv.step{g':Array X5}{t':Nat}{d':Drawn}(I:Inv X gd σ H s)
  (K:∀b∈ch,(b∈X.ex\/X.s₀.heap.objs.size<=b)/\b≠X.env.locals/\(∀x c,X.env.cells.lookup x=Z c->c≠b)/\∀p∈X.pn++gd,p.1≠b)
  (keep:∀b o,b≠X.env.locals->b ∉ X.fs->b ∉ ch->s.heap.get? b=Z o->H b=Y->h'.get? b=Z o)
  (slot:∀b o,b≠X.env.locals->b∈X.fs->b ∉ ch->s.heap.get? b=Z o->H b=Y->∃sl,h'.get? b=Z {o with slots:=sl}) (free:∀b o,b ∉ ch->s.heap.get? b=Z o->H b=Y->H' b=Y)
  (there:∀b o,b ∉ ch->s.heap.get? b=Z o->∃o',h'.get? b=Z o')
  (lL:∀b xs,H b=Z (.tup xs)->H' b=Z (.tup xs)) (jd:∀b o u,H b=Z (.frz o u)->H' b=Z (.frz o u)) (lN:∀b ps,H b=Z (.tbl ps)->∃more,H' b=Z (.tbl (ps++more)))
  (ns:∀m,s.heap.Ns X.env.locals m->h'.Ns X.env.locals m) (hok:HOk X.prog X.w H' h') (hg:AllBare g'):
  Inv X gd σ H' {s with heap:=h',gens:=g',drawn:=d',toks:=t'}:=by
 have ak:∀b o,X.s₀.heap.get? b=Z o->b≠X.env.locals:=λb o e=>rz (rE (jR e) I.ok.above)
 have P:∀b o,X.s₀.heap.get? b=Z o->b ∉ X.ex->b ∉ ch:=λb o e hx V=>by
  obtain z|z:=(K b V).1
  ·exact hx z
  ·exact absurd (rE (jR e) z) (BH _)
 have cellK:∀x c,X.env.cells.lookup x=Z c->∀v,s.heap.IsCell c v->h'.IsCell c v:=λx c e v (o,ho,hd)=>by
  have g:=λz=>(K c z).2.2.1 x c e U
  by_cases hc:c∈X.fs
  ·let(sl,q):=slot c o (I.cne x c e) hc g ho (I.dO x c e);exact(_,q,hd)
  ·exact(o,keep c o (I.cne x c e) hc g ho (I.dO x c e),hd)
 refine(I.ok,I.os,hg,(λb o e n V hx=>?_,λb o e n V hx=>?_,λb o e n hx=>?_,λb o e hx=>?_,λb xs e=>lL b xs (I.base.lL b xs e),λb o xs e=>jd b o xs (I.base.jd b o xs e),λb ps e=>?_),?_,λx c e=>?_,?_,λx c e=>?_,λp hp=>?_,hok,I.len)
 ·exact keep b o (ak b o e) V (P b o e hx) (I.base.keep b o e n V hx) (I.base.free b o e n hx)
 ·let(sl,Q):=I.base.slot b o e n V hx;let(ar,e2):=slot b _ (ak b o e) V (P b o e hx) Q (I.base.free b o e n hx);exact(ar,e2)
 ·let(o',Q):=I.base.there b o e hx;exact free b o' (P b o e hx) Q (I.base.free b o e n hx)
 ·let(o',Q):=I.base.there b o e hx;exact there b o' (P b o e hx) Q
 ·let(m1,Q):=I.base.lN b ps e;let(m2,e2):=lN b _ Q;exact(m1++m2,by rw[e2,Array.append_assoc])
 ·let(m,hn,hl):=I.loc;refine(m,ns m hn,λi x v Q e2 e3=>?_)
  let(u,r,l):=hl i x v Q e2 e3;refine(u,r,?_);obtain l |⟨k,c,e,z⟩:=l
  ·exact .inl l
  ·exact .inr (k,c,e,cellK x c e _ z)
 ·let(v,z):=I.cell x c e;exact(v,cellK x c e v z)
 ·let(m,(o,_,_,ho,_),_):=I.loc;exact free _ o (λz=>(K _ z).2.1 U) ho I.free
 ·let(v,o,ho,hd):=I.cell x c e;exact free c o (λz=>(K c z).2.2.1 x c e U) ho (I.dO x c e)
 ·let(e,n,ne,nf,d):=I.pin p hp;have g:=λz=>(K p.1 z).2.2.2 p hp U
  exact(keep p.1 p.2 ne nf g e n,free p.1 p.2 g e n,ne,nf,d)
def Inv.un(I:Inv X gd σ H s)(u:Un X.fs [] H H' s.heap h')(hok:HOk X.prog X.w H' h'):Inv X gd σ H' {s with heap:=h',toks:=t'}:=by
 let(m,(o,es,ep,ho,r),_):=id I.loc;let(sl,V):=u.any ho I.free (by simp)
 exact I.step (ch:=[]) (λ_ z=>nomatch z) (λb o _ q _ e n=>u.keep b o e n q (by simp)) (λb o _ q _ e n=>u.slot b o e n q (by simp)) (λb o _ e n=>u.free b o e n (by simp)) (λb o _ e=>u.there b o e (by simp)) u.lL u.jd u.lN (λm' hm=>by
  let(o',K,P,g,Q):=hm;rw[ho]at g;cases g;exact(_,K,P,V,Q)) hok I.bare
def Inv.call{g':Array X5}{t':Nat}{d':Drawn}{ch:List J}(I:Inv X gd σ H s)(u:Un (frs X.stack) ch H H' s.heap h')(hok:HOk X.prog X.w H' h')(hg:AllBare g')
  (K:∀b∈ch,(b∈X.ex\/X.s₀.heap.objs.size<=b)/\b≠X.env.locals/\(∀x c,X.env.cells.lookup x=Z c->c≠b)/\∀p∈X.pn++gd,p.1≠b):
  Inv X gd σ H' {s with heap:=h',gens:=g',drawn:=d',toks:=t'}:=by
 let(m,(o,es,ep,ho,r),_):=id I.loc;let(sl,P):=u.any ho I.free λz=>(K _ z).2.1 U
 exact I.step K (λb o P hb g e n=>u.keep b o e n (λz=>(ot.mp (I.ny b z)).elim P hb) g) (λb o _ _ g e n=>u.any e n g) (λb o g e n=>u.free b o e n g) (λb o g e=>u.there b o e g) u.lL u.jd u.lN (λm' hm=>by
  let(o',Q,V,q,r'):=hm;rw[ho]at q;cases q;exact(_,Q,V,P,r')) hok hg
def Inv.turned(I:Inv X gd σ H s)(k:∀b o,b≠it->s.heap.get? b=Z o->h'.get? b=Z o)(hn:H it=Y)(P:it≠X.env.locals)
  (h1:it∈X.ex\/X.s₀.heap.objs.size<=it) (h2:∀x c,X.env.cells.lookup x=Z c->c≠it) (h3:∀p∈X.pn++gd,p.1≠it):Inv X gd σ H {s with heap:=h',toks:=t'}:=by
 have K:∀b u,H b=Z u->b≠it:=λb u e z=>by rw[z,hn]at e;cases e
 refine I.step (ch:=[it]) (λb Q=>?_) (λb o _ _ g e _=>k b o (λz=>g (by simp[z])) e) (λb o _ _ g e _=>(o.slots,k b o (λz=>g (by simp[z])) e)) (λ_ _ _ _ n=>n)
  (λb o g e=>(o,k b o (λz=>g (by simp[z])) e)) (λ_ _ e=>e) (λ_ _ _ e=>e) (λb ps e=>(#[],by rw[e];simp)) (λm hm=>?_) (λb u e=>?_) I.bare
 ·have e:=by simpa using Q
  subst e;exact(h1,P,h2,h3)
 ·let(o,es,V,ho,r):=hm;exact(o,es,V,k _ o (Ne.symm P) ho,r)
 ·refine(I.hok b u e).dj (λc v g q=>k c v ?_ q) (λ_ q=>q) λ_ _ q=>q
  obtain z|z:=g
  ·rw[z];exact K b u e
  ·exact K c _ z
def Inv.tok(I:Inv X gd σ H s)(t:Nat):Inv X gd σ H {s with toks:=t}:=I.un Un.refl I.hok
theorem Inv.kept{t':Nat}(I:Inv X gd σ H s)(k:∀b u,s.heap.get? b=Z u->h'.get? b=Z u):Inv X gd σ H {s with heap:=h',toks:=t'}:=I.un (Un.kept k) (I.hok.kept k)
theorem Inv.laid{a:J}{o:HO}{t':Nat}(I:Inv X gd σ H s)(k:∀b u,s.heap.get? b=Z u->h'.get? b=Z u)(hp:s.heap.objs.size<=a)(new:bJ X.prog X.w (upd H a o) h' a o):
  Inv X gd σ (upd H a o) {s with heap:=h',toks:=t'}:=I.un (Un.laid k hp (I.hok.fresh hp)) (I.hok.laid k hp new)
theorem Inv.write{x e:J}{o:HO}{t':Nat}(I:Inv X gd σ H s)(q:Mut (H x))(he:e=x\/H e=Z (.own x))(k:∀b u,b≠e->s.heap.get? b=Z u->h'.get? b=Z u)(g:∃u,h'.get? e=Z u)
  (new:bJ X.prog X.w (upd H x o) h' x o):Inv X gd σ (upd H x o) {s with heap:=h',toks:=t'}:=I.un (Un.write q he k g) (I.hok.write q he k g new)
def Inv.lY{pins':List (J×Obj)}(I:Inv X gd σ H s)(h:∀p∈pins',s.heap.get? p.1=Z p.2/\H p.1=Y/\p.1≠X.env.locals/\p.1 ∉ X.fs/\∀v,p.2.data ≠ .cell v):Inv X pins' σ H s :=
 (I.ok,I.os,I.bare,I.base,I.loc,I.cell,I.free,I.dO,λp hp=>(nZ.mp hp).elim (λz=>I.pin p (p7 _ z)) (h p),I.hok,I.len)
def rC(g:N.Nodup){i:Nat}(a:N[i]?=Z x)(b:N[j]?=Z x):i=j:=by
 let(h1,z):=jS.mp a;let(h2,q):=jS.mp b;exact(Xz g).mp (z.trans q.symm)
abbrev AT(X:Cx)(x:Str):Prop:=X.fn x=true\/X.env.scope.names.lookup x=some .local
def DJ{M:Model}{A:Db}{E:B->ϋ->Prop}{i:Nat}{v:V}{Q:Unit->ϋ->Prop}(I:Inv X gd σ H s)(hN:X.N.Nodup)(hi:X.N[i]?=Z x)(hx:Loc X.env.scope x)(r:RelV v u)
  (h:∀s',Inv X gd (σ.set i (Z v)) H s'->(∃a,WV a s.heap s'.heap/\(a=X.env.locals\/X.env.cells.lookup x=Z a))->Q () s') (hf:AT X x:=by first|exact .inl rfl|exact .inr rfl|assumption):wpAny M A (storeName X.env x u) Q E s:=by
 let(m,hn,hl):=id I.loc;have yL:(X.env.scope.kind == .class ||(X.env.scope.kind == .module&&X.env.locals != X.env.globals))=false:=by rw[I.ok.kind];rfl
 have ak:i < σ.length:=by rw[I.len];exact(jS.mp hi).1
 have cne:=I.cne;have tracked:∀{a:J}{h':Do},(∃o,s.heap.get? a=Z o/\H a=Y)->WV a s.heap h'->HOk X.prog X.w H h':=λ{a h'} ha hs b ob e=>by
  let(_,_,iX):=ha;refine(I.hok b ob e).dj (λc w' K q=>(hs.2 c ?_).trans q) (λ_ q=>q) λ_ _ q=>q
  rintro rfl
  obtain rfl|K:=K
  ·rw[iX]at e;cases e
  ·rw[iX]at K;cases K
 obtain hk|hk:=hx
 ·refine wpAny_storeName_local hk hn (λh' aT hs=>?_) yL
  let(oL,_,_,aS,_):=id hn;refine h _ (I.ok,I.os,I.bare,(λb o e n hb hx=>?_,λb o e n hb hx=>?_,I.base.free,λb o e hx=>?_,I.base.lL,I.base.jd,I.base.lN),(_,aT,λj y v' g P e3=>?_),λy c e=>?_,I.free,I.dO,λp hp=>?_,tracked (oL,aS,I.free) hs,by simpa using I.len) (_,hs,.inl U)
  ·exact(hs.2 b (rz (rE (jR e) I.ok.above))).trans (I.base.keep b o e n hb hx)
  ·let(sl,g):=I.base.slot b o e n hb hx;exact(sl,(hs.2 b (rz (rE (jR e) I.ok.above))).trans g)
  ·let(o',g):=I.base.there b o e hx;exact(o',(hs.2 b (rz (rE (jR e) I.ok.above))).trans g)
  ·by_cases hj:j=i
   ·subst hj;rw[hi]at g;cases g;rw[Wr ak]at P;cases P;exact(u,r,.inl (hk,by simp))
   ·rw[M1 (Ne.symm hj)]at P;let(u',r',q):=hl j y v' g P e3;refine(u',r',?_);obtain⟨k,e⟩|⟨k,c,e,z⟩:=q
    ·refine .inl (k,?_)
     have:y≠x:=λe=>hj (rC hN g (e▸hi))
     simp[this,e]
    ·exact .inr (k,c,e,z.sameBut hs (cne y c e))
  ·let(w',z):=I.cell y c e;exact(w',z.sameBut hs (cne y c e))
  ·let(e,n,ne,nf,d):=I.pin p hp;exact((hs.2 p.1 ne).trans e,n,ne,nf,d)
 ·have ar:X.fn x=true:=by
   obtain z|z:=hf
   ·exact z
   ·rw[z]at hk;cases hk
  let(c,K):=I.ok.has x (.inl hk);let(w',z):=I.cell x c K;refine wpAny_storeName_cell I.ok.kind hk K z (λh' aP hs=>?_)
  let(oc,aA,VF):=id z;refine h {s with heap:=h'} (I.ok,I.os,I.bare,(λb o e n hb hx=>?_,λb o e n hb hx=>?_,I.base.free,λb o e hx=>?_,I.base.lL,I.base.jd,I.base.lN),(m,hn.sameBut hs (Ne.symm (cne x c K)),λj y v' g P e3=>?_),λy c' e=>?_,I.free,I.dO,λp hp=>?_,tracked (oc,aA,I.dO x c K) hs,by simpa using I.len) (c,hs,.inr K)
  ·exact(hs.2 b (rz (rE (jR e) (I.ok.cab x c ar K)))).trans (I.base.keep b o e n hb hx)
  ·let(sl,g):=I.base.slot b o e n hb hx;exact(sl,(hs.2 b (rz (rE (jR e) (I.ok.cab x c ar K)))).trans g)
  ·let(o',g):=I.base.there b o e hx;exact(o',(hs.2 b (rz (rE (jR e) (I.ok.cab x c ar K)))).trans g)
  ·by_cases hj:j=i
   ·subst hj;rw[hi]at g;cases g;rw[Wr ak]at P;cases P;exact(u,r,.inr (.inl hk,c,K,aP))
   ·rw[M1 (Ne.symm hj)]at P;let(u',r',q):=hl j y v' g P e3;refine(u',r',?_);obtain q |⟨k,c',e,z'⟩:=q
    ·exact .inl q
    ·refine .inr (k,c',e,z'.sameBut hs ?_)
     rintro rfl
     exact hj (rC hN g (I.ok.inj _ _ _ e K▸hi))
  ·by_cases aN:c'=c
   ·subst aN;exact(_,aP)
   ·let(w2,z2):=I.cell y c' e;exact(w2,z2.sameBut hs aN)
  ·let(e,n,ne,nf,d):=I.pin p hp;refine((hs.2 p.1 ?_).trans e,n,ne,nf,d);intro q;rw[q,aA]at e;have q':=Option.some.inj e;exact d w' (by rw[<- q'];exact VF)
def gJ{M:Model}{A:Db}{E:B->ϋ->Prop}{i:Nat}{v:V}{Q:Unit->ϋ->Prop}(I:Inv X gd σ H s)(g:X.N.Nodup)(hi:X.N[i]?=Z x)(hx:Loc X.env.scope x)(r:RelV v u)
  (h:∀s',Inv X gd (σ.set i (Z v)) H s'->Q () s') (hf:AT X x:=by first|exact .inl rfl|exact .inr rfl|assumption):wpAny M A (storeName X.env x u) Q E s :=
 DJ I g hi hx r (λs' q _=>h s' q) hf
def Inv.zc(I:Inv X gd σ H s)(ho:s'.os=s.os)(u:Un (frs X.stack) ch H H' s.heap s'.heap)(hok:HOk X.prog X.w H' s'.heap)(hg:AllBare s'.gens)
  (g:∀b∈ch,(b∈X.ex\/X.s₀.heap.objs.size<=b)/\b≠X.env.locals/\(∀x c,X.env.cells.lookup x=Z c->c≠b)/\∀p∈X.pn++gd,p.1≠b):Inv X gd σ H' s':=by
 let(h',g',q,t',o'):=s';have e:=ho;subst e;exact I.call u hok hg g
end
abbrev XK:=B->Option J->Hp->Prop
abbrev St:=List (Option V)
abbrev VK:=V->Hp->Prop
abbrev TE:=St->Hp->VK->Prop
abbrev TT:=St->Hp->(Bool->Hp->Prop)->Prop
abbrev TA:=St->Hp->(List V->Hp->Prop)->Prop
structure Ends where
 nx:St->Hp->Prop
 rt:VK
 bk:St->Hp->Prop:=λ_ _=>False
 ct:St->Hp->Prop:=λ_ _=>False
abbrev TS:=Ends->St->Hp->Prop
inductive EP(X:Cx)(gd:List (J×Obj))(σ:St)(Q:VK)(u:B)(s':ϋ):Prop
 |mk(v H':_)(h1:Inv X gd σ H' s')(h2:RelV v u)(h3:Q v H')
inductive TP(X:Cx)(gd:List (J×Obj))(σ:St)(Q:Bool->Hp->Prop)(b:Bool)(s':ϋ):Prop
 |mk(H':_)(h1:Inv X gd σ H' s')(h2:Q b H')
inductive AP(X:Cx)(gd:List (J×Obj))(σ:St)(Q:List V->Hp->Prop)(us:List B)(s':ϋ):Prop
 |mk(vs H':_)(h1:Inv X gd σ H' s')(h2:Vals vs us)(h3:Q vs H')
def SP(X:Cx)(gd:List (J×Obj))(D:Ends)(f:Flow)(s':ϋ):Prop :=
 match f with
 |.next=>∃g H',Inv X gd g H' s'/\D.nx g H'
 |.brk=>∃g H',Inv X gd g H' s'/\D.bk g H'
 |.cont=>∃g H',Inv X gd g H' s'/\D.ct g H'
 |.ret u=>∃v g H',Inv X gd g H' s'/\RelV v u/\D.rt v H'
def PE(X:Cx)(e:Ev)(t:TE):Prop :=
 ∀(gd:List (J×Obj))(s:ϋ)(σ:St)(H:Hp)(Q:VK),Inv X gd σ H s->t σ H Q->Zc X (eval e X.env) (EP X gd σ Q) X.xe s
def PT(X:Cx)(e:Ev)(t:TT):Prop :=
 ∀(gd:List (J×Obj))(s:ϋ)(σ:St)(H:Hp)(Q:Bool->Hp->Prop),Inv X gd σ H s->t σ H Q->Zc X (isTrue e X.env (eval e X.env)) (TP X gd σ Q) X.xe s
def PW(X:Cx)(e:Ev)(t:TT):Prop :=
 ∀(whole:Sem B)(gd:List (J×Obj))(s:ϋ)(σ:St)(H:Hp)(Q:Bool->Hp->Prop),Inv X gd σ H s->t σ H Q->Zc X (isTrue e X.env whole) (TP X gd σ Q) X.xe s
variable{X:Cx}{e:Ev}
def PW.pt{t:TT}(h:PW X e t):PT X e t:=h _
def PA(X:Cx)(es:List Ev)(t:TA):Prop :=
 ∀(pos:Pos)(gd:List (J×Obj))(s:ϋ)(σ:St)(H:Hp)(Q:List V->Hp->Prop),Inv X gd σ H s->t σ H Q->Zc X (spliced (backTo pos (m4 es X.env))) (AP X gd σ Q) X.xe s
def PS(X:Cx)(st:EQ)(t:TS):Prop :=
 ∀(gd:List (J×Obj))(s:ϋ)(σ:St)(H:Hp)(D:Ends),Inv X gd σ H s->t D σ H->Zc X (exec st X.env) (SP X gd D) X.xe s
def PSs(X:Cx)(st:List EQ)(t:TS):Prop :=
 ∀(gd:List (J×Obj))(s:ϋ)(σ:St)(H:Hp)(D:Ends),Inv X gd σ H s->t D σ H->Zc X (execs st X.env) (SP X gd D) X.xe s
variable{M:Model}{A:Db}{E:B->ϋ->Prop}
def thn{α:Type}{t:Sem α}{Q Q':α->ϋ->Prop}{s:ϋ}(h:wpAny M A t Q E s)(g:∀a s,Q a s->Q' a s):wpAny M A t Q' E s:=Nz h g λ_ _ x=>x
variable{gd:List (J×Obj)}{Q:B->ϋ->Prop}{op:CmpOp}
section
inductive bZ(i:Nat)(σ:St)(H:Hp)(Q:VK):Prop
 |mk(v:_)(h1:σ[i]?=Z (Z v))(h2:Q v H)
def tC(v:V):TE:=λ_ H Q=>Q v H
abbrev AS(x:Str):Prop:=(x ==("__debug__":Str))=false
def HL{i:Nat}{pos:Pos}(K:X.N[i]?=Z x)(hv:Vis X.env.scope x)(hd:autoParam (AS x) zdc._auto_1)(g:autoParam ((x ==("__classdict__":Str))=false) zdc._auto_1):PE X (.Name x pos) (bZ i):=by
 left;let(v,e,h):=h;let(m,hn,hl):=I.loc;let(u,r,l):=hl i x v K e hv;have fin:EP X gd σ Q u s:=(v,H,I,r,h);obtain⟨hk,hm⟩|⟨hk,c,q,z⟩:=l
 ·exact wpAny_Name (wpAny_loadName_local I.ok.kind hk hn hm fin) hd
 ·obtain hk|hk:=hk
  ·exact wpAny_Name (wpAny_loadName_cell I.ok.kind hk q z fin) hd
  ·exact wpAny_Name (wpAny_loadName_free I.ok.kind hk q z fin g) hd
def bD{i j pos}:PE X (.Constant (.int i) j pos) (tC (.int i)):=λ_ _ _ H _ I h=>wpAny_Constant_int (.int i,H,I.tok _,(_,U),h)
def Tx{b j pos}:PE X (.Constant (.bool b) j pos) (tC (.bl b)):=λ_ _ _ H _ I h=>Constant_bool (.bl b,H,I,U,h)
def Qk{j pos}:PE X (.Constant .none j pos) (tC .non):=λ_ _ _ H _ I h=>Constant_none (.non,H,I,U,h)
def di{x j pos}:PE X (.Constant (.str x) j pos) (tC (.str x)):=λ_ _ _ H _ I h=>Calls.Constant_str (.str x,H,I.tok _,(_,U),h)
def Gl(X:Cx)(x:Str):Prop:=X.env.kindOf x=Z .globalImplicit
def ka{E:B->ϋ->Prop}{s:ϋ}{σ:St}{pos:Pos}(I:Inv X gd σ H s)(hg:Gl X x)(hm:X.mg x=Z u)(h:Q u s)
  (hd:autoParam (AS x) zdc._auto_1):Zc X (eval (.Name x pos) X.env) Q E s :=
 Calls.Name_function_global I.ok.kind hg (Calls.loadGlobal_global (by rw[I.ok.glob];exact I.mod.glob.keeps I.bk) hm h) hd
def gE{E:B->ϋ->Prop}{s:ϋ}{σ:St}{pos:Pos}(I:Inv X gd σ H s)(hg:Gl X x)(hm:X.mg x=Y)(hv:bootBuiltins x=Z u)(h:Q u s)
  (hn:autoParam (x ≠ "__name__") zdc._auto_1) (hd:autoParam (AS x) zdc._auto_1):Zc X (eval (.Name x pos) X.env) Q E s:=by
 let(mb,h1,h2):=I.mod.blt;exact Calls.Name_function_global I.ok.kind hg (Calls.loadGlobal_builtin (by rw[I.ok.glob];exact I.mod.glob.keeps I.bk) hm (by rw[I.ok.blt];exact h1.keeps I.bk) ((h2 x hn).trans hv) h) hd
def L9{v:V}{pos:Pos}(hg:Gl X x)(hm:X.mg x=Z u)(r:RelV v u)(hd:autoParam (AS x) zdc._auto_1):PE X (.Name x pos) (tC v) :=
 λ_ _ _ H _ I h=>ka I hg hm (v,H,I,r,h) hd
def Cj{v:V}{pos:Pos}(hg:Gl X x)(hm:X.mg x=Y)(hv:bootBuiltins x=Z u)(r:RelV v u)(hn:autoParam (x ≠ "__name__") zdc._auto_1)(hd:autoParam (AS x) zdc._auto_1):PE X (.Name x pos) (tC v) :=
 λ_ _ _ H _ I h=>gE I hg hm hv (v,H,I,r,h) hn hd
variable{a b:Ev}{ta tb:TE}{pos:Pos}
def Iq(b:Ev)(h:op ≠ .In)(h2:op ≠ .NotIn):behindInMarks op b=false:=by
 have q:(op==CmpOp.In)=false:=by cases op <;> first|rfl|exact absurd U h
 have g:(op==CmpOp.NotIn)=false:=by cases op <;> first|rfl|exact absurd U h2
 cases b with
 |Set elts k pos =>
  show(k==0&&(op==CmpOp.In||op==CmpOp.NotIn)&&_)=ϊ
  rw[q,g]
  cases(k==0) <;> rfl
 |_=>rfl
variable{tA tB':TT}{rest:List Ev}
def O8(t u:TT):TT:=λσ H Q=>t σ H λc H1=>if c=O then u σ H1 Q else Q ϊ H1
def tOr(t u:TT):TT:=λσ H Q=>t σ H λc H1=>if c=O then Q O H1 else u σ H1 Q
def O2(t:TT):TT:=λσ H Q=>t σ H λc H1=>Q (!c) H1
def B7(ha:PT X a tA):PW X (.BoolOp .And [a] pos) tA:=by
 intro g gd s σ H Q I h;refine isTrue_and (thn (ha gd s σ H Q I h) λc s1 e=>?_)
 cases c with
 |true=>exact isTrue_and_nil e
 |false=>exact e
def PZ(ha:PT X a tA):PW X (.BoolOp .Or [a] pos) tA:=by
 intro g gd s σ H Q I h;refine isTrue_or (thn (ha gd s σ H Q I h) λc s1 e=>?_)
 cases c with
 |false=>exact isTrue_or_nil e
 |true=>exact e
def Ho(ha:PT X a tA)(P:PW X (.BoolOp .And (b::rest) pos) tB'):PW X (.BoolOp .And (a::b::rest) pos) (O8 tA tB'):=by
 intro K gd s σ H Q I h;refine isTrue_and (thn (ha gd s σ H _ I h) λc s1 g=>?_)
 let(H1,z,q):=g;cases c with
 |true=>exact P K gd s1 σ H1 Q z q
 |false=>exact(H1,z,q)
def Ti(ha:PT X a tA)(P:PW X (.BoolOp .Or (b::rest) pos) tB'):PW X (.BoolOp .Or (a::b::rest) pos) (tOr tA tB'):=by
 intro K gd s σ H Q I h;refine isTrue_or (thn (ha gd s σ H _ I h) λc s1 g=>?_)
 let(H1,z,q):=g;cases c with
 |true=>exact(H1,z,q)
 |false=>exact P K gd s1 σ H1 Q z q
def P4(ha:PT X a tA):PT X (.UnaryOp .Not a pos) (O2 tA):=by
 left;refine isTrue_not (thn (ha gd s σ H (λc H1=>Q (!c) H1) I h) λc s' z=>?_)
 let(H',g,q):=z;exact(H',g,q)
def FZ(ta tb:TE):TE:=λσ H Q=>ta σ H λx H1=>∃c,x=.bl c/\if c=O then tb σ H1 Q else Q (.bl ϊ) H1
def O1(ta tb:TE):TE:=λσ H Q=>ta σ H λx H1=>∃c,x=.bl c/\if c=O then Q (.bl O) H1 else tb σ H1 Q
def FR(ta:TE):TE:=λσ H Q=>ta σ H λx H1=>∃c,x=.bl c/\Q (.bl (!c)) H1
def Qi{op}{t:TE}(h:PE X a t):PE X (.BoolOp op [a] pos) t:=λgd s σ H Q I hw=>BoolOp_one (h gd s σ H Q I hw)
def Ql(ha:PE X a ta)(P:PE X (.BoolOp .And (b::rest) pos) tb):PE X (.BoolOp .And (a::b::rest) pos) (FZ ta tb):=by
 left;refine BoolOp_and (thn (ha gd s σ H _ I h) λv s1 q=>?_)
 let(x,H1,z,K,g):=q;let(c,U,g):=g;cases K;refine wpAny_truthy_bool ?_;cases c with
 |true=>exact P gd s1 σ H1 Q z g
 |false=>exact(.bl ϊ,H1,z,U,g)
def Tw(ha:PE X a ta)(P:PE X (.BoolOp .Or (b::rest) pos) tb):PE X (.BoolOp .Or (a::b::rest) pos) (O1 ta tb):=by
 left;refine BoolOp_or (thn (ha gd s σ H _ I h) λv s1 q=>?_)
 let(x,H1,z,K,g):=q;let(c,U,g):=g;cases K;refine wpAny_truthy_bool ?_;cases c with
 |false=>exact P gd s1 σ H1 Q z g
 |true=>exact(.bl O,H1,z,U,g)
def Qj(ha:PE X a ta):PE X (.UnaryOp .Not a pos) (FR ta):=by
 left;refine UnaryOp_ (thn (ha gd s σ H _ I h) λv s1 q=>?_)
 let(x,H1,K,z,g):=q;let(c,U,g):=g;cases z;exact not_of (wpAny_truthy_bool (.bl (!c),H1,K,U,g))
end
def SqL(K:BT)(H:Hp)(a:J)(xs:List V):Prop :=
 Rd H a (.lst xs) \/
  ∃(o:Obj)(its:Array B)(n:Nat),K.lookup a=Z o/\o.cls=.type "list" /\ o.dict=Y/\o.data=.seq its n/\its.size<=pq/\Vals xs its.toList
def SqT(K:BT)(H:Hp)(a:J)(xs:List V):Prop :=
 Rd H a (.tup xs) \/
  ∃(o:Obj)(its:Array B)(n:Nat),K.lookup a=Z o/\o.cls=.type "tuple" /\ o.data=.seq its n/\its.size<=pq/\Vals xs its.toList
def VY:B->Option V
 |.none=>Z .non
 |.bool b=>Z (.bl b)
 |.int i _=>Z (.int i)
 |.str x _=>Z (.str x)
 |.bytes b _=>Z (.byt b)
 |.float b _=>Z (.flt b)
 |.ref a=>Z (.ref a)
 |.type n=>Z (.ty n)
 |_=>Y
def RelV.abs{x:V}(r:RelV x u):VY u=Z x:=by
 cases x with
 |non=>cases r;rfl
 |bl _=>cases r;rfl
 |int _=>let(t,U):=r;rfl
 |str _=>let(t,U):=r;rfl
 |byt _=>let(t,U):=r;rfl
 |flt _=>let(t,U):=r;rfl
 |ref _=>cases r;rfl
 |ty _=>cases r;rfl
theorem RelV.inj{x y:V}{u:B}(r:RelV x u)(q:RelV y u):x=y:=Option.some.inj (r.abs.symm.trans q.abs)
theorem Vals.inj:∀{xs ys:List V}{us:List B},Vals xs us->Vals ys us->xs=ys:=by
 intro xs ys us h
 induction h generalizing ys with
 |nil=>intro h';cases h';rfl
 |cons r t q=>intro h';cases h' with|cons g t'=>rw[r.inj g,q t']
section
variable{σ:St}{s:ϋ}{xs ys:List V}
theorem SqL.of{K:BT}(h:H a=Z (.lst xs)):SqL K H a xs:=.inl (.inl h)
theorem SqT.of{K:BT}(h:H a=Z (.tup xs)):SqT K H a xs:=.inl (.inl h)
def Inv.list(I:Inv X gd σ H s)(h:SqL X.K H a xs):∃its:List B,Vals xs its/\PlainL s.heap a its.toArray/\xs.length<=pq:=by
 obtain h |⟨o,its,n,hk,g,hd,hs,q,r⟩:=h
 ·let(z,its,n,r,e):=h.ok I.hok;exact(its,r,(_,n,e,U,U,U),z)
 ·refine(its.toList,r,(o,n,I.kIn a o hk,g,hd,by simpa using hs),?_)
  have e:=r.length;simp only[WD]at e
  lia
def Inv.tuple(I:Inv X gd σ H s)(h:SqT X.K H a xs):∃its:List B,Vals xs its/\IsTup s.heap a its.toArray/\xs.length<=pq:=by
 obtain h |⟨o,its,n,hk,g,hs,q,r⟩:=h
 ·let(z,its,r,p):=h.ok I.hok;exact(its,r,p.1,z)
 ·refine(its.toList,r,(o,I.kIn a o hk,g,n,by simpa using hs),?_)
  have e:=r.length;simp only[WD]at e;omega
def Inv.yx(I:Inv X gd σ H s)(h:SqL X.K H a xs)(h':SqL X.K H a ys):xs=ys:=by
 let(its,r,(o,n,e,_,_,d),_):=I.list h;let(P,z,(o',Q,g,_,_,q),_):=I.list h';rw[e]at g;cases g;rw[d]at q;injection q with d1 _
 have:=by simpa using congrArg Array.toList d1
 subst this;exact r.inj z
def Inv.uD(I:Inv X gd σ H s)(h:SqT X.K H a xs)(h':SqT X.K H a ys):xs=ys:=by
 let(its,r,(o,e,_,n,d),_):=I.tuple h;let(P,z,(o',g,_,Q,q),_):=I.tuple h';rw[e]at g;cases g;rw[d]at q;injection q with d1 _
 have:=by simpa using congrArg Array.toList d1
 subst this;exact r.inj z
end
abbrev Cx.tR(X:Cx)(E:B->ϋ->Prop):Cx:={X with xe:=E}
abbrev Cx.nox(X:Cx):Cx:=X.tR λ_ _=>False
theorem Cx.Ok.tR{X:Cx}(ok:X.Ok)(E:B->ϋ->Prop):(X.tR E).Ok :=
 (ok.mod,ok.kind,ok.glob,ok.blt,ok.above,ok.inj,ok.has,ok.cab,ok.hd,ok.frames,ok.stk,ok.exf,ok.bs,ok.bsz,ok.AL,ok.EK,ok.kn,ok.frf)
def Cx.Ok.je(ok:(X.tR E).Ok):X.Ok :=
 (ok.mod,ok.kind,ok.glob,ok.blt,ok.above,ok.inj,ok.has,ok.cab,ok.hd,ok.frames,ok.stk,ok.exf,ok.bs,ok.bsz,ok.AL,ok.EK,ok.kn,ok.frf)
section
variable{σ:St}{s:ϋ}
theorem Inv.tR(I:Inv X gd σ H s)(E:B->ϋ->Prop):Inv (X.tR E) gd σ H s:=(I.ok.tR E,I.os,I.bare,I.base,I.loc,I.cell,I.free,I.dO,I.pin,I.hok,I.len)
theorem Inv.je(I:Inv (X.tR E) gd σ H s):Inv X gd σ H s:=(I.ok.je,I.os,I.bare,I.base,I.loc,I.cell,I.free,I.dO,I.pin,I.hok,I.len)
theorem SP.je{D:Ends}{f:Flow}{s':ϋ}(h:SP (X.tR E) gd D f s'):SP X gd D f s':=by
 cases f with
 |next=>let(g,H',I,q):=h;exact(g,H',I.je,q)
 |brk=>let(g,H',I,q):=h;exact(g,H',I.je,q)
 |cont=>let(g,H',I,q):=h;exact(g,H',I.je,q)
 |ret u=>let(v,g,H',I,r,q):=h;exact(v,g,H',I.je,r,q)
theorem PSs.nox{st:List EQ}{t:TS}(h:PSs X.nox st t):PSs X st t:=λgd s σ H D I hw =>
 Nz (h gd s σ H D (I.tR _) hw) (λ_ _ q=>q.je) λ_ _ z=>False.elim z
end
variable{tc:TT}
section
variable{st:EQ}{rest:List EQ}{t u:TS}{te:TE}{pos:Pos}
def NG:TS:=λD σ H=>D.nx σ H
def OY(t u:TS):TS:=λD σ H=>t {D with nx:=u D} σ H
def Ca:PSs X [] NG:=λ_ _ σ H _ I h=>wpAny_execs_nil (σ,H,I,h)
def bz(h1:PS X st t)(h2:PSs X rest u):PSs X (st::rest) (OY t u):=by
 right;refine wpAny_execs_cons (thn (h1 gd s σ H {D with nx:=u D} I h) λf s1 q=>?_)
 cases f with
 |next =>
  let(g,H',z,q):=q;exact h2 gd s1 g H' D z q
 |ret v=>exact q
 |brk=>exact q
 |cont=>exact q
def eQ(h1:PS X st t):PSs X [st] t:=by
 right;refine wpAny_execs_cons (thn (h1 gd s σ H D I h) λf s1 q=>?_)
 cases f with
 |next=>exact wpAny_execs_nil q
 |ret v=>exact q
 |brk=>exact q
 |cont=>exact q
def Inv.quiet{σ:St}{s:ϋ}(I:Inv X gd σ H s):interactive X.env=false:=by simp[interactive,I.ok.kind]
def qz(te:TE):TS:=λD σ H=>te σ H λ_ H1=>D.nx σ H1
def wj(he:PE X e te)(hs:‹swapsWith e Y pos.line X.env=pure false›):PS X (.Expr e pos) (qz te):=by
 right;exact wpAny_Expr_any (thn (he gd s σ H _ I h) λv s1 (x,H1,q,z,g)=>(σ,H1,q,g)) I.quiet hs
def OZ(te:TE):TS:=λD σ H=>te σ H D.rt
def qY(he:PE X e te):PS X (.Return (Z e) pos) (OZ te):=by
 right;exact wpAny_Return_some (thn (he gd s σ H _ I h) λv s1 (x,H1,z,g,q)=>(x,σ,H1,z,g,q))
def O4(c:TT)(t u:TS):TS:=λD σ H=>c σ H λb H1=>if b=O then t D σ H1 else u D σ H1
def Hx{c:Ev}{a b:List EQ}(K:PT X c tc)(ha:PSs X a t)(P:PSs X b u):PS X (.If c a b pos) (O4 tc t u):=by
 right;refine wpAny_If (thn (K gd s σ H _ I h) λd s1 g=>?_)
 let(H1,z,q):=g;cases d with
 |true=>exact ha gd s1 σ H1 D z q
 |false=>exact P gd s1 σ H1 D z q
end
abbrev TG:=V->St->Hp->(St->Hp->Prop)->Prop
abbrev TGs:=List V->St->Hp->(St->Hp->Prop)->Prop
def PG(X:Cx)(target:Ev)(t:TG):Prop :=
 ∀(gd:List (J×Obj))(s:ϋ)(σ:St)(H:Hp)(v:V)(u:B)(Q:St->Hp->Prop),Inv X gd σ H s->RelV v u->t v σ H Q ->
  Zc X (assign target X.env u) (λ_ s'=>∃g H',Inv X gd g H' s'/\Q g H') X.xe s
def PGs(X:Cx)(ts:List Ev)(t:TGs):Prop :=
 ∀(gd:List (J×Obj))(s:ϋ)(σ:St)(H:Hp)(vs:List V)(us:List B)(Q:St->Hp->Prop),Inv X gd σ H s->Vals vs us->t vs σ H Q ->
  Zc X (assignInOrder ((assignEach ts X.env).map (·.2)) us) (λ_ s'=>∃g H',Inv X gd g H' s'/\Q g H') X.xe s
abbrev RU:=V->V->V->Hp->(Hp->Prop)->Prop
def RW(X:Cx)(t:RU):Prop :=
 ∀(gd:List (J×Obj))(s:ϋ)(σ:St)(H:Hp)(o i v:V)(g iv u:B)(Q:Hp->Prop),Inv X gd σ H s->RelV o g->RelV i iv->RelV v u->t o i v H Q ->
  Zc X (setItem g iv u) (λ_ s'=>∃H',Inv X gd σ H' s'/\Q H') X.xe s
variable{es:List Ev}{n:Nat}{to:TE}{tg:Ev}{te:TE}{pos':Pos}{b:Ev}{py:Pos}
section
variable{pos:Pos}
def fW(i:Nat):TG:=λv σ H Q=>Q (σ.set i (Z v)) H
def l5{i:Nat}(g:X.N.Nodup)(hi:X.N[i]?=Z x)(hx:Loc X.env.scope x)(hf:AT X x:=by first|exact .inl rfl|exact .inr rfl|assumption):PG X (.Name x pos) (fW i):=by
 intro gd s σ H v u Q I r h;exact wpAny_assign_Name (gJ I g hi hx r (λs' q=>(_,H,q,h)) hf)
def Rx:TGs:=λvs σ H Q=>vs=[]/\Q σ H
def CG(t:TG)(u:TGs):TGs:=λvs σ H Q=>∃v r,vs=v::r/\t v σ H λg H'=>u r g H' Q
def pQ:PGs X [] Rx:=by
 intro gd s σ H vs us Q I r h;let(e,h):=h;subst e;exact assignInOrder_nil (σ,H,I,h)
def cV{t:TG}{u:TGs}(h1:PG X e t)(h2:PGs X es u)
  (hs:‹(assignEach (e::es) X.env).map (·.2)=assign e X.env ::(assignEach es X.env).map (·.2)›):PGs X (e::es) (CG t u):=by
 intro gd s σ H vs us Q I r h;let(v,V,K,h):=h;subst K;cases r with
 |cons r q =>
  rw[hs];exact assignInOrder_cons (thn (h1 gd s σ H _ _ _ I r h) λ_ s1 (g,H1,P,z)=>(h2 gd s1 g H1 _ _ Q P q z))
inductive M6(K:BT)(n:Nat)(t:TGs)(v:V)(σ:St)(H:Hp)(Q:(St->Hp->Prop)):Prop
 |mk(a xs:_)(h1:v=.ref a)(h2:SqT K H a xs)(h3:xs.length=n)(h4:t xs σ H Q)
def Qh{k:Nat}{t:TGs}(P:X.calm=O)(h:PGs X es t)
  (hn:‹(assignEach es X.env).length=n›) (g:‹(assignEach es X.env).findIdx? (·.1)=none›):PG X (.Tuple es k pos) (M6 X.K n t):=by
 intro gd s σ H v u Q I r hw;let(a,xs,V,hq,hl,hw):=hw;subst V;cases r;let(its,q,z,hz):=I.tuple hq;refine assign_Tuple_tuple (I.ok.hd P) z (by simp[hn,<- hl,q.length]) g λh' hx=>?_
 have I1:=I.kept (t':=s.toks) λb o e=>hx b o (rz (jR e)) e
 exact h gd _ σ H xs _ Q I1 (by simpa using q) hw
def Ji(to ti:TE)(t:RU):TG:=λv σ H Q=>to σ H λo H1=>ti σ H1 λi H2=>t o i v H2 λg=>Q σ g
def HK{o i:Ev}{ti:TE}{t:RU}(ho:PE X o to)(hi:PE X i ti)(hs:RW X t)
  (ha:∀v,assign (.Subscript o i pos) X.env v=(do
   let g <- holding [v] (eval o X.env)
   let iv <- holding [v,g] (eval i X.env)
   standAt pos
   holding [v,g,iv] (setItem g iv v)
   release [v,g,iv] []):=by intro _;rfl):PG X (.Subscript o i pos) (Ji to ti t):=by
 intro gd s σ H v u Q I r h;exact cZ (BI (thn (ho gd s σ H _ I h) λg s1 (x,H1,I1,z,V)=>(cZ (BI (thn (hi gd s1 σ H1 _ I1 V) λiv s2 (y,H2,I2,q,P)=>(cZ (wpAny_standAt (cZ (BI (thn (hs gd s2 σ H2 x y v g iv u _ I2 z q r P) λ_ s3 (H3,I3,K)=>(wpAny_release (σ,H3,I3,K))))))))))))
def ja(te:TE)(g:TG):TS:=λD σ H=>te σ H λx H1=>g x σ H1 D.nx
def wk{g:TG}(he:PE X e te)(hg:PG X tg g)(hs:‹swapsWithSole [tg] e pos.line X.env=pure false›)(hw:‹swappedStores [tg] e X.env=pure none›)
  (h1:‹(assignEach [tg] X.env).map (·.2)=[assign tg X.env]›):PS X (.Assign [tg] e pos) (ja te g):=by
 right;refine wpAny_Assign_stores (thn (he gd s σ H _ I h) λv s1 z=>?_) hs hw
 let(x,H1,Q,K,P):=z;rw[h1];exact thn (hg gd s1 σ H1 x v _ Q K P) λ_ s2 q=>q
def iy{i:Nat}(z:X.N.Nodup)(hi:X.N[i]?=Z x)(hx:Loc X.env.scope x)(he:PE X e te)(hs:‹swapsWith e (Z (.Name x pos')) pos.line X.env=pure false›)(hf:AT X x:=by first|exact .inl rfl|exact .inr rfl|assumption):
  PS X (.Assign [.Name x pos'] e pos) (ja te (fW i)):=by
 right;exact wpAny_Assign_Name (thn (he gd s σ H _ I h) λv s1 (y,H1,P,g,q)=>(gJ P z hi hx g (λs2 K=>(_,H1,K,q)) hf)) hs
def O0(i j:Nat)(ta:TA):TS:=λD σ H=>ta σ H λvs H1=>∃v w,vs=[v,w]/\D.nx ((σ.set i (Z v)).set j (Z w)) H1
abbrev BC(X:Cx)(x:Str):Prop:=X.env.scope.names.lookup x=some .local
def P6{i:Nat}{y:Str}{a:Ev}{ta:TA}{P pt:Pos}{kt k2 g}(hc:X.calm=O)(hN:X.N.Nodup)(hi:X.N[i]?=Z x)(hj:X.N[j]?=Z y)(V:i≠j)
  (hx:BC X x) (hy:BC X y) (ha:PA X [a,b] ta)
  (hw:swappedStores [.Tuple [.Name x P,.Name y py] kt pt] (.Tuple [a,b] k2 g) X.env=pure (Z [x,y]))
  (hs:‹swapsWithSole [.Tuple [.Name x P,.Name y py] kt pt] (.Tuple [a,b] k2 g) pos.line X.env=pure false›):
  PS X (.Assign [.Tuple [.Name x P,.Name y py] kt pt] (.Tuple [a,b] k2 g) pos) (O0 i j ta):=by
 right;refine cZ (wpAny_standAt ?_);refine cZ (kq ?_);refine cZ (Tuple_ (thn (ha _ gd s σ H _ I h) λus s1 ak=>?_))
 let(vs,H1,I1,r1,K):=ak;let(v,w,e1,K):=K;subst e1;obtain⟨u1,u2,rfl,rv,z⟩:∃u1 u2,us=[u1,u2]/\RelV v u1/\RelV w u2:=by
  cases r1 with
  |cons p q =>
   cases q with
   |cons p' q' =>
    cases q';exact(_,_,U,p,p')
 refine Wz ?_ (by show 2<=pq;decide)
 have I2:Inv X gd σ H1 {s1 with heap:=s1.heap.push {cls:=.type "tuple",data:=.seq [u1,u2].toArray}}:=I1.kept λb o e=>ft _ e
 rw[hw];refine cZ (kq ?_);refine cZ (Wo (cZ (unpackItems_tuple (items:=#[u1,u2]) (I.ok.hd hc) (IsTup.new s1.heap _) λh' Q=>?_)))
 have I3:=I2.kept (t':=s1.toks) λb o e=>Q b o (rz (jR e)) e
 refine cZ (assignInOrder_cons (wpAny_bindName (gJ I3 hN hj (.inl hy) z (λs2 I4=>(assignInOrder_cons (wpAny_bindName (gJ I4 hN hi (.inl hx) rv (λs3 I5=>assignInOrder_nil (kq ?_)) (.inr hx))))) (.inr hy))))
 rw[List.set_comm _ _ (Ne.symm V)]at I5;exact(_,H1,I5,K)
end
variable{body:List EQ}
section
variable{pos:Pos}
def zV(c:TT)(tb:TS):TS:=λD σ H=>∃W:Nat->St->Hp->Prop,(∃m,W m σ H)/\∀m σ H,W m σ H ->
 c σ H λb H1=>if b=O then ∃N:St->Hp->Prop,(∀g H',N g H'->∃m',m'<m/\W m' g H')/\tb {D with nx:=N,ct:=N,bk:=D.nx} σ H1 else D.nx σ H1
def x8{c:Ev}{tb:TS}(hp:X6 (model X.prog X.w) X.A X.env X.xe)(hc:PT X c tc)(hb:PSs X body tb):PS X (.While c body [] pos) (zV tc tb):=by
 right;let(W,(m0,w0),turn):=h;refine wpAny_While (codeAny_whileLoop (λn s'=>∃z H',Inv X gd z H' s'/\W n z H') ?_ m0 (σ,H,I,w0))
 rintro n s1 ⟨q,H1,I1,w1⟩
 refine wpAny_passesOwn hp (thn (hc gd s1 q H1 _ I1 (turn n q H1 w1)) λb s2 ak=>?_)
 let(H2,I2,Q):=ak;cases b with
 |true =>
  let(N,hN,Q):=Q;refine wpAny_passesOwn hp (thn (hb gd s2 q H2 _ I2 Q) λf s3 P=>?_)
  cases f with
  |next =>
   let(g,K,I3,n3):=P;let(m',hm,V):=hN g K n3;exact(m',hm,g,K,I3,V)
  |cont =>
   let(g,K,I3,n3):=P;let(m',hm,V):=hN g K n3;exact(m',hm,g,K,I3,V)
  |brk=>exact P
  |ret v=>exact P
 |false =>
  exact wpAny_execs_nil (q,H2,I2,Q)
end
structure It where
 go:Nat->Hp->Prop
 yld:Nat->Hp->V->Hp->Prop
 stop:Nat->Hp->Prop
def sW(X:Cx)(gd:List (J×Obj))(H:Hp)(b:J):Prop :=
 H b=Y/\b≠X.env.locals/\b ∉ X.fs/\(b∈X.ex\/X.s₀.heap.objs.size<=b)/\(∀x c,X.env.cells.lookup x=Z c->c≠b)/\∀p∈X.pn++gd,p.1≠b
variable{H':Hp}
def Inv.Jj{σ:St}{s:ϋ}{b:J}(I:Inv X gd σ H s)(g:s.heap.objs.size<=b)(hn:H' b=Y):sW X gd H' b:=by
 refine(hn,zj (rE I.lt g),I.TJ g,.inr (sR I.sz g),λx c e z=>?_,λp hp z=>?_)
 ·let(v,q):=I.cell x c e;exact absurd (rE q.lt (by rw[z];exact g)) (BH _)
 ·exact absurd (rE (jR (I.pin p hp).1) (by rw[z];exact g)) (BH _)
structure Turn(P:Da)(w:Cl)(K:BT)(tg:Ev)(Yy:It)(fp:List J)(it:J)(tn:Nat->Do->Prop):Prop where
 mem:it∈fp
 obj:∀i h,tn i h->∀b∈fp,∃o,h.get? b=Z o/\∀v,o.data ≠ .cell v
 keep:∀i h h',tn i h->(∀b∈fp,∀o,h.get? b=Z o->h'.get? b=Z o)->tn i h'
 item:∀(X:Cx),X.prog=P->X.w=w->X.K=K->X.calm=O->∀(i:Nat)(gd:List (J×Obj))(s:ϋ)(σ:St)(H:Hp)(E:B->ϋ->Prop),Inv X gd σ H s->(∀b∈fp,sW X gd H b)->tn i s.heap->Yy.go i H ->
  wpAny (model P w) X.A (pyNext (.ref it)) (λr s1=>∃u,r=Z u /\
   wpAny (model P w) X.A (letOwnedTupleGo tg (.ref it) u) (λ_ s2=>∃x H',Inv X gd σ H' s2/\RelV x u/\Yy.yld i H x H'/\tn (i+1) s2.heap/\∀b∈fp,H' b=Y) E s1) E s
 done:∀(X:Cx),X.prog=P->X.w=w->X.K=K->X.calm=O->∀(i:Nat)(gd:List (J×Obj))(s:ϋ)(σ:St)(H:Hp)(E:B->ϋ->Prop),Inv X gd σ H s->(∀b∈fp,sW X gd H b)->tn i s.heap->Yy.stop i H ->
  wpAny (model P w) X.A (pyNext (.ref it)) (λr s1=>r=Y/\Inv X gd σ H s1) E s
 self:∀(A:Db)(i:Nat)(s:ϋ)(Q:B->ϋ->Prop)(E:B->ϋ->Prop),tn i s.heap->Q (.ref it) s->wpAny (model P w) A (pyIter (.ref it)) Q E s
abbrev TI:=St->Hp->(It->Hp->Prop)->Prop
def PIE(X:Cx)(gd:List (J×Obj))(σ:St)(tg:Ev)(R:It->Hp->Prop)(g:B)(s2:ϋ):Prop :=
 ∃(it:J)(fp:List J)(tn:Nat->Do->Prop)(Yy:It)(H':Hp),g=.ref it/\Inv X gd σ H' s2/\Turn X.prog X.w X.K tg Yy fp it tn/\tn 0 s2.heap/\(∀b∈fp,sW X gd H' b)/\R Yy H'
def PI(X:Cx)(tg iter:Ev)(wi:TI):Prop :=
 ∀(gd:List (J×Obj))(s:ϋ)(σ:St)(H:Hp)(R:It->Hp->Prop),Inv X gd σ H s->wi σ H R ->
  Zc X (eval iter X.env) (λv s1=>Zc X (pyIter v) (PIE X gd σ tg R) X.xe s1) X.xe s
def Jh{s:ϋ}{o:Obj}{n:String}{vs:Array B}{Q:Unit->ϋ->Prop}(ho:s.heap.get? it=Z o)(q:o.cls=.type n)(hd:o.data=.fields vs)
  (hn:["enumerate","zip","dict_itemiterator","dict_reverseitemiterator","odict_iterator","itertools.zip_longest","itertools.pairwise"].contains n=ϊ) (g:Q () s):wpAny M A (letOwnedTupleGo tg (.ref it) u) Q E s:=by
 cases tg <;> first
  |exact kq g
  | (cases u <;> first
    |exact kq g
    | (refine cZ (wpAny_load ho ?_)
       rw[q,hd];show wpAny M A (if(["enumerate","zip","dict_itemiterator","dict_reverseitemiterator","odict_iterator","itertools.zip_longest","itertools.pairwise"].contains n&&vs[0]? == Z (rawInt _))=O then _ else _) Q E s
       rw[if_neg (by intro h;rw[hn]at h;cases h)]
       exact kq g))
def Itl(K:BT)(a:J):It :=
 (λi H=>∃xs x,SqL K H a xs/\xs[i]?=Z x,λi H x H'=>H'=H/\∀xs,SqL K H a xs->xs[i]?=Z x,λi H=>∃xs,SqL K H a xs/\xs.length<=i)
def Itt(K:BT)(a:J):It :=
 (λi H=>∃xs x,SqT K H a xs/\xs[i]?=Z x,λi H x H'=>H'=H/\∀xs,SqT K H a xs->xs[i]?=Z x,λi H=>∃xs,SqT K H a xs/\xs.length<=i)
def Itr(lo:Int)(n:Nat):It:=(λi _=>i<n,λi H x H'=>H'=H/\x=.int (lo+i),λi _=>n<=i)
theorem DG{w:Cl}{K:BT}(a it:J):Turn P w K tg (Itl K a) [it] it (λi h=>h.IsListIter it a i) where
 mem:=by simp
 obj:=λi h st b g=>by
  have e:=by simpa using g
  subst e;let(o,e,c,d):=st;exact(o,e,λv z=>by rw[d]at z;cases z)
 keep:=λi h h' st k=>st.at λo e=>k it (by simp) o e
 item:=by
  intro X V hw hK hc i gd s σ H E I hf st hg;subst V hw hK;let(xs,x,hq,hx):=hg;let(its,Q,p,hz):=I.list hq;let(u,hu,ru):=Q.get hx;let(f0,f1,f2,f3,f4,f5):=hf it (by simp)
  refine wpAny_pyNext_list_item st p.isList (by simpa using hu) λh' q sb=>?_
  have I1:=I.turned (t':=s.toks) (λb o g e=>(sb.2 b g).trans e) f0 f1 f3 f4 f5
  let(o,e,c,d):=id q;exact(u,U,Jh e c d (by decide) (x,H,I1,ru,(U,λys hy=>by rw[I.yx hy hq];exact hx),q,λb g=>(hf b g).1))
 done:=by
  intro X V hw hK hc i gd s σ H E I hf st hg;subst V hw hK;let(xs,hq,hx):=hg;let(its,Q,p,hz):=I.list hq;let(f0,f1,f2,f3,f4,f5):=hf it (by simp)
  have hl:=Q.length;exact wpAny_pyNext_list_end (I.ok.hd hc) st p.isList (by simp;lia) λh' eb=>(U,I.turned (λb o g e=>eb b o g e) f0 f1 f3 f4 f5)
 self:=λ_ _ _ _ _ st h=>wpAny_pyIter_listiter st h
theorem zS{w:Cl}{K:BT}(a it:J):Turn P w K tg (Itt K a) [it] it (λi h=>h.IsTupleIter it a i) where
 mem:=by simp
 obj:=λi h st b g=>by
  have e:=by simpa using g
  subst e;let(o,e,c,d):=st;exact(o,e,λv z=>by rw[d]at z;cases z)
 keep:=λi h h' st k=>st.at λo e=>k it (by simp) o e
 item:=by
  intro X V hw hK hc i gd s σ H E I hf st hg;subst V hw hK;let(xs,x,hq,hx):=hg;let(its,Q,p,hz):=I.tuple hq;let(u,hu,ru):=Q.get hx;let(f0,f1,f2,f3,f4,f5):=hf it (by simp)
  refine wpAny_pyNext_tuple_item st (p) (by simpa using hu) λh' q sb=>?_
  have I1:=I.turned (t':=s.toks) (λb o g e=>(sb.2 b g).trans e) f0 f1 f3 f4 f5
  let(o,e,c,d):=id q;exact(u,U,Jh e c d (by decide) (x,H,I1,ru,(U,λys hy=>by rw[I.uD hy hq];exact hx),q,λb g=>(hf b g).1))
 done:=by
  intro X V hw hK hc i gd s σ H E I hf st hg;subst V hw hK;let(xs,hq,hx):=hg;let(its,Q,p,hz):=I.tuple hq;let(f0,f1,f2,f3,f4,f5):=hf it (by simp)
  have hl:=Q.length;exact wpAny_pyNext_tuple_end (I.ok.hd hc) st (p) (by simp;omega) λh' eb=>(U,I.turned (λb o g e=>eb b o g e) f0 f1 f3 f4 f5)
 self:=λ_ _ _ _ _ st h=>wpAny_pyIter_tupleiter st h
theorem zT{w:Cl}{K:BT}(it:J)(lo:Int)(n:Nat):Turn P w K tg (Itr lo n) [it] it (λi h=>IsRangeIter h it (lo+(i:Nat)*1) ((n:Int) - (i:Nat)) 1) where
 mem:=by simp
 obj:=λi h st b g=>by
  have e:=by simpa using g
  subst e;exact(_,st,λv z=>by
   have z':=z;cases z')
 keep:=λi h h' st k=>k it (by simp) _ st
 item:=by
  intro X hP hw hK Q i gd s σ H E I hf st hg;subst hP hw hK;let(f0,f1,f2,f3,f4,V):=hf it (by simp)
  have W:=Walks.range (prog:=X.prog) (w:=X.w) (I.ok.hd Q) it lo 1 n;refine W.item i s _ _ hg st λv h' tk hv q kk=>?_
  let(t,U):=hv;have I1:Inv X gd σ H {s with heap:=h',toks:=tk}:=I.turned (λb o g e=>kk b o (by simpa using g) e) f0 f1 f3 f4 V
  refine(_,U,Jh q U U (by decide) (.int (lo+i),H,I1,(t,?_),(U,U),q,λb g=>(hf b g).1))
  rw[Int.mul_one]
 done:=by
  intro X hP hw hK Q i gd s σ H E I hf st hg;let(f0,f1,f2,f3,f4,V):=hf it (by simp)
  exact wpAny_pyNext_range_end (I.ok.hd Q) st (by have:n<=i:=hg;lia) λh' eb=>(U,I.turned (λb o g e=>eb b o g e) f0 f1 f3 f4 V)
 self:=λ_ _ _ _ _ st h=>wpAny_pyIter_rangeiter st h
variable{lo:Int}{fp:List J}{iter:Ev}
section
def uX(K:BT)(tl:TE):TI:=λσ H R=>tl σ H λx H1=>∃a,x=.ref a/\(∃xs,SqL K H1 a xs)/\R (Itl K a) H1
def IV(K:BT)(tl:TE):TI:=λσ H R=>tl σ H λx H1=>∃a,x=.ref a/\(∃xs,SqT K H1 a xs)/\R (Itt K a) H1
def pP{l:Ev}{tl:TE}(hl:PE X l tl):PI X tg l (uX X.K tl):=by
 intro gd s σ H R I h;refine thn (hl gd s σ H _ I h) λv s1 z=>?_
 let(x,H1,g,P,Q):=z;let(a,e,(xs,hq),q):=Q;subst e;cases P;let(its,rv,p,hz):=g.list hq;refine wpAny_pyIter_list p.isList ?_;refine(s1.heap.objs.size,[s1.heap.objs.size],_,_,H1,U,g.kept λb o e=>ft _ e,DG a _,(_,px _ U,U,U),λb V=>?_,q)
 have e:=by simpa using V
 subst e;exact g.Jj (nY _) (g.hok.fresh (nY _))
def Qg{l:Ev}{tl:TE}(hl:PE X l tl):PI X tg l (IV X.K tl):=by
 intro gd s σ H R I h;refine thn (hl gd s σ H _ I h) λv s1 z=>?_
 let(x,H1,g,P,Q):=z;let(a,e,(xs,hq),q):=Q;subst e;cases P;let(its,rv,p,hz):=g.tuple hq;refine wpAny_pyIter_tuple (p) ?_;refine(s1.heap.objs.size,[s1.heap.objs.size],_,_,H1,U,g.kept λb o e=>ft _ e,zS a _,(_,px _ U,U,U),λb V=>?_,q)
 have e:=by simpa using V
 subst e;exact g.Jj (nY _) (g.hok.fresh (nY _))
def GH{σ:St}{s:ϋ}{R:It->Hp->Prop}{hi:Int}{t u v:Tok}{tk:Nat}(I:Inv X gd σ H s)(h1:-(2 ^ 62)<=lo)(h2:lo<2 ^ 62)(h3:-(2 ^ 62)<=hi)(h4:hi<2 ^ 62)
  (q:R (Itr lo (hi - lo).toNat) H):Zc X (pyIter (.ref s.heap.objs.size)) (PIE X gd σ tg R) E {s with heap:=s.heap.push {cls:=.type "range",data:=.fields #[.int lo t,.int hi u,.int 1 v]},toks:=tk}:=by
 refine wpAny_pyIter_range (IsRange.new ..) (small_one h1 h2 h3 h4) ?_;have g:Inv X gd σ H {s with heap:=s.heap.push {cls:=.type "range",data:=.fields #[.int lo t,.int hi u,.int 1 v]},toks:=tk}:=I.kept λb o e=>ft _ e
 refine((s.heap.push {cls:=.type "range",data:=.fields #[.int lo t,.int hi u,.int 1 v]}).objs.size,[(s.heap.push {cls:=.type "range",data:=.fields #[.int lo t,.int hi u,.int 1 v]}).objs.size],_,_,H,U,
  g.kept λb o e=>ft _ e,zT _ lo (hi - lo).toNat,?_,λb z=>?_,q)
 ·have P:lo+((0:Nat))*1=lo:=by simp
  have K:(((hi - lo).toNat)) - ((0:Nat))=Builtin.Range.rangeSize lo hi 1:=by rw[rangeSize_one];split <;> lia
  rw[P,K];exact px _ U
 ·have e:b=(s.heap.push {cls:=.type "range",data:=.fields #[.int lo t,.int hi u,.int 1 v]}).objs.size:=by simpa using z
  subst e;exact g.Jj (nY _) (g.hok.fresh (nY _))
def IW(ta:TA):TI:=λσ H R=>ta σ H λvs H1=>∃j:Int,vs=[.int j] /\ -(2 ^ 62)<=j/\j<2 ^ 62/\R (Itr 0 j.toNat) H1
abbrev AD(X:Cx)(e:Ev):Prop:=m4 [e] X.env=[(false,eval e X.env)]
def uM{a:Ev}{ta:TA}{p pos:Pos}(hg:Gl X "range")(hm:X.mg "range"=Y)(ha:PA X [a] ta)(hs:‹AD X a›):PI X tg (.Call (.Name "range" p) [a] [] pos) (IW ta):=by
 intro gd s σ H R I h;refine Call_ (gE I hg hm boot_range (PyProof.Rows.callWith_type1 (thn (ha pos gd s σ H _ I h) λus s1 (vs,H1,Q,K,g)=>?_) hs U))
 let(j,e,g,P,q):=g;subst e;cases K with
 |cons r z =>
  cases z;let(t,U):=r;exact call_range_1 (GH Q (by lia) (by lia) g P (by simpa using q))
def O5(wi:TI)(g:TG)(tb:TS):TS:=λD σ H=>wi σ H λYy H1=>∃W:Nat->Nat->St->Hp->Prop,(∃m,W 0 m σ H1)/\∀i m σ H,W i m σ H ->
 (Yy.stop i H/\D.nx σ H)\/(Yy.go i H/\∃N:St->Hp->Prop,(∀q H',N q H'->∃m',m'<m/\W (i+1) m' q H')/\∀x H',Yy.yld i H x H'->g x σ H' λz H2=>tb {D with nx:=N,ct:=N,bk:=D.nx} z H2)
def qZ(fp:List J)(h:Do):List (J×Obj):=fp.filterMap λb=>(h.get? b).map λo=>(b,o)
def fT{h:Do}{b:J}{o:Obj}(g:b∈fp)(e:h.get? b=Z o):(b,o)∈qZ fp h:=Ya.mpr (b,g,by rw[e];rfl)
def Eh{h:Do}{p:J×Obj}(hp:p∈qZ fp h):p.1∈fp/\h.get? p.1=Z p.2:=by
 let(b,g,e):=Ya.mp hp;cases q:h.get? b with
 |none=>rw[q]at e;cases e
 |some o =>
  rw[q]at e;have z:=Option.some.inj e;subst z;exact(g,q)
def Inv.pinned{σ:St}{s:ϋ}(I:Inv X gd σ H s)(hf:∀b∈fp,sW X gd H b)(ho:∀b∈fp,∃o,s.heap.get? b=Z o/\∀v,o.data ≠ .cell v):Inv X (gd++qZ fp s.heap) σ H s :=
 I.lY λp hp=>(nZ.mp hp).elim (λz=>I.pin p (pA _ z)) λz=>by
  let(g,e):=Eh z;let(f0,f1,f2,_):=hf p.1 g;let(o,q,d):=ho p.1 g;rw[e]at q;cases q;exact(e,f0,f1,f2,d)
def Inv.lK{g:List (J×Obj)}{σ:St}{s:ϋ}(I:Inv X (gd++g) σ H s):Inv X gd σ H s:=I.lY λp hp=>I.pin p (pA _ (p7 _ hp))
def Au{wi:TI}{g:TG}{tb:TS}{pos:Pos}(hp:X6 (model X.prog X.w) X.A X.env X.xe)(hc:X.calm=O)(hi:PI X tg iter wi)(hg:PG X tg g)(P:PSs X body tb)
  (hs:∀x,foldedSetIterable iter X.env x=pure x:=by intro _;rfl):PS X (.For tg iter body [] pos) (O5 wi g tb):=by
 right;refine wpAny_For (thn (hi gd s σ H _ I h) λv s1 h1=>thn h1 λa0 s2 h2=>?_) hs
 let(it,fp,tn,Yy,H2,e,I2,T,aP,f2,W,(m0,w0),turn):=h2;subst e;have Pc:∀{H':Hp},(∀b∈fp,H' b=Y)->∀b∈fp,sW X gd H' b:=λhn b P=>(hn b P,(f2 b P).2)
 refine codeAny_forLoop_any (λn s'=>∃i K H',Inv X gd K H' s'/\tn i s'.heap/\(∀b∈fp,H' b=Y)/\W i n K H') ?_ m0 (0,σ,H2,I2,aP,λb P=>(f2 b P).1,w0)
 rintro n s3 ⟨i,z,H3,I3,ar,aA,w3⟩
 obtain⟨stop,qn⟩|⟨go,N,hN,step⟩:=turn i n z H3 w3
 ·refine wpAny_passesOwn hp (thn (T.done X U U U hc i gd s3 z H3 X.xe I3 (Pc aA) ar stop) λr s4 Q=>?_)
  let(hr,I4):=Q;subst hr;exact wpAny_execs_nil (z,H3,I4,qn)
 ·refine wpAny_passesOwn hp (thn (T.item X U U U hc i gd s3 z H3 X.xe I3 (Pc aA) ar go) λr s4 Q=>?_)
  let(u,hr,h4):=Q;subst hr;refine wpAny_passesOwn hp (thn h4 λ_ s5 Q=>?_)
  let(x,H5,I5,r5,y5,ak,aS):=Q;have aT:=I5.pinned (Pc aS) (T.obj _ _ ak);refine wpAny_passesOwn hp (thn (hg _ s5 z H5 x u _ aT r5 (step x H5 y5)) λ_ s6 (aN,H6,I6,q6)=>(wpAny_passesOwn hp (thn (P _ s6 aN H6 _ I6 q6) λf s7 q7=>?_)))
  have again:∀{q:St}{H7:Hp},Inv X (gd++qZ fp s5.heap) q H7 s7->N q H7->∃m,m<n/\∃i K H',Inv X gd K H' s7/\tn i s7.heap/\(∀b∈fp,H' b=Y)/\W i m K H':=λ{q H7} V n7=>by
   let(m',hm,w7):=hN q H7 n7;refine(m',hm,i+1,q,H7,V.lK,T.keep _ _ _ ak λb P o e=>(V.pin (b,o) (pA _ (pA _ (fT P e)))).1,λb P=>?_,w7)
   let(o,e,d):=T.obj _ _ ak b P;exact(V.pin (b,o) (pA _ (pA _ (fT P e)))).2.1
  cases f with
  |next=>let(q,H7,V,n7):=q7;exact again V n7
  |cont=>let(q,H7,V,n7):=q7;exact again V n7
  |brk=>let(q,H7,V,q7):=q7;exact(q,H7,V.lK,q7)
  |ret v=>let(x7,q,H7,V,r7,q7):=q7;exact(x7,q,H7,V.lK,r7,q7)
end
variable{D:Ends}
theorem Jk{K:BT}{xs:List V}{g:TG}{tb:TS}{σ:St}(Pv:Nat->St->Hp->Prop)(h0:Pv 0 σ H)(hl:∀i σ H,i<=xs.length->Pv i σ H->SqL K H a xs)
  (hs:∀i x σ H,xs[i]?=Z x->Pv i σ H->g x σ H λz H2=>tb {D with nx:=Pv (i+1),ct:=Pv (i+1),bk:=D.nx} z H2) (hd:∀σ H,Pv xs.length σ H->D.nx σ H):
  ∃W:Nat->Nat->St->Hp->Prop,(∃m,W 0 m σ H)/\∀i m σ H,W i m σ H ->
   ((Itl K a).stop i H/\D.nx σ H)\/((Itl K a).go i H/\∃N:St->Hp->Prop,(∀P H',N P H'->∃m',m'<m/\W (i+1) m' P H')/\∀x H',(Itl K a).yld i H x H'->g x σ H' λz H2=>tb {D with nx:=N,ct:=N,bk:=D.nx} z H2):=by
 refine(λi m σ H=>m=xs.length - i/\i<=xs.length/\Pv i σ H,(xs.length,by simp,wh _,h0),?_)
 rintro i m σ H ⟨rfl,hi,p⟩
 have q:=hl i σ H hi p;by_cases Q:i<xs.length
 ·refine .inr ((xs,xs[i],q,by simp[Q]),Pv (i+1),λP H' p'=>(xs.length - (i+1),by omega,U,Q,p'),λx H' y=>?_)
  let(e,y):=y;subst e;exact hs i x σ _ (y xs q) p
 ·have e:i=xs.length:=by lia
  subst e;exact .inl ((xs,q,nY _),hd σ H p)
abbrev R2:=V->V->Hp->VK->Prop
def OpR(X:Cx)(f:B->B->Sem B)(r:R2):Prop :=
 ∀(gd:List (J×Obj))(s:ϋ)(σ:St)(H:Hp)(x y:V)(v u:B)(Q:VK),Inv X gd σ H s->RelV x v->RelV y u->r x y H Q ->
  Zc X (f v u) (EP X gd σ Q) X.xe s
def UnR(X:Cx)(f:B->Sem B)(r:V->Hp->VK->Prop):Prop :=
 ∀(gd:List (J×Obj))(s:ϋ)(σ:St)(H:Hp)(x:V)(v:B)(Q:VK),Inv X gd σ H s->RelV x v->r x H Q ->
  Zc X (f v) (EP X gd σ Q) X.xe s
def bY(X:Cx)(f:B)(r:List V->Hp->VK->Prop):Prop :=
 ∀(gd:List (J×Obj))(s:ϋ)(σ:St)(H:Hp)(xs:List V)(us:List B)(Q:VK),Inv X gd σ H s->Vals xs us->r xs H Q ->
  Zc X (call f us) (EP X gd σ Q) X.xe s
def VZ(X:Cx)(r:V->Hp->(Bool->Hp->Prop)->Prop):Prop :=
 ∀(gd:List (J×Obj))(s:ϋ)(σ:St)(H:Hp)(x:V)(v:B)(Q:Bool->Hp->Prop),Inv X gd σ H s->RelV x v->r x H Q ->
  Zc X (truthy v) (TP X gd σ Q) X.xe s
def tOp(r:R2)(ta tb:TE):TE:=λσ H Q=>ta σ H λx H1=>tb σ H1 λy H2=>r x y H2 Q
def tUn(r:V->Hp->VK->Prop)(ta:TE):TE:=λσ H Q=>ta σ H λx H1=>r x H1 Q
inductive rI(C:Int->Int->Prop)(g:Int->Int->V)(x:V)(y:V)(H:Hp)(Q:VK):Prop
 |mk(i j:_)(h1:x=.int i)(h2:y=.int j)(h3:C i j)(h4:Q (g i j) H)
inductive rI0(g:Int->Int->V)(x:V)(y:V)(H:Hp)(Q:VK):Prop
 |mk(i j:_)(h1:x=.int i)(h2:y=.int j)(h3:Q (g i j) H)
inductive rU(g:Int->V)(x:V)(H:Hp)(Q:VK):Prop
 |mk(i:_)(h1:x=.int i)(h2:Q (g i) H)
section
variable{a:Ev}{ta tb:TE}{pos:Pos}
def RD(ha:PE X a ta)(hb:PE X b tb){s:ϋ}{σ:St}{R:V->V->Hp->Prop}(I:Inv X gd σ H s)
  (h:ta σ H λx H1=>tb σ H1 λy H2=>R x y H2) {Q:B->ϋ->Prop} {f:B->B->Sem B}
  (hf:∀v u s2 x y H2,Inv X gd σ H2 s2->RelV x v->RelV y u->R x y H2->Zc X (f v u) Q X.xe s2):
  Zc X (eval a X.env) (λv g=>Zc X (eval b X.env) (λu s₂=>Zc X (f v u) Q X.xe s₂) X.xe g) X.xe s:=by
 exact thn (ha gd s σ H _ I h) λv s1 (x,H1,I1,z,P)=>(thn (hb gd s1 σ H1 _ I1 P) λu s2 (y,H2,I2,q,K)=>(hf v u s2 x y H2 I2 z q K))
def cM{op:Operator}{r:R2}(ho:OpR X (binaryOp op) r)(ha:PE X a ta)(K:PE X b tb):PE X (.BinOp a op b pos) (tOp r ta tb):=by
 left;exact wpAny_BinOp (RD ha K I h λv u s2 x y H2 P z g q=>ho gd s2 σ H2 x y v u Q P z g q)
def Tv{op:UnaryOp}{r:V->Hp->VK->Prop}(ho:UnR X (unaryOp op) r)(ha:PE X a ta):PE X (.UnaryOp op a pos) (tUn r ta):=by
 left;exact UnaryOp_ (thn (ha gd s σ H _ I h) λv s1 (x,H1,z,g,q)=>ho gd s1 σ H1 x v Q z g q)
def opI{f:B->B->Sem B}{C:Int->Int->Prop}{g:Int->Int->Int}
  (rule:∀(i j:Int)(t u:Tok)(s:ϋ)(Q:B->ϋ->Prop)(E:B->ϋ->Prop),C i j->Q (.int (g i j) s.toks) {s with toks:=s.toks+1}->Zc X (f (.int i t) (.int j u)) Q E s):
  OpR X f (rI C λi j=>.int (g i j)):=by
 intro gd s σ H x y v u Q I K z h;let(i,j,U,U,P,q):=h;let(t,U):=K;let(t',U):=z;exact rule i j t t' s _ _ P (.int (g i j),H,I.tok _,(_,U),q)
def TB{f:B->B->Sem B}{g:Int->Int->Int}
  (rule:∀(i j:Int)(t u:Tok)(s:ϋ)(Q:B->ϋ->Prop)(E:B->ϋ->Prop),Q (.int (g i j) s.toks) {s with toks:=s.toks+1}->Zc X (f (.int i t) (.int j u)) Q E s):
  OpR X f (rI0 λi j=>.int (g i j)):=by
 intro gd s σ H x y v u Q I K z h;let(i,j,U,U,q):=h;let(t,U):=K;let(t',U):=z;exact rule i j t t' s _ _ (.int (g i j),H,I.tok _,(_,U),q)
def Qr{f:B->B->Sem B}{g:Int->Int->Bool}
  (rule:∀(i j:Int)(t u:Tok)(s:ϋ)(Q:B->ϋ->Prop)(E:B->ϋ->Prop),Q (.bool (g i j)) s->Zc X (f (.int i t) (.int j u)) Q E s):
  OpR X f (rI0 λi j=>.bl (g i j)):=by
 intro gd s σ H x y v u Q I K z h;let(i,j,U,U,q):=h;let(t,U):=K;let(t',U):=z;exact rule i j t t' s _ _ (.bl (g i j),H,I,U,q)
def NA(i j:Int):Prop:=0<=j/\j<=1000000/\i.natAbs<2 ^ 64
def J8(i j:Int):Prop:=(-(2 ^ 64)<i/\i<2 ^ 64)\/(-(2 ^ 64)<j/\j<2 ^ 64)
def J8.ok{i j:Int}(h:J8 i j):IntMulOk i j:=by
 obtain⟨h1,h2⟩|⟨h1,h2⟩:=h
 ·exact .of_left (intBits_le_64 h1 h2)
 ·exact .of_right (intBits_le_64 h1 h2)
def nK:OpR X (binaryOp .Add) (rI0 λi j=>.int (i+j)):=TB λ_ _ _ _ _ _ _ q=>add_int q
def AE:OpR X (binaryOp .Sub) (rI0 λi j=>.int (i - j)):=TB λ_ _ _ _ _ _ _ q=>sub_int q
def kY:OpR X (binaryOp .Mult) (rI J8 λi j=>.int (i*j)):=opI λ_ _ _ _ _ _ _ g q=>mul_int q g.ok
def iA:OpR X (binaryOp .Mod) (rI (λ_ j=>0<j) λi j=>.int (i % j)):=opI λi j _ _ _ _ _ g q=>by
 exact mod_int' (by lia) (by rw[Int.fmod_eq_emod_of_nonneg i (by lia)];exact q)
def Ih:OpR X (binaryOp .Pow) (rI NA λi j=>.int (i ^ j.toNat)):=opI λ_ _ _ _ _ _ _ g q=>pow_int_small g.1 g.2.1 g.2.2 q
def unI{f:B->Sem B}{g:Int->Int}
  (rule:∀(i:Int)(t:Tok)(s:ϋ)(Q:B->ϋ->Prop)(E:B->ϋ->Prop),Q (.int (g i) s.toks) {s with toks:=s.toks+1}->Zc X (f (.int i t)) Q E s):
  UnR X f (rU λi=>.int (g i)):=by
 intro gd s σ H x v Q I z h;let(i,U,q):=h;let(t,U):=z;exact rule i t s _ _ (.int (g i),H,I.tok _,(_,U),q)
def OR:UnR X (unaryOp .USub) (rU λi=>.int (-i)):=unI λ_ _ _ _ _ q=>neg_int q
end
def Li:V->V->Bool
 |.non,.non=>O|.non,.int _=>O|.int _,.non=>O|.non,.bl _=>O|.bl _,.non=>O|.non,.str _=>O|.str _,.non=>O
 |.int _,.int _=>O|.bl _,.bl _=>O|.str _,.str _=>O|.byt _,.byt _=>O
 |.int _,.str _=>O|.str _,.int _=>O|.bl _,.str _=>O|.str _,.bl _=>O
 |_,_=>ϊ
def rEq:R2:=λx y H Q=>Li x y=O/\Q (.bl (decide (x=y))) H
def rNe:R2:=λx y H Q=>Li x y=O/\Q (.bl (!decide (x=y))) H
def CP{i j:Int}:decide (V.int i=V.int j)=(i==j):=by
 rw[W2];simp
def Ju{i j:Bool}:decide (V.bl i=V.bl j)=(i==j):=by
 rw[W2];simp
def CO{i j:Str}:decide (V.str i=V.str j)=(i==j):=by
 rw[W2];simp
def CQ{i j:Array UInt8}:decide (V.byt i=V.byt j)=(i.toList==j.toList):=by
 rw[W2];cases i;cases j;simp
variable{its:List B}{y:V}
section
variable{a c:Ev}{ta tb:TE}{pos:Pos}
def bg{σ:St}{s:ϋ}{Q:VK}{k k':Bool}(I:Inv X gd σ H s)(q:Q (.bl k) H)(e:k=k'):EP X gd σ Q (.bool k') s:=by
 subst e;exact(.bl k,H,I,U,q)
theorem N0:OpR X (compareOp .Eq) rEq:=by
 intro gd s σ H x y v u Q I z g h;let(hs,q):=h;cases x with
 |non =>
  cases z;cases y with
  |non=>cases g;exact PySem.EqNone.eq_none_none (bg I q (by simp))
  |bl j=>cases g;exact PySem.EqNone.eq_none_bool (bg I q (by simp))
  |int j=>let(t',U):=g;exact PySem.EqNone.eq_none_int (bg I q (by simp))
  |str j=>let(t',U):=g;exact PySem.EqNone.eq_none_str (bg I q (by simp))
  |_=>exact absurd (show ϊ=O from hs) sQ
 |bl i =>
  cases z;cases y with
  |non=>cases g;exact PySem.EqNone.eq_bool_none (bg I q (by simp))
  |bl j=>cases g;exact eq_bool (bg I q Ju)
  |str j=>let(t',U):=g;exact PySem.EqMixed.eq_bool_str (bg I q (by simp))
  |_=>exact absurd (show ϊ=O from hs) sQ
 |int i =>
  let(t,U):=z;cases y with
  |non=>cases g;exact PySem.EqNone.eq_int_none (bg I q (by simp))
  |int j=>let(t',U):=g;exact eq_int (bg I q CP)
  |str j=>let(t',U):=g;exact PySem.EqMixed.eq_int_str (bg I q (by simp))
  |_=>exact absurd (show ϊ=O from hs) sQ
 |str i =>
  let(t,U):=z;cases y with
  |non=>cases g;exact PySem.EqNone.eq_str_none (bg I q (by simp))
  |bl j=>cases g;exact PySem.EqMixed.eq_str_bool (bg I q (by simp))
  |int j=>let(t',U):=g;exact PySem.EqMixed.eq_str_int (bg I q (by simp))
  |str j=>let(t',U):=g;exact eq_str (bg I q CO)
  |_=>exact absurd (show ϊ=O from hs) sQ
 |byt i =>
  let(t,U):=z;cases y with
  |byt j=>let(t',U):=g;exact W.eq_bytes (bg I q CQ)
  |_=>exact absurd (show ϊ=O from hs) sQ
 |_=>cases y <;> exact absurd (show ϊ=O from hs) sQ
theorem Ii:OpR X (compareOp .NotEq) rNe:=by
 intro gd s σ H x y v u Q I z g h;let(hs,q):=h;cases x with
 |non =>
  cases z;cases y with
  |non=>cases g;exact PySem.EqNone.ne_none_none (bg I q (by simp))
  |bl j=>cases g;exact PySem.EqNone.ne_none_bool (bg I q (by simp))
  |int j=>let(t',U):=g;exact PySem.EqNone.ne_none_int (bg I q (by simp))
  |str j=>let(t',U):=g;exact PySem.EqNone.ne_none_str (bg I q (by simp))
  |_=>exact absurd (show ϊ=O from hs) sQ
 |bl i =>
  cases z;cases y with
  |non=>cases g;exact PySem.EqNone.ne_bool_none (bg I q (by simp))
  |bl j=>cases g;exact ne_bool (bg I q (congrArg not Ju))
  |str j=>let(t',U):=g;exact PySem.EqMixed.ne_bool_str (bg I q (by simp))
  |_=>exact absurd (show ϊ=O from hs) sQ
 |int i =>
  let(t,U):=z;cases y with
  |non=>cases g;exact PySem.EqNone.ne_int_none (bg I q (by simp))
  |int j=>let(t',U):=g;exact ne_int (bg I q (congrArg not CP))
  |str j=>let(t',U):=g;exact PySem.EqMixed.ne_int_str (bg I q (by simp))
  |_=>exact absurd (show ϊ=O from hs) sQ
 |str i =>
  let(t,U):=z;cases y with
  |non=>cases g;exact PySem.EqNone.ne_str_none (bg I q (by simp))
  |bl j=>cases g;exact PySem.EqMixed.ne_str_bool (bg I q (by simp))
  |int j=>let(t',U):=g;exact PySem.EqMixed.ne_str_int (bg I q (by simp))
  |str j=>let(t',U):=g;exact ne_str (bg I q (congrArg not CO))
  |_=>exact absurd (show ϊ=O from hs) sQ
 |byt i =>
  let(t,U):=z;cases y with
  |byt j=>let(t',U):=g;exact W.ne_bytes (bg I q (congrArg not CQ))
  |_=>exact absurd (show ϊ=O from hs) sQ
 |_=>cases y <;> exact absurd (show ϊ=O from hs) sQ
def Tz:OpR X (compareOp .Lt) (rI0 λi j=>.bl (decide (i<j))):=Qr λ_ _ _ _ _ _ _ q=>lt_int q
def yj:OpR X (compareOp .Gt) (rI0 λi j=>.bl (decide (j<i))):=Qr λ_ _ _ _ _ _ _ q=>gt_int q
def Ij:OpR X (compareOp .GtE) (rI0 λi j=>.bl (decide (j<=i))):=Qr λ_ _ _ _ _ _ _ q=>ge_int q
def Ec:OpR X (compareOp .In) (λx y H Q=>∃i j,x=.str i/\y=.str j/\Q (.bl (!(Builtin.Str.occurrences j i 0 j.length 1).isEmpty)) H):=by
 intro gd s σ H x y v u Q I z g h;let(i,j,U,U,q):=h;let(t,U):=z;let(t',U):=g;exact in_str (bg I q U)
def AG:OpR X (compareOp .Is) (λx y H Q=>y=.non/\Q (.bl (decide (x=.non))) H):=by
 intro gd s σ H x y v u Q I z g h;let(U,q):=h;cases g;refine is_none_gen (bg I q ?_);cases x <;>(let(t,U):=z;rfl)
def l9:OpR X (compareOp .IsNot) (λx y H Q=>y=.non/\Q (.bl (!decide (x=.non))) H):=by
 intro gd s σ H x y v u Q I z g h;let(U,q):=h;cases g;refine isnot_none_gen (bg I q ?_);cases x <;>(let(t,U):=z;rfl)
def wu:OpR X (compareOp .NotIn) (λx y H Q=>∃i j,x=.str i/\y=.str j/\Q (.bl (!(!(Builtin.Str.occurrences j i 0 j.length 1).isEmpty))) H):=by
 intro gd s σ H x y v u Q I z g h;let(i,j,U,U,q):=h;let(t,U):=z;let(t',U):=g;exact notIn_str (bg I q U)
def OpR.or{f:B->B->Sem B}{r K:R2}(h:OpR X f r)(h':OpR X f K):OpR X f (λx y H Q=>r x y H Q\/K x y H Q):=by
 intro gd s σ H x y v u Q I z g q;obtain q|q:=q
 ·exact h gd s σ H x y v u Q I z g q
 ·exact h' gd s σ H x y v u Q I z g q
def bA(b:Ev)(h:autoParam (op ≠ .In) zdc._auto_1)(h2:autoParam (op ≠ .NotIn) zdc._auto_1):behindInMarks op b=false:=Iq b h h2
def Md{r:R2}(ho:OpR X (compareOp op) r)(ha:PE X a ta)(K:PE X b tb)(hm:behindInMarks op b=ϊ):PE X (.Compare a [op] [b] pos) (tOp r ta tb):=by
 left;exact wpAny_Compare1 (RD ha K I h λv u s2 x y H2 P z g q=>ho gd s2 σ H2 x y v u Q P z g q) hm
def BN(t:TE):TT:=λσ H Q=>t σ H λx H'=>∃k,x=.bl k/\Q k H'
def lV{r:R2}(ho:OpR X (compareOp op) r)(ha:PE X a ta)(hb:PE X b tb)(hm:behindInMarks op b=ϊ):PT X (.Compare a [op] [b] pos) (BN (tOp r ta tb)):=by
 left;refine wpAny_isTrue_Compare1 (thn (ha gd s σ H _ I h) λv s1 (x,H1,I1,K,q1)=>thn (hb gd s1 σ H1 _ I1 q1) λu s2 (y,H2,I2,q,V) =>
  thn (ho gd s2 σ H2 x y v u _ I2 K q V) λc s3 (z,H3,I3,g,k,e,P)=>?_) hm
 subst e;cases g;exact wpAny_truthy_bool (H3,I3,P)
def Nt(K:BT)(x:V)(H:Hp)(k:Bool):Prop :=
 match x with
 |.non=>k=ϊ
 |.bl b=>k=b
 |.int i=>k=(i != 0)
 |.str y=>y.length<=pq/\k=((y.length:Int) != 0)
 |.byt y=>y.size<=pq/\k=((y.size:Int) != 0)
 |.ref p=>(∃xs,SqL K H p xs/\k = !xs.isEmpty)\/(∃xs,SqT K H p xs/\k = !xs.isEmpty)\/∃kvs,H p=Z (.dK kvs)/\k = !kvs.isEmpty
 |_=>False
def A7{κ:Type}{kvs:List (κ×V)}{vs:List (κ×B)}(r:KV kvs vs):(!vs.isEmpty) = !kvs.isEmpty:=by
 cases r <;> rfl
def rQ{xs:List V}(r:Vals xs its):(!its.toArray.isEmpty) = !xs.isEmpty:=by
 cases r <;> simp
def k7:(pq:Nat)<2 ^ 63:=by decide
def yP(h:n<=pq):(n:Int)<2 ^ 63:=by
 have:=WA
 omega
theorem OV:VZ X (λx H Q=>∃k,Nt X.K x H k/\Q k H):=by
 intro gd s σ H x v Q I z h;let(k,e,q):=h;have hl:=k7;have hs:pq=16777216:=WA;cases x with
 |non =>
  cases z;have g:k=false:=e;subst g;exact truthy_none (H,I,q)
 |bl b =>
  cases z;have g:k=b:=e;subst g;exact wpAny_truthy_bool (H,I,q)
 |int i =>
  let(t,U):=z;have g:k=(i != 0):=e;subst g;exact PySem.P.truthy_int (H,I,q)
 |str y =>
  let(t,U):=z;let(hy,g):=e;subst g;exact PySem.P.truthy_str (by omega) (H,I.tok _,q)
 |byt y =>
  let(t,U):=z;let(hy,g):=e;subst g;exact W.truthy_bytes (by omega) (H,I.tok _,q)
 |ref p =>
  cases z;have g:=e;obtain⟨xs,hx,g⟩|⟨xs,hx,g⟩|⟨kvs,hx,g⟩:=g
  ·subst g;let(its,r,V,hz):=I.list hx;have hlen:=r.length;exact wpAny_truthy_list V.isList (by rw[ri,<- hlen];exact yP (by assumption)) (H,I.tok _,by rw[rQ r];exact q)
  ·subst g;let(its,r,V,hz):=I.tuple hx;have hlen:=r.length;exact truthy_tuple V (by rw[ri,<- hlen];exact yP (by assumption)) (H,I.tok _,by rw[rQ r];exact q)
  ·subst g;let(hz,hS,vs,r,m):=I.hok p _ hx;have hlen:kvs.length=vs.length:=Paired.length r;exact wpAny_truthy_dict hS m (by rw[<- hlen];exact yP hz) (H,I.tok _,by rw[A7 r];exact q)
 |_=>exact(show False from e).elim
def Hv(ha:PE X a ta)(he:∀whole,isTrue a X.env whole=(do let v <- whole;standAt a.pos;holding [v] (truthy v))):
  PT X a (λσ H Q=>ta σ H λx H'=>∃k,Nt X.K x H' k/\Q k H'):=by
 left;exact isTrue_plain (thn (ha gd s σ H _ I h) λv s1 (x,H1,z,g,q)=>OV gd s1 σ H1 x v Q z g q) (he _)
def AH:OpR X (binaryOp .Add) (λx y H Q=>∃i j,x=.str i/\y=.str j/\i.length+j.length<=pq/\Q (.str (i++j)) H):=by
 intro gd s σ H x y v u Q I z g h;let(i,j,U,U,K,q):=h;let(t,U):=z;let(t',U):=g;exact add_str (λt' tk=>(.str (i++j),H,I.tok _,(_,U),q)) K
def vals1{x:V}(r:Vals [x] us):∃u,us=[u]/\RelV x u:=by
 cases r with
 |cons q g=>cases g;exact(_,U,q)
def vals2{x:V}(r:Vals [x,y] us):∃u g,us=[u,g]/\RelV x u/\RelV y g:=by
 cases r with
 |cons P K =>
  cases K with
  |cons z q=>cases q;exact(_,_,U,P,z)
def kh(z:X.calm=O):bY X (.builtin "max") (λxs H Q=>∃i j,xs=[.int i,.int j]/\Q (.int (if j > i then j else i)) H):=by
 intro gd s σ H xs us Q I r h;let(i,j,U,q):=h;let(u,K,U,(t,U),(t',U)):=vals2 r;refine max_two_ints (I.ok.hd z) λh' tk k=>(_,H,I.kept k,?_,q)
 by_cases g:j > i
 ·rw[if_pos g,if_pos g];exact(_,U)
 ·rw[if_neg g,if_neg g];exact(_,U)
def vi:bY X (.type "int") (λxs H Q=>(∃i,xs=[.int i]/\Q (.int i) H)\/∃k,xs=[.bl k]/\Q (.int (if k then 1 else 0)) H):=by
 intro gd s σ H xs us Q I r h;obtain⟨i,rfl,q⟩|⟨k,rfl,q⟩:=h
 ·let(u,U,t,U):=vals1 r;exact call_int_int (.int i,H,I,(_,U),q)
 ·let(u,U,g):=vals1 r;cases g;exact call_int_bool (.int (if k then 1 else 0),H,I.tok _,(_,U),q)
end
structure Fg(h:Do)(x dx C:J)(mA:Str->Option B):Prop where
 obj:h.get? x=Z (W.instObj C dx)
 ns:h.Ns1 dx mA
 ne:dx≠x
variable{mA:Str->Option B}
theorem Et{h:Do}{dx:J}(n:h.Ns1 dx mA):∃od,h.get? dx=Z od/\∀name,W.lookIn name od=Z (mA name):=by
 let(o,es,Q,ho,hd,hk,_,hm):=n;refine(o,ho,λname=>?_)
 have e:=hm name;unfold nsFind findBy at e;rw[<- Yb]at e;unfold W.lookIn;rw[hd];dsimp only
 split
 ·rename_i y q;rw[q]at e;exact congrArg Z e
 ·rename_i q;rw[q]at e;have a:es.toList.any (·.refKey)=false:=by
   rw[Xt];intro y g;let(z,t,P):=hk y (Array.mem_toList_iff.mp g);simp[DictEntry.refKey,P]
  have K:¬ es.toList.any (·.refKey)=true:=by rw[a];exact sQ
  rw[if_neg K];exact congrArg Z e
variable{C:J}
theorem Fg.look{h:Do}{x dx:J}(I:Fg h x dx C mA):∃od,W.InstAt h x (W.instObj C dx) C (Z od)/\∀name,W.lookIn name od=Z (mA name) :=
 let(od,ho,hl):=Et I.ns
 (od,(I.obj,U,U,ho),hl)
variable{R:Result->ϋ->Prop}{kw:List (Str×B)}
section
variable{prog:Da}{w:Cl}{s:ϋ}{K:BT}{x dx f:J}{name:Str}{v:B}
theorem get_map{expr:Bool}(X:K.In s.heap)(I:Fg s.heap x dx C mA)(hg:W.plainGet K C name=O)(q:W.hasDictIn K C=O)
  (ha:W.findIn K (.ref C) name=Z Y) (hv:mA name=Z v) (g:W.handedIn v=O) (h:Q v {s with toks:=s.toks+1}):
  wpAny (model prog w) A (getAttr (.ref x) name expr) Q E s:=by
 let(od,Yy,hl):=I.look;exact W.get_value X Yy (W.plainGet_of hg).1 (W.findObj_own q ha U (by rw[hl,hv])) g h
theorem Lh{ns:List Str}{Q:Unit->ϋ->Prop}(X:K.In s.heap)(I:Fg s.heap x dx C mA)
  (hs:W.findIn K (.ref C) "__setattr__"=Z (Z (.builtin "object.__setattr__"))) (hp:W.plainOver K C=O) (ht:W.takerIn K C name=Z Y) (hh:W.hasDictIn K C=O)
  (hw:PySem.Within mA ns) (hsz:ns.length<=pq)
  (h:∀h',Fg h' x dx C (λy=>if y=name then Z v else mA y)->WV dx s.heap h'->Q () {s with heap:=h',toks:=s.toks+2}):
  wpAny (model prog w) A (setAttr (.ref x) name v) Q E s:=by
 let(od,Yy,hl):=I.look;refine W.set_plain X Yy hs (W.osa_open X Yy hp ht λb=>?_)
 let(cd,hc,V):=W.any_some hh;have hx:=I.obj;refine cZ (kq (cZ (cZ (wpAny_loadPart hx (cZ (W.Looks.here (W.looks_clsIn X hc) ?_))))));rw[V];refine kq (cZ (kq (cZ ?_)));refine wpAny_nsSet1 I.ns λh' q g=>?_
 let(oD,ar,aA,z,P,ak):=q.count (PySem.Within.cons name v hw);exact cZ (wpAny_lookBehind z (by rw[P];exact pastItsLine_dict (sR ak (by rw[qf];omega))) (kq (h _ ((g.2 _ (Ne.symm I.ne)).trans I.obj,q,I.ne) g)))
theorem IB{vs:List B}(X:K.In s.heap)(hm:W.makesIn K C=O)
  (hi:W.findIn K (.ref C) "__init__"=Z (Z (.ref f))) (hf:W.typeIn K (.ref f)=Z (.type "function"))
  (h:codeAny (model prog w) (A.under (.builtin "type.__call__" (.ref C::vs,kw))) (.call (.ref f) (.ref (s.heap.objs.size+1)::vs,kw)) (W.InitBack (s.heap.objs.size+1) R)
   {s with heap:=(s.heap.push W.emptyDict).push (W.instObj C s.heap.objs.size)}):
  codeAny (model prog w) A (.call (.ref C) (vs,kw)) R s:=by
 exact W.make_core (W.makes_of X hm) (W.looks_findIn X hi) (λself=>W.bind_fn X self hf) (.inl U) h
end
def gP(f:Str)(v:V):List (Str×V)->List (Str×V)
 |[]=>[(f,v)]
 | (g,x)::r=>if g=f then(g,v)::r else(g,x)::gP f v r
theorem jB(f g:Str)(v:V):∀fs:List (Str×V),(gP f v fs).lookup g=if g=f then Z v else fs.lookup g
 |[]=>by
  show Wx g [(f,v)]=_;by_cases h:g=f
  ·have q:=beq_iff_eq.mpr h;simp only[Wx,q,if_pos h]
  ·have q:=beq_eq_false_iff_ne.mpr h;simp only[Wx,q,if_neg h]
 | (k,x)::r=>by
  have z:=jB f g v r;rw[show gP f v ((k,x)::r)=(if k=f then(k,v)::r else(k,x)::gP f v r)from rfl]
  by_cases hk:k=f
  ·rw[if_pos hk];by_cases h:g=k
   ·have q:=beq_iff_eq.mpr h;simp only[Wx,q,if_pos (h.trans hk)]
   ·have q:=beq_eq_false_iff_ne.mpr h;simp only[Wx,q,if_neg (λe:g=f=>h (e.trans hk.symm))]
  ·rw[if_neg hk];by_cases h:g=k
   ·have q:=beq_iff_eq.mpr h;simp only[Wx,q,if_neg (λe=>hk (h.symm.trans e))]
   ·have q:=beq_eq_false_iff_ne.mpr h;simp only[Wx,q];exact z
theorem gX(f:Str)(v:V):∀fs:List (Str×V),f∈(gP f v fs).map (·.1)/\∀g,g∈fs.map (·.1)->g∈(gP f v fs).map (·.1)
 |[]=>(by simp[gP],λg h=>by simp at h)
 | (k,x)::r=>by
  let(i1,i2):=gX f v r;rw[show gP f v ((k,x)::r)=(if k=f then(k,v)::r else(k,x)::gP f v r)from rfl]
  by_cases hk:k=f
  ·rw[if_pos hk];subst hk;exact(by simp,λg h=>by simpa using h)
  ·rw[if_neg hk];refine(?_,λg h=>?_)
   ·exact g5 _ i1
   ·obtain e|e:=ot.mp h
    ·exact ot.mpr (.inl e)
    ·exact g5 _ (i2 g e)
theorem oy(f:Str)(v:V):∀fs:List (Str×V),(gP f v fs).length<=fs.length+1
 |[]=>by simp[gP]
 | (k,x)::r=>by
  have g:=oy f v r;rw[show gP f v ((k,x)::r)=(if k=f then(k,v)::r else(k,x)::gP f v r)from rfl]
  by_cases hk:k=f
  ·rw[if_pos hk,qf,qf];lia
  ·rw[if_neg hk,qf,qf];lia
def iO.some_of{v:V}{o:Option B}(r:iO (Z v) o):∃u,o=Z u/\RelV v u:=by
 cases o with
 |none=>exact(r).elim
 |some u=>exact(u,U,r)
theorem uY{v:V}(r:RelV v u):W.handedIn u=true:=by
 cases v with
 |non=>cases(r);rfl
 |bl b=>cases(r);rfl
 |int i=>let(t,e):=(r);cases e;rfl
 |str x=>let(t,e):=(r);cases e;rfl
 |byt b=>let(t,e):=(r);cases e;rfl
 |flt b=>let(t,e):=(r);cases e;rfl
 |ref a=>cases(r);rfl
 |ty n=>cases(r);rfl
section
variable{w:Cl}{h:Do}{dx:J}{fs:List (Str×V)}
def wL(hok:HOk P w H h)(e:H a=Z (.ins C dx fs)):∃mA,Fg h a dx C mA/\(∀f,iO (fs.lookup f) (mA f))/\PySem.Within mA (fs.map (·.1))/\fs.length<=1000/\H dx=Z (.own a):=by
 let(d,z,ne,ob,mA,n,r,q):=(hok a _ e);exact(mA,(ob,n,ne),r,q,z,d)
end
structure Cls(K:BT)(C:J):Prop where
 pg:W.plainGet K C Str.empty=O
 hd:W.hasDictIn K C=O
 po:W.plainOver K C=O
 sa:W.findIn K (.ref C) "__setattr__"=Z (Z (.builtin "object.__setattr__"))
theorem Cls.get{K:BT}(c:Cls K C)(f:Str):W.plainGet K C f=true:=c.pg
def bR(K:BT)(C:J)(f:Str):Prop:=W.findIn K (.ref C) f=Z Y
theorem bR.Sv{K:BT}{f:Str}(n:bR K C f):W.takerIn K C f=Z none:=by
 unfold W.takerIn;rw[n];rfl
structure Meth(K:BT)(C:J)(m:Str)(f:J):Prop where
 at_:W.findIn K (.ref C) m=Z (Z (.ref f))
 fn:W.isFn K (.ref f)=O
 kp:W.keepIn K (.ref f)=O
variable{prog:Da}{env:Env}
section
variable{σ:St}{s:ϋ}{dx:J}{fs:List (Str×V)}{f:Str}{v:V}
def Bl{b:Bool}(I:Inv X gd σ H s)(e:H a=Z (.ins C dx fs))(c:Cls X.K C)(n:bR X.K C f)(l:fs.lookup f=Z v)
  (h:∀u s',Inv X gd σ H s'->RelV v u->Q u s'):wpAny (model X.prog X.w) A (getAttr (.ref a) f b) Q E s:=by
 let(mA,Yv,r,_,_,_):=wL I.hok e;let(u,g,ru):=iO.some_of (by rw[<- l];exact r f)
 exact get_map I.kIn Yv (c.get f) c.hd n g (uY ru) (h u _ (I.tok _) ru)
def Ac{Q:Unit->ϋ->Prop}(I:Inv X gd σ H s)(e:H a=Z (.ins C dx fs))(c:Cls X.K C)(n:bR X.K C f)(hl:fs.length<1000)(V:RelV y u)
  (h:∀s',Inv X gd σ (upd H a (.ins C dx (gP f y fs))) s'->Q () s'):wpAny (model X.prog X.w) A (setAttr (.ref a) f u) Q E s:=by
 let(mA,Yv,r,wi,_,ho):=wL I.hok e;have hz:(fs.map (·.1)).length<=pq:=by rw[dN,WA];lia
 refine Lh I.kIn Yv c.sa c.po n.Sv c.hd wi hz λh' P sb=>h _ ?_
 have hd:∃o,h'.get? dx=Z o:=let(o,_,_,e',_):=P.ns;(o,e')
 refine I.write (x:=a) (e:=dx) (by rw[e];exact True.intro) (.inr ho) (λb q hb z=>(sb.2 b hb).trans z) hd (by rw[aj Yv.ne];exact ho,?_,Yv.ne,P.obj,_,P.ns,λg=>?_,λg hg=>?_)
 ·have:=oy f y fs;lia
 ·rw[jB];by_cases q:g=f
  ·rw[if_pos q,if_pos q];exact V
  ·rw[if_neg q,if_neg q];exact r g
 ·by_cases q:g=f
  ·rw[q];exact(gX f y fs).1
  ·refine(gX f y fs).2 g (wi g λz=>hg ?_)
   show(if g=f then Z u else mA g)=Y
   rw[if_neg q];exact z
theorem Inv.made(I:Inv X gd σ H s):Inv X gd σ (upd (upd H s.heap.objs.size (.own (s.heap.objs.size+1))) (s.heap.objs.size+1) (.ins C s.heap.objs.size []))
  {s with heap:=(s.heap.push W.emptyDict).push (W.instObj C s.heap.objs.size)}:=by
 have g:(s.heap.push W.emptyDict).get? s.heap.objs.size=Z W.emptyDict:=px s.heap U;have P:=by
  have:=px (s.heap.push W.emptyDict) (o:=W.instObj C s.heap.objs.size) U
  rwa [v3]at this
 have K:(s.heap.push W.emptyDict).Ns s.heap.objs.size (λ_=>Y):=(W.emptyDict,#[],_,g,U,(λe he=>absurd he (by simp)),λ_=>rfl)
 have Q:=I.laid (o:=.own (s.heap.objs.size+1)) (t':=s.toks) (λb u q=>ft _ q) (nY _) (_,g)
 refine Q.laid (λb u q=>ft _ q) (XJ (v3 _ _)) ?_
 have ne:s.heap.objs.size≠s.heap.objs.size+1:=rz (Wl _);refine(by rw[aj ne,au],wh _,ne,P,λ_=>Y,(Heap.Ns1.of_empty K).at λo q=>ft _ q,λ_=>True.intro,λy z=>absurd U z)
def C2{w:Cl}{f:Str}{pos:Pos}{s:ϋ}(q:attributeBase e f env (eval e env)=eval e env)
  (h:wpAny (model prog w) A (eval e env) (λo g=>wpAny (model prog w) A (getAttr o f O) Q E g) E s):wpAny (model prog w) A (eval (.Attribute e f pos) env) Q E s :=
 Attribute_any_ h (by rw[arm_eval_Attribute,q])
end
def U5(K:BT)(ta tv:TE)(f:Str):TS:=λD σ H=>tv σ H λy H1=>ta σ H1 λx H2=>∃a C dx fs,x=.ref a/\H2 a=Z (.ins C dx fs)/\Cls K C/\bR K C f/\fs.length<1000 /\
 D.nx σ (upd H2 a (.ins C dx (gP f y fs)))
section
variable{o value:Ev}{f:Str}{pos:Pos}{ta tv:TE}
def jv(ha:PE X o ta)(hv:PE X value tv)(hs:swapsWith value (Z (.Attribute o f pos')) pos.line X.env=pure ϊ):PS X (.Assign [.Attribute o f pos'] value pos) (U5 X.K ta tv f):=by
 right;refine plainObj_wpAny_Assign_Attribute (thn (hv gd s σ H _ I h) λu s1 (y,H1,I1,z,q)=>thn (ha gd s1 σ H1 _ I1 q) λov s2 g=>?_) hs
 let(x,H2,I2,P,a,C,dx,fs,ex,V,c,n,l,Q):=g;subst ex;obtain rfl:=P;exact Ac I2 V c n l z λs3 I3=>(σ,_,I3,Q)
end
section
variable{σ:St}{s:ϋ}{c:B}{b:Bool}
inductive ko(K:BT)(H:Hp):V->B->Prop where
 |non:ko K H .non (.type "NoneType")
 |bl(x:Bool):ko K H (.bl x) (.type "bool")
 |int(i:Int):ko K H (.int i) (.type "int")
 |str(x:Str):ko K H (.str x) (.type "str")
 |flt(x:UInt64):ko K H (.flt x) (.type "float")
 |lst{a:J}{xs:List V}(e:H a=Z (.lst xs)):ko K H (.ref a) (.type "list")
 |frz{a:J}{o:Obj}{xs:List V}(e:H a=Z (.frz o (.lst xs))):ko K H (.ref a) (.type "list")
 |tup{a:J}{xs:List V}(e:H a=Z (.tup xs)):ko K H (.ref a) (.type "tuple")
 |dK{a:J}{kvs:List (Key×V)}(e:H a=Z (.dK kvs)):ko K H (.ref a) (.type "dict")
 |dT{a:J}{kvs:List (List Key×V)}(e:H a=Z (.dT kvs)):ko K H (.ref a) (.type "dict")
 |ins{a C dx:J}{fs:List (Str×V)}(e:H a=Z (.ins C dx fs))(cl:Cls K C)(ha:W.findIn K (.ref C) "__class__"=Z (Z (.builtin "object.__class__")))
   (hn:W.specialIn K (.builtin "object.__class__") "__get__"=Z (Z (.builtin "getset_descriptor.__get__"))) (htk:W.takesIn K (.builtin "object.__class__")=Z O)
   (hm:W.mroIn K C (.type "object")=Z O):ko K H (.ref a) (.ref C)
theorem EC{x:V}{t:B}(I:Inv X gd σ H s)(g:RelV x u)(ty:ko X.K H x t)(e:W.kitOne X.K t c=Z b)(h:∀tk,Q (.bool b) {s with toks:=tk}):
  wpAny (model X.prog X.w) A (call (.builtin "isinstance") [u,c]) Q E s:=by
 cases ty with
 |non=>cases(g);exact W.kia_one W.kitx_none I.kIn True.intro e (λz=>nomatch z) h
 |bl y=>cases(g);exact W.kia_one W.kitx_bool I.kIn True.intro e (λz=>nomatch z) h
 |int i=>let(t,q):=(g);cases q;exact W.kia_one W.kitx_int I.kIn True.intro e (λz=>nomatch z) h
 |str y=>let(t,q):=(g);cases q;exact W.kia_one W.kitx_str I.kIn True.intro e (λz=>nomatch z) h
 |flt y=>let(t,q):=(g);cases q;exact W.kia_one W.kitx_float I.kIn True.intro e (λz=>nomatch z) h
 |@lst a xs P =>
  cases(g)
  let(_,_,n,_,h1):=(I.hok a _ P);exact W.kia_one W.kitx_list I.kIn (_,h1,U) e (λz=>nomatch z) h
 |@frz a ob xs P =>
  cases(g)
  let(_,_,_,n,_,h1):=(I.hok a _ P);exact W.kia_one W.kitx_list I.kIn (_,h1,U) e (λz=>nomatch z) h
 |@tup a xs P =>
  cases(g)
  let(_,_,_,p):=(I.hok a _ P);let(o,h1,h2,_):=p.1;exact W.kia_one W.kitx_tuple I.kIn (o,h1,h2) e (λz=>nomatch z) h
 |@dK a kvs P =>
  cases(g)
  let(_,_,vs,_,p):=(I.hok a _ P);let(o,es,ep,h1,h2,_):=p;exact W.kia_one W.kitx_dict I.kIn (o,h1,h2.1) e (λz=>nomatch z) h
 |@dT a kvs P =>
  cases(g)
  let(_,_,xs,_,o,es,ep,h1,h2,_):=(I.hok a _ P);exact W.kia_one W.kitx_dict I.kIn (o,h1,h2.1) e (λz=>nomatch z) h
 |@ins a C dx fs P cl ha hn htk hm =>
  cases(g)
  let(mA,Yv,_):=wL I.hok P;let(od,Yy,_):=Yv.look;exact W.kia_one (W.kitx_own (cl.get _) cl.hd ha hn htk hm) I.kIn Yy e (λz=>nomatch z) h
end
structure cK(k:Nat)(A:Db):Prop where
 hd:A.handled=Y
 dp:A.depth+3*k+5<recursionLimit
 un:A.units+16*k+200<cLine
def cK.mono{k:Nat}(r:cK k A)(h:j<=k):cK j A:=(r.hd,by have:=r.dp;lia,by have:=r.un;lia)
theorem cK.deeper{k:Nat}{A:Db}(r:cK (k+1) A)(env:Env):cK k (A.deeper env) :=
 (r.hd,by have:=r.dp;show A.depth+1+3*k+5<_;lia,by have:=r.un;show A.units+3+16*k+200<_;lia)
def AW:(A.under (.builtin "type.__call__" (.ref C::us,kw))).depth=A.depth+1:=by
 rfl
def AV:(A.under (.builtin "type.__call__" (.ref C::us,kw))).units=A.units+1:=by
 rfl
def cK.make{k:Nat}{A:Db}(r:cK (k+1) A)(C:J)(us:List B)(kw:List (Str×B)):cK k (A.under (.builtin "type.__call__" (.ref C::us,kw))) :=
 (r.hd,by have:=r.dp;rw[AW];lia,by have:=r.un;rw[AV];lia)
theorem cK.depth{k:Nat}{A:Db}(r:cK k A):A.depth<recursionLimit:=by have:=r.dp;lia
theorem cK.units{k:Nat}{A:Db}(r:cK k A):A.units+64<cLine:=by have:=r.un;lia
def fg:TA:=λ_ H Q=>Q [] H
def bL(ta:TE)(tr:TA):TA:=λσ H Q=>ta σ H λx H1=>tr σ H1 λxs H2=>Q (x::xs) H2
section
variable{t:TA}{pos:Pos}
def cJ:PA X [] fg:=λ_ _ _ _ H Q I h=>Calls.spliced_nil ([],H,I,.nil,h)
abbrev AC(X:Cx)(e:Ev)(f:List Ev):Prop:=m4 (e::f) X.env=(false,eval e X.env)::m4 f X.env
def bh(ha:PE X e te)(hr:PA X es t)(hs:‹AC X e es›):PA X (e::es) (bL te t):=by
 intro pos gd s σ H Q I h;rw[hs];show wpAny _ _ (spliced ((ϊ,eval e X.env)::backTo pos (m4 es X.env))) _ _ s;exact Calls.spliced_cons (thn (ha gd s σ H _ I h) λu s1 (x,H1,V,q,K)=>(thn (hr pos gd s1 σ H1 _ V K) λus s2 (xs,H2,P,g,z)=>(x::xs,H2,P,.cons q g,z)))
def FQ(t:TA):TE:=λσ H Q=>t σ H λxs H1=>xs.length<=pq/\∀p,H1 p=Y->Q (.ref p) (upd H1 p (.tup xs))
def O3(t:TA):TE:=λσ H Q=>t σ H λxs H1=>xs.length<=pq/\∀p,H1 p=Y->Q (.ref p) (upd H1 p (.lst xs))
def Az{K}(h:PA X es t):PE X (.Tuple es K pos) (FQ t):=by
 intro gd s σ H Q I hq;refine wpAny_Tuple_spliced (thn (h pos gd s σ H _ I hq) λus s1 (xs,H1,g,r,z,q)=>(by rw[<- r.length];exact z,?_))
 have hf:=g.hok.fresh (nY _);refine(.ref s1.heap.objs.size,upd H1 s1.heap.objs.size (.tup xs),g.laid (λb u e=>ft _ e) (nY _) ?_,U,q _ hf)
 exact(z,us,r,((_,px _ U,U,_,U),_,px _ U,U))
def HQ(h:PA X es t):PE X (.List es pos) (O3 t):=by
 intro gd s σ H Q I hq;refine wpAny_List_spliced (thn (h pos gd s σ H _ I hq) λus s1 (xs,H1,g,r,z,q)=>(by rw[<- r.length];exact z,?_))
 have hf:=g.hok.fresh (nY _);refine(.ref s1.heap.objs.size,upd H1 s1.heap.objs.size (.lst xs),g.laid (λb u e=>ft _ e) (nY _) ?_,U,q _ hf)
 exact(z,us,0,r,px _ U)
end
abbrev Sp:=List V->Hp->VK->XK->Prop
abbrev CXT:=List Env->Hp->ϋ->XK->B->ϋ->Prop
structure zr(P:Da)(w:Cl)(K:BT)(mg:Str->Option B)(base:Do)(A:Db)(outer:List Env)(s:ϋ)(H:Hp):Prop where
 frames:A.frames=Z outer
 mod:Mod K mg base
 bs:∀b o,base.get? b=Z o->s.heap.get? b=Z o/\H b=Y
 bsz:base.objs.size<=s.heap.objs.size
 kn:s.heap.FunFrames base outer
 frf:∀b∈frs outer,H b=Y
 hok:HOk P w H s.heap
 bare:AllBare s.gens
def CE(outer:List Env)(P:Da)(w:Cl)(H:Hp)(s:ϋ)(Q:VK)(u:B)(s':ϋ):Prop :=
 ∃v H',s'.os=s.os/\AllBare s'.gens/\Un (frs outer) [] H H' s.heap s'.heap/\HOk P w H' s'.heap/\RelV v u/\Q v H'
def CR(CX:CXT)(outer:List Env)(P:Da)(w:Cl)(H:Hp)(s:ϋ)(Q:VK)(E:XK)(r:Result)(s':ϋ):Prop :=
 match r with
 |.ok (.ret u)=>CE outer P w H s Q u s'
 |.ok _=>False
 |.error e=>CX outer H s E e s'
structure bf(P:Da)(w:Cl)(K:BT)(mg:Str->Option B)(base:Do)(CX:CXT)(k:Nat)(f:J)(fd:Ch)(ps:List Str)(sp:Sp):Prop where
 len:∀vs H Q E,sp vs H Q E->vs.length=ps.length
 run:∀(A:Db)(outer:List Env)(s:ϋ)(H:Hp)(args:Args)(us:List B)(vs:List V)(Q:VK)(E:XK),cK k A->zr P w K mg base A outer s H->BindsTo s fd args (ps.zip us)->Vals vs us->sp vs H Q E ->
  codeAny (model P w) A (.call (.ref f) args) (CR CX outer P w H s Q E) s
variable{mg:Str->Option B}{base:Do}{CX:CXT}{fd:Ch}{ps:List Str}{sp:Sp}
theorem bf.imp{w:Cl}{K:BT}{k:Nat}{f:J}{g:Sp}(F:bf P w K mg base CX k f fd ps sp)
  (h:∀vs H Q E,g vs H Q E->sp vs H Q E):bf P w K mg base CX k f fd ps g :=
 (λvs H Q E q=>F.len vs H Q E (h _ _ _ _ q),λA outer s H args us vs Q E hr he z hv hs=>F.run A outer s H args us vs Q E hr he z hv (h _ _ _ _ hs))
theorem zr.make{P:Da}{w:Cl}{K:BT}{mg:Str->Option B}{base:Do}{A:Db}{outer:List Env}{s:ϋ}{H:Hp}(e:zr P w K mg base A outer s H)(C:J)(us:List B)(kw:List (Str×B)):
  zr P w K mg base (A.under (.builtin "type.__call__" (.ref C::us,kw))) outer s H:=(by exact e.frames,e.mod,e.bs,e.bsz,e.kn,e.frf,e.hok,e.bare)
section
variable{σ:St}{s:ϋ}
def Inv.Na(I:Inv X gd σ H s):zr X.prog X.w X.K X.mg X.base X.A X.stack s H :=
 (I.ok.frames,I.ok.mod,I.bs,sR I.ok.bsz I.sz,I.stack,I.jX,I.hok,I.bare)
def Inv.after{Q:VK}(I:Inv X gd σ H s)(h:CE X.stack X.prog X.w H s Q u s'):EP X gd σ Q u s':=by
 let(v,H',os,bare,un,hok,r,q):=h;let(P,g,d,t,K):=s';obtain rfl:=os;exact(v,H',I.call un hok bare (λb z=>absurd z (by simp)),r,q)
end
def BP(sp:Sp)(dvs:List V)(E:XK)(t:TA):TE:=λσ H Q=>t σ H λvs H1=>sp (vs++dvs) H1 Q E
def Binds(K:BT)(fd:Ch)(ps:List Str)(ds:List B):Prop :=
 ∀(s:ϋ)(us:List B),K.In s.heap->(us++ds).length=ps.length->BindsTo s fd (us,[]) (ps.zip (us++ds))
theorem Binds.all{K:BT}(h:∀us:List B,us.length=ps.length->bindArgs fd (us,[])=pure (ps.zip us)):Binds K fd ps []:=λs us _ hl=>by
 rw[qg]at hl ⊢;exact .of_eq (h us hl)
def Passes(CX:CXT)(X:Cx)(E:XK):Prop:=∀(gd:List (J×Obj))(σ:St)(H:Hp)(s:ϋ)(e:B)(s':ϋ),Inv X gd σ H s->CX X.stack H s E e s'->X.xe e s'
section
variable{k:Nat}{f:J}{dvs:List V}{ds:List B}{E:XK}{p pos:Pos}{t:TA}
theorem Pl{σ:St}{s:ϋ}{Q:VK}{vs:List V}(F:bf X.prog X.w X.K X.mg X.base CX k f fd ps sp)(hr:cK k X.A)(q:Binds X.K fd ps ds)(hd:Vals dvs ds)(hx:Passes CX X E)
  (I:Inv X gd σ H s) (r:Vals vs us) (h:sp (vs++dvs) H Q E):Zc X (call (.ref f) us) (EP X gd σ Q) X.xe s:=by
 have g:=r.append hd;have hl:(us++ds).length=ps.length:=by rw[<- g.length];exact F.len _ _ _ _ h
 refine wpAny_call (codeAny_mono (F.run X.A X.stack s H (us,[]) (us++ds) (vs++dvs) Q E hr I.Na (q s us I.kIn hl) g h) λr s' hq=>?_)
 cases r with
 |error e=>exact hx gd σ H s e s' I hq
 |ok fl =>
  cases fl with
  |ret u=>exact I.after hq
  |next=>exact False.elim hq
  |brk=>exact False.elim hq
  |cont=>exact False.elim hq
abbrev AM(X:Cx)(p:Pos)(e:List Ev):Prop:=(backTo p (m4 e X.env)).any (·.1)=false
theorem Cg(F:bf X.prog X.w X.K X.mg X.base CX k f fd ps sp)(hr:cK k X.A)(hg:Gl X x)(hm:X.mg x=Z (.ref f))(hk:W.keepIn X.K (.ref f)=O)(V:Binds X.K fd ps ds)(hd:Vals dvs ds)(hx:Passes CX X E)
  (ha:PA X (e::es) t) (z:autoParam (AS x) zdc._auto_1) (he:‹AC X e es›) (g:‹AM X pos es›):
  PE X (.Call (.Name x p) (e::es) [] pos) (BP sp dvs E t):=by
 left;exact RZ (ka I hg hm (W.callWith_K (h₀:=X.base) I.ok.mod.kin hk (thn (ha pos gd s σ H _ I h) λus s1 (vs,H1,P,r,q)=>(P.kIn,(Pl F hr V hd hx P r q))) he g) z)
structure Mk(K:BT)(C f:J):Prop where
 makes:W.makesIn K C=O
 init:W.findIn K (.ref C) "__init__"=Z (Z (.ref f))
 fn:W.isFn K (.ref f)=O
 kp:W.keepIn K (.ref C)=O
theorem GB{σ:St}{s:ϋ}{Q:VK}{vs:List V}(M:Mk X.K C f)(F:bf X.prog X.w X.K X.mg X.base CX k f fd ps sp)(hr:cK (k+1) X.A)(hb:Binds X.K fd ps ds)(hd:Vals dvs ds)
  (hx:Passes CX X E) (I:Inv X gd σ H s) (r:Vals vs us)
  (h:∀x dx,H x=Y->H dx=Y->dx≠x->sp (.ref x ::(vs++dvs)) (upd (upd H dx (.own x)) x (.ins C dx [])) (λv H2=>v=.non/\Q (.ref x) H2) E):
  Zc X (call (.ref C) us) (EP X gd σ Q) X.xe s:=by
 have hq:=h (s.heap.objs.size+1) s.heap.objs.size (I.hok.fresh (Yq _)) (I.hok.fresh (nY _)) (rz (Wl _));have q:=Inv.made (C:=C) I;have z:Vals (V.ref (s.heap.objs.size+1) ::(vs++dvs)) (B.ref (s.heap.objs.size+1) ::(us++ds)):=.cons U (r.append hd);have hl:=by
  have e:=z.length;rw[F.len _ _ _ _ hq]at e;exact e.symm
 refine wpAny_call (IB I.kIn M.makes M.init (beq_iff_eq.mp M.fn) (codeAny_mono (F.run _ X.stack _ _ (B.ref (s.heap.objs.size+1)::us,[]) (B.ref (s.heap.objs.size+1) ::(us++ds)) _ _ E (hr.make C us [])
  (q.Na.make C us []) (hb _ (B.ref (s.heap.objs.size+1)::us) q.kIn hl) z hq) λr s' g=>?_))
 cases r with
 |error e=>exact hx gd σ _ _ e s' q g
 |ok fl =>
  cases fl with
  |ret u =>
   let(v,H',I3,P,ev,q3):=q.after g;subst ev;exact(P,(V.ref (s.heap.objs.size+1),H',I3,U,q3))
  |next=>exact False.elim g
  |brk=>exact False.elim g
  |cont=>exact False.elim g
end
def PK(X:Cx)(kws:List Keyword)(t:TA):Prop :=
 ∀(pos:Pos)(gd:List (J×Obj))(s:ϋ)(σ:St)(H:Hp)(Q:List V->Hp->Prop),Inv X gd σ H s->t σ H Q->Zc X (evalAll ((backToKw pos (keywordEach kws X.env)).map (·.2))) (AP X gd σ Q) X.xe s
section
variable{pos IL:Pos}{kws:List Keyword}{t:TA}{nm:Option Str}
def Qf:PK X [] fg:=λ_ _ _ _ H Q I h=>wpAny_evalAll_nil ([],H,I,.nil,h)
def L4(ha:PE X e te)(hr:PK X kws t):PK X ((nm,e,IL)::kws) (bL te t):=by
 intro pos gd s σ H Q I h;show wpAny _ _ (evalAll ((do let v <- eval e X.env;standAt pos;pure v) ::(backToKw pos (keywordEach kws X.env)).map (·.2))) _ _ s
 exact wpAny_evalAll_cons (cZ (thn (ha gd s σ H _ I h) λu s1 (x,H1,V,q,K)=>cZ (wpAny_standAt (kq (thn (hr pos gd s1 σ H1 _ V K) λus s2 (xs,H2,P,g,z)=>(x::xs,H2,P,.cons q g,z))))))
end
structure aG(N P:List Str)(sc:Scope):Prop where
 kind:sc.kind=.function
 co:sc.isCoroutine=ϊ
 gen:sc.isGenerator=ϊ
 nd:N.Nodup
 pre:N.take P.length=P
 par:∀x∈P,sc.names.lookup x=Z .local\/sc.names.lookup x=Z .cell
 Qv:∀y∈sc.names,y.2 ≠ .free
theorem vj{kindOf:Str->Option NameKind}{x:Str}:∀{binds:List (Str×B)}{m:Str->Option B},(∀v,(x,v) ∉ binds)->bindL kindOf binds m x=m x
 |[],_,_=>rfl
 | (n,v)::r,m,h=>by
  unfold bindL;rw[vj λw hw=>h w (g5 _ hw)]
  split
  ·have:x≠n:=by rintro rfl;exact h v lD
   simp[this]
  ·rfl
theorem vm{kindOf:Str->Option NameKind}{x:Str}:∀{binds:List (Str×B)}{m:Str->Option B},(∀v,(x,v) ∉ binds)->bindC kindOf binds m x=m x
 |[],_,_=>rfl
 | (n,v)::r,m,h=>by
  unfold bindC;rw[vm λw hw=>h w (g5 _ hw)]
  split
  ·rfl
  ·have:x≠n:=by rintro rfl;exact h v lD
   simp[this]
theorem vk{kindOf:Str->Option NameKind}{x:Str}{v:B}:∀{P:List Str}{vs:List B}{i:Nat}{m:Str->Option B},P.Nodup->P[i]?=Z x->vs[i]?=Z v->kindOf x=Z .local ->
  bindL kindOf (P.zip vs) m x=Z v
 |[],_,_,_,_,h,_,_=>by simp at h
 |_::_,[],_,_,_,_,h,_=>by simp at h
 |p::P,w::vs,0,m,nd,h1,h2,hk=>by
  simp at h1 h2;subst h1;subst h2;show bindL kindOf ((p,w)::P.zip vs) m p=_;unfold bindL;rw[vj λv hv=>(u6.mp nd).1 (WJ hv).1,if_pos hk]
  simp
 |p::P,w::vs,i+1,m,nd,h1,h2,hk=>by
  unfold bindL;exact vk (u6.mp nd).2 (by simpa using h1) (by simpa using h2) hk
theorem vn{kindOf:Str->Option NameKind}{x:Str}{v:B}:∀{P:List Str}{vs:List B}{i:Nat}{m:Str->Option B},P.Nodup->P[i]?=Z x->vs[i]?=Z v->kindOf x≠Z .local ->
  bindC kindOf (P.zip vs) m x=Z v
 |[],_,_,_,_,h,_,_=>by simp at h
 |_::_,[],_,_,_,_,h,_=>by simp at h
 |p::P,w::vs,0,m,nd,h1,h2,hk=>by
  simp at h1 h2;subst h1;subst h2;show bindC kindOf ((p,w)::P.zip vs) m p=_;unfold bindC;rw[vm λv hv=>(u6.mp nd).1 (WJ hv).1,if_neg hk]
  simp
 |p::P,w::vs,i+1,m,nd,h1,h2,hk=>by
  unfold bindC;exact vn (u6.mp nd).2 (by simpa using h1) (by simpa using h2) hk
def start(N:List Str)(vs:List V):St:=vs.map Z++Fi (N.length - vs.length) Y
def nS(CX:CXT)(P:Da)(w:Cl)(K:BT)(mg:Str->Option B)(base:Do)(N:List Str)(qual:Str)(scope:Scope)(f:J)(cd:B)(A:Db)(outer:List Env)(s:ϋ)(H:Hp)(E:XK):Cx where
 prog:=P
 w:=w
 K:=K
 mg:=mg
 base:=base
 A:=A.deeper (envOfC qual scope s.heap.objs.size f cd)
 N:=N
 s₀:=s
 H₀:=H
 env:=envOfC qual scope s.heap.objs.size f cd
 outer:=outer
 stack:=envOfC qual scope s.heap.objs.size f cd::outer
 ex:=[]
 calm:=O
 fn:=λ_=>O
 pn:=[]
 xe:=λe s'=>wpAny (model P w) (A.deeper (envOfC qual scope s.heap.objs.size f cd)) (leaving (envOfC qual scope s.heap.objs.size f cd) e) (λ_ g=>CX outer H s E e g) (λq g=>CX outer H s E q g) s'
variable{sc:Scope}
theorem y9(h:sc.names.lookup x=Z .cell):∃c,(cellsFrom n sc.names []).lookup x=Z c:=by
 have q:=W.cellsFrom_some sc.names n [] (.inl h);exact Xw.mp q
variable{qual:Str}{scope:Scope}{cd:B}{outer:List Env}
theorem ED{w:Cl}{K:BT}{f:J}{s s1:ϋ}{E:XK}{vs:List V}
  (S:aG N ps scope) (hd:A.handled=Y) (g:zr P w K mg base A outer s H) (hl:vs.length=ps.length) (r:Vals vs us)
  (x:InCallC s s.heap.objs.size (bindL (envOfC qual scope s.heap.objs.size f cd).kindOf (ps.zip us) λ_=>Y) (cellsFrom (s.heap.objs.size+1) scope.names []) (bindC (envOfC qual scope s.heap.objs.size f cd).kindOf (ps.zip us) λ_=>Y) s1):
  Inv (nS CX P w K mg base N qual scope f cd A outer s H E) [] (start N vs) H s1:=by
 have ar:ps.length<=N.length:=by have:=congrArg Nv S.pre;rw[qp]at this;lia
 let(h1,tk,U,hk):=x.done;have Q:∀b,b ∉ (nS CX P w K mg base N qual scope f cd A outer s H E).ex:=λb z=>absurd (show b∈([])from z) (by simp)
 refine((g.mod,S.kind,U,U,nY _,λy z c h1 h2=>?_,λy hy=>?_,λy c _ h=>?_,λ_=>hd,Around.frames_deeper g.frames,.inr (U,U),λb z=>absurd z (Q b),g.bs,g.bsz,λb _ _=>Q b,λb z=>absurd z (Q b),g.kn,g.frf),
  rfl,g.bare,Un.kept hk,(_,x.toInCall.ns,λi y v h1 h2 h3=>?_),λy c h=>(_,x.cell y c h),g.hok.fresh (nY _),λy c h=>?_,λp hp=>absurd (show p∈([])from hp) (by simp),g.hok.kept hk,?_)
 ·exact name_of_addr x.apart (PySem.mem_of_lookup h1) (PySem.mem_of_lookup h2)
 ·obtain hy|hy:=hy
  ·exact y9 hy
  ·exact absurd U (S.Qv _ (PySem.mem_of_lookup hy))
 ·exact sV (x.above y c (PySem.mem_of_lookup h))
 ·have hi:i<vs.length:=by
   unfold start at h2;by_cases hi:i<vs.length
   ·exact hi
   ·rw[C5 (by simpa using hi)]at h2
    rw[XA]at h2
    split at h2 <;> cases h2
  have ha:vs[i]?=Z v:=by
   unfold start at h2;rw[vr (by simpa using hi),gs]at h2
   cases e:vs[i]? with
   |none=>rw[e]at h2;cases h2
   |some a=>rw[e]at h2;cases h2;rfl
  let(u,hu,rv):=r.get ha;have hp:ps[i]?=Z y:=by
   rw[<- S.pre,Xx (by lia)];exact h1
  have ak:ps.Nodup:=by rw[<- S.pre];exact S.nd.sublist (Wm _ _)
  refine(u,rv,?_);obtain k|k:=S.par y (mu hp)
  ·exact .inl (k,vk ak hp hu k)
  ·let(c,e):=y9 k;refine .inr (.inl k,c,e,?_);have q:=x.cell y c e;rw[vn ak hp hu (by show scope.names.lookup y≠_;rw[k];decide)]at q
   exact q
 ·exact g.hok.fresh (sV (x.above y c (PySem.mem_of_lookup h)))
 ·unfold start;show _=N.length;rw[iQ,dN,List.length_replicate]
  lia
variable{name:Str}{pm:B}{ct:B}{oc:B}{an:Option J}{od:Option J}
theorem Ow{w:Cl}{K:BT}{k:Nat}{f:J}{params:Arguments}{dV kV doc cdv:B}
  {osl:Array (Option B)} {N ps:List Str} {sp:Sp} (lk:K.lookup f=Z (oc,od,.func (W.fnOf name qual params body scope dV kV doc pm an cdv ct),osl)) (ak:W.codeIn K cdv qual=O) (S:aG N ps scope)
  (len:∀vs H Q E,sp vs H Q E->vs.length=ps.length)
  (jH:∀(A:Db)(outer:List Env)(s:ϋ)(H:Hp)(vs:List V)(Q:VK)(E:XK),cK k (A.deeper (envOfC qual scope s.heap.objs.size f cdv))->sp vs H Q E ->
   ∃t,PSs (nS CX P w K mg base N qual scope f cdv A outer s H E) body t/\t {nx:=λ_ H'=>Q .non H',rt:=Q} (start N vs) H):
  bf P w K mg base CX (k+1) f (W.fnOf name qual params body scope dV kV doc pm an cdv ct) ps sp:=by
 refine(len,λA outer s H args us vs Q E hr e0 hb r z=>?_)
 have hl:=len _ _ _ _ z;have KX:=e0.mod.kin.keeps λb o e=>(e0.bs b o e).1
 have lim:=e0.mod.nolimit.keeps λb o e=>(e0.bs b o e).1
 have g6:∀y∈ps.zip us,scope.names.lookup y.1=Z .local\/(scope.names.lookup y.1=Z .cell/\((cellsFrom (s.heap.objs.size+1) scope.names []).lookup y.1).isSome=O):=λ(n,v) hy=>by
  obtain q|q:=S.par n (WJ hy).1
  ·exact .inl q
  ·exact .inr (q,W.cellsFrom_some _ _ _ (.inl q))
 refine codeAny_call_function hr.depth (KX _ _ lk) U S.co S.gen U (W.codeRec_of KX ak) (hb _ _ _ _ (wpAny_newFunctionEnv_cells S.kind g6 λenv he s1 x=>?_))
 subst he;refine(lim.keeps x.toInCall.keep,codeAny_func ?_);let(t,ht,hq):=jH A outer s H vs Q E (hr.deeper _) z;have I:Inv (nS CX P w K mg base N qual scope f cdv A outer s H E) [] (start N vs) H s1:=ED S hr.hd e0 hl r x;refine Nz (ht [] s1 (start N vs) H _ I hq) (λfl s' hs=>?_) λe s' hs=>hs
 have fin:∀{g:St}{H':Hp}{v:V}{u:B},Inv (nS CX P w K mg base N qual scope f cdv A outer s H E) [] g H' s'->RelV v u->Q v H'->CE outer P w H s Q u s' :=
  λ{g H' v u} Yy rv q=>(v,H',Yy.os,Yy.bare,Yy.base,Yy.hok,rv,q)
 cases fl with
 |ret u =>
  let(v,g,H',Yy,rv,q):=hs;exact fin Yy rv q
 |next =>
  let(g,H',Yy,q):=hs;exact fin (v:=V.non) Yy U q
 |brk =>
  let(_,_,_,q):=hs;exact False.elim q
 |cont =>
  let(_,_,_,q):=hs;exact False.elim q
section
variable{p pos:Pos}{t:TA}{id T:String}{r:List V->Hp->VK->Prop}
def tCB(r:List V->Hp->VK->Prop)(t:TA):TE:=λσ H Q=>t σ H λvs H1=>r vs H1 Q
def gQ(P:bY X (.builtin id) r)(hg:Gl X x)(hm:X.mg x=Y)(hv:bootBuiltins x=Z (.builtin id))(ha:PA X (e::es) t)(hn:autoParam (x ≠ "__name__") zdc._auto_1)(q:autoParam (AS x) zdc._auto_1)
  (he:‹AC X e es›) (g:‹AM X pos es›):PE X (.Call (.Name x p) (e::es) [] pos) (tCB r t):=by
 left;exact RZ (gE I hg hm hv (PyProof.Rows.callWith_builtin1 (thn (ha pos gd s σ H _ I h) λus s1 (vs,H1,V,z,K)=>P gd s1 σ H1 vs us Q V z K) he g) hn q)
def uP(P:bY X (.type T) r)(hg:Gl X x)(hm:X.mg x=Y)(hv:bootBuiltins x=Z (.type T))(ha:PA X (e::es) t)(hn:autoParam (x ≠ "__name__") zdc._auto_1)(q:autoParam (AS x) zdc._auto_1)
  (he:‹AC X e es›) (g:‹AM X pos es›):PE X (.Call (.Name x p) (e::es) [] pos) (tCB r t):=by
 left;exact RZ (gE I hg hm hv (PyProof.Rows.callWith_type1 (thn (ha pos gd s σ H _ I h) λus s1 (vs,H1,V,z,K)=>P gd s1 σ H1 vs us Q V z K) he g) hn q)
end
end L2
namespace HT
open PySem PyProof.Rows
section
variable{prog:Da}{w:Cl}{A:Db}{E:B->ϋ->Prop}{s:ϋ}
def Ni{t b:J}{vs ws:List B}{Q:B->ϋ->Prop}(ht:IsTup s.heap t vs.toArray)(hb:IsTup s.heap b ws.toArray)(hv:vs ≠ [])
  (h1:ws=[]->Q (.ref t) s) (h2:ws ≠ []->Q (.ref s.heap.objs.size) {s with heap:=s.heap.push {cls:=.type "tuple",data:=.seq (vs++ws).toArray}})
  (hsz:vs.length+ws.length<=pq):wpAny (model prog w) A (binaryOp .Add (.ref t) (.ref b)) Q E s:=by
 let((cls,dd,data,sl),ho,V,n,hd):=id ht;let((VS,K,data2,q),g,z,P,hd2):=id hb;simp only at V hd z hd2;subst V hd z hd2;have e:vs.toArray++ws.toArray=(vs++ws).toArray:=by simp
 by_cases hw:ws=[]
 ·exact concat_meets (_,ho,U) (_,g,U) noFill_tuple_add seq_tuple_add PySem.F.slot_tuple_add PySem.F.entry_tuple_add (PySem.F.args_tuple_add_2 _ _)
   (tuple_addW1 t b vs.toArray ws.toArray n P dd K sl q (by simpa using hv) (by simp[hw])) (ho,g,h1 hw)
 ·refine concat_meets (_,ho,U) (_,g,U) noFill_tuple_add seq_tuple_add PySem.F.slot_tuple_add PySem.F.entry_tuple_add (PySem.F.args_tuple_add_2 _ _)
   (tuple_addW2 t b vs.toArray ws.toArray n P dd K sl q (by simpa using hv) (by simpa using hw) (by exact hsz)) (ho,g,?_)
  rw[e];exact h2 hw
def sIx(n d:Nat):Option Int->Nat
 |none=>d
 |some v=>if v<0 then(v+(n:Int)).toNat else min v.toNat n
def xR(n d:Nat):sIx n d Y=d:=rfl
def BY(n d k:Nat):sIx n d (Z (k:Int))=min k n:=by
 show(if(k)<0 then((k)+(n:Int)).toNat else min (k:Int).toNat n)=min k n
 rw[if_neg (by lia),W7]
def UC(a:Int)(n:Nat)(h0:0<=a):min a (n:Int)=((min a.toNat n:Nat):Int):=by
 by_cases h:a<=n
 ·rw[Int.min_eq_left h,Nx (Yg.mpr h),Wi h0]
 ·have h':=Int.le_of_lt (Int.not_le.mp h);rw[Int.min_eq_right h',Nat.min_eq_right ((Int.le_toNat h0).mpr h')]
def F8(n:Nat)(i:Int)(h:i<0):max 0 (min (i+(n:Int)) n)=((i+n).toNat:Int):=by
 rw[Int.min_eq_left (Int.add_le_of_le_sub_right (by rw[Int.sub_self];exact Int.le_of_lt h)),Int.max_comm,Int.ofNat_toNat]
def F7(n:Nat)(i:Int)(h:¬ i<0):max 0 (min i (n:Int))=((min i.toNat n:Nat):Int):=by
 rw[UC i n (Int.not_lt.mp h),Int.max_eq_right (W4 _)]
def CY(v:Int)(n d:Nat):(if v<0 then max (v+(n:Int)) 0 else min v (n:Int))=((sIx n d (Z v):Nat):Int):=by
 show(if v<0 then max (v+(n)) 0 else min v (n))=(((if v<0 then(v+(n)).toNat else min v.toNat n)))
 by_cases hv:v<0
 ·rw[if_pos hv,if_pos hv];exact(Int.ofNat_toNat _).symm
 ·rw[if_neg hv,if_neg hv];exact UC v n (Int.not_lt.mp hv)
def BA(lo hi:Option Int)(n:Nat):Builtin.Slice.sliceAdjust lo hi 1 (n:Int)=(((sIx n 0 lo:Nat):Int),((sIx n n hi:Nat):Int)):=by
 have h1:=by omega
 unfold Builtin.Slice.sliceAdjust;refine Prod.ext ?_ ?_
 ·cases lo with
  |none=>rfl
  |some v=>exact CY v n 0
 ·cases hi with
  |none=>rfl
  |some v=>exact CY v n n
def Ax(i j:Nat):Builtin.Slice.slicePlaces (i:Int) (j:Int) 1=j - i:=by
 unfold Builtin.Slice.slicePlaces;have h1:(1:Int) > 0:=by lia
 simp only[h1,if_true,Int.ediv_one]
 split <;> lia
def qF{v:B}{o:Option Int}{Q:Option Int->ϋ->Prop}(p:IsPart v o)(h:Q o s):wpAny (model prog w) A (Builtin.Slice.slicePartIndex v) Q E s:=by
 cases p with
 |none=>exact slicePart_none h
 |int i t=>exact slicePart_int h
def gK{sl:J}{K z:B}{lo hi:Option Int}{n:Nat}{Q:Int×Int×Nat->ϋ->Prop}(hs:s.heap.IsSliceOf sl K z .none)(P:IsPart K lo)(pu:IsPart z hi)
  (h:Q (((sIx n 0 lo:Nat):Int),1,sIx n n hi - sIx n 0 lo) s):wpAny (model prog w) A (Builtin.Slice.sliceApplied (.ref sl) (pure (n:Int))) Q E s:=by
 let(os,g,V,q):=id hs;refine cZ (cZ (wpAny_field g q (x:=K) U (cZ (wpAny_field g q (x:=z) U (cZ (wpAny_field g q U (kq ?_)))))));refine cZ (slicePart_none ?_);refine cZ (qF P (cZ (qF pu (cZ (kq ?_)))));show wpAny _ _ (match Builtin.Slice.sliceAdjust lo hi 1 (n)with|(lo,hi)=>pure (Prod.mk lo (Prod.mk (1:Int) (Builtin.Slice.slicePlaces lo hi 1)))) _ _ s
 rw[BA lo hi n];show wpAny _ _ (pure (Prod.mk ((sIx n 0 lo):Int) (Prod.mk (1) (Builtin.Slice.slicePlaces ((sIx n 0 lo)) ((sIx n n hi)) 1)))) _ _ s;rw[Ax];exact kq h
def HI(xs:Array B)(i k:Nat):((Fh k).filterMap λ(m:Nat)=>xs[((i:Int)+(m:Int)*1).toNat]?).toArray=((xs.toList.drop i).take k).toArray:=by
 have e:(λ(m:Nat)=>xs[((i)+(m:Int)*1).toNat]?)=λm=>xs[i+m]?:=by
  funext m
  have:((i)+(m:Int)*1).toNat=i+m:=by lia
  rw[this]
 rw[e]
 have:=pick_run xs i k
 rw[List.filterMap_map]at this;have g:((λx=>xs[x]?) ∘ λx=>i+x)=λm=>xs[i+m]?:=rfl
 rw[g]at this;rw[this]
def mB{t sl:J}{items:Array B}{vl vu:B}{lo hi:Option Int}{Q:B->ϋ->Prop}(g:IsTup s.heap t items)(hs:s.heap.IsSliceOf sl vl vu .none)(pl:IsPart vl lo)(pu:IsPart vu hi)
  (hw:¬(sIx items.size 0 lo=0/\sIx items.size items.size hi=items.size))
  (h:Q (.ref s.heap.objs.size) {s with heap:=s.heap.push {cls:=.type "tuple",data:=.seq ((items.toList.drop (sIx items.size 0 lo)).take (sIx items.size items.size hi - sIx items.size 0 lo)).toArray}})
  (hsz:items.size<=pq):wpAny (model prog w) A (getItem (.ref t) (.ref sl)) Q E s:=by
 have Ub:sizeOk (.seq ((items.toList.drop (sIx items.size 0 lo)).take (sIx items.size items.size hi - sIx items.size 0 lo)).toArray):=by
  show((items.toList.drop (sIx items.size 0 lo)).take (sIx items.size items.size hi - sIx items.size 0 lo)).toArray.size<=pq;rw[ri,qp,Fs,WD];exact sR (sR (XC _ _) (Ys _ _)) hsz
 let(os,z,P,ak):=id hs;have V:s.TypeIs (.ref sl) "slice":=(os,z,P);unfold getItem
 try with_reducible refine BI ?_
 refine cZ (wpAny_sequenceKey g.typeIs (by decide) ?_)
 refine cZ (wpAny_callSpecial?_slot g.typeIs PyProof.Rows.slot_tuple_getitem
  (So PyProof.Rows.slot_tuple_getitem g.typeIs entry_tuple_getitem ?_ (args_tuple_getitem _ _)))
 show wpAny _ _ (Builtin.Tuple.tupleItemsOf (.ref t) >>= _) _ _ s;refine cZ (tupleItemsOf_ g (cZ (VD V ?_)));refine cZ (gK hs pl pu ?_);have K:¬((((sIx items.size 0 lo):Int)==0&&(1:Int)==1&&(sIx items.size items.size hi - sIx items.size 0 lo)==items.size)=O):=by
  intro q;rw[sU,sU]at q;have q1:=eq_of_beq q.1.1;have q2:=eq_of_beq q.2;exact hw (by lia,by lia)
 show wpAny _ _ (if(((sIx items.size 0 lo):Int)==0&&(1)==1&&(sIx items.size items.size hi - sIx items.size 0 lo)==items.size)=O then _ else _) _ _ s
 rw[if_neg K,HI];exact cZ (m:=Builtin.Tuple.tupleExact _) (Wz (kq (_,U,kq h)) Ub)
end
end HT
namespace L2
open PySem PySem.Spec PyProof.Rows
abbrev TO:=St->Hp->(Option Int->Hp->Prop)->Prop
def PO(X:Cx)(e:Option Ev)(t:TO):Prop :=
 ∀(gd:List (J×Obj))(s:ϋ)(σ:St)(H:Hp)(Q:Option Int->Hp->Prop),Inv X gd σ H s->t σ H Q ->
  Zc X (evalPart e X.env) (λu s'=>∃o H',Inv X gd σ H' s'/\IsPart u o/\Q o H') X.xe s
def BO:TO:=λ_ H Q=>Q Y H
def NF(t:TE):TO:=λσ H Q=>t σ H λx H1=>∃i,x=.int i/\Q (Z i) H1
variable{us:List B}
section
variable{X:Cx}{e:Ev}{te:TE}{lo hi:Option Ev}{tl th:TO}{pos p2:Pos}
def L3:PO X Y BO:=by
 left;exact kq (Y,H,I,.none,h)
def wm(h:PE X e te):PO X (Z e) (NF te):=by
 intro gd s σ H Q I hw;refine thn (h gd s σ H _ I hw) λu s1 g=>?_
 let(x,H1,P,z,K):=g;let(i,U,q):=K;let(t,U):=z;exact(Z i,H1,P,.int i t,q)
def SlR(X:Cx)(r:V->Option Int->Option Int->Hp->VK->Prop):Prop :=
 ∀(gd:List (J×Obj))(s:ϋ)(σ:St)(H:Hp)(x:V)(v q g:B)(lo hi:Option Int)(sl:J)(Q:VK),Inv X gd σ H s->RelV x v->s.heap.IsSliceOf sl q g .none->IsPart q lo->IsPart g hi->r x lo hi H Q ->
  ∃T id,typeLookup (.type T) "__getitem__"=pure (Z (.builtin id))/\s.TypeIs v T/\Zc X (getItem v (.ref sl)) (EP X gd σ Q) X.xe s
def SlR.or{r P:V->Option Int->Option Int->Hp->VK->Prop}(h:SlR X r)(h':SlR X P):SlR X (λx lo hi H Q=>r x lo hi H Q\/P x lo hi H Q):=by
 intro gd s σ H x v z g lo hi sl Q I K hs pl pu q;obtain q|q:=q
 ·exact h gd s σ H x v z g lo hi sl Q I K hs pl pu q
 ·exact h' gd s σ H x v z g lo hi sl Q I K hs pl pu q
def tSl(r:V->Option Int->Option Int->Hp->VK->Prop)(te:TE)(tl th:TO):TE:=λσ H Q=>te σ H λx H1=>tl σ H1 λl H2=>th σ H2 λu g=>r x l u g Q
def yc{r:V->Option Int->Option Int->Hp->VK->Prop}(hr:SlR X r)(he:PE X e te)(hl:PO X lo tl)(hu:PO X hi th):PE X (.Subscript e (.Slice lo hi Y p2) pos) (tSl r te tl th):=by
 left;refine Subscript_ (thn (he gd s σ H _ I h) λv s1 (x,H1,I1,r1,q1)=>(wpAny_Slice (thn (hl gd s1 σ H1 _ I1 q1) λz s2 (l,H2,I2,pl,q2)=>thn (hu gd s2 σ H2 _ I2 q2) λg s3 K=>?_)))
 let(u,P,I3,pu,q3):=K;refine kq ?_;have I4:Inv X gd σ P {s3 with heap:=s3.heap.push {cls:=.type "slice",data:=.fields #[z,g,.none]}}:=I3.kept λb ob q=>ft _ q
 let(T,id,hT,ht,hg):=hr gd {s3 with heap:=s3.heap.push {cls:=.type "slice",data:=.fields #[z,g,.none]}} σ P x v z g l u s3.heap.objs.size Q I4 r1 (Heap.IsSliceOf.new ..) pl pu q3
 exact tail_any ht hT hg (by with_unfolding_all rfl)
def mR(xs:List V)(lo hi:Option Int):List V:=(xs.drop (HT.sIx xs.length 0 lo)).take (HT.sIx xs.length xs.length hi - HT.sIx xs.length 0 lo)
def oF(xs:List V)(lo hi:Option Int):(mR xs lo hi).length<=xs.length:=by
 unfold mR;rw[qp,Fs];exact sR (XC _ _) (Ys _ _)
inductive U6(K:BT)(x:V)(lo:Option Int)(hi:Option Int)(H:Hp)(Q:VK):Prop
 |mk(a xs:_)(h1:x=.ref a)(h2:SqT K H a xs)(h3:¬(HT.sIx xs.length 0 lo=0/\HT.sIx xs.length xs.length hi=xs.length))(h4:∀p,H p=Y->Q (.ref p) (upd H p (.tup (mR xs lo hi))))
def Pe:SlR X (U6 X.K):=by
 intro gd s σ H x v vl vu lo hi sl Q I P hs V pu h;let(a,xs,U,hx,hw,q):=h;cases P;let(its,r,z,g):=I.tuple hx;have hlen:its.toArray.size=xs.length:=by exact r.length.symm
 refine("tuple",_,PyProof.Rows.slot_tuple_getitem.lookup,z.typeIs,(HT.mB z hs V pu (by rw[hlen];exact hw) ?_ (by rw[hlen];exact g)))
 rw[hlen];refine(.ref s.heap.objs.size,_,I.laid (λb ob q=>ft _ q) (nY _) ?_,U,q _ (I.hok.fresh (nY _)))
 exact(sR (oF xs lo hi) g,_,(r.drop (HT.sIx xs.length 0 lo)).take (HT.sIx xs.length xs.length hi - HT.sIx xs.length 0 lo),jQ.new _ _)
inductive SS(K:BT)(x:V)(y:V)(H:Hp)(Q:VK):Prop
 |mk(a b xs ys:_)(h1:x=.ref a)(h2:y=.ref b)(h3:SqT K H a xs)(h4:SqT K H b ys)(h5:xs ≠ [])(h6:xs.length+ys.length<=pq)(h7:(ys=[]->Q (.ref a) H))(h8:(ys ≠ []->∀p,H p=Y->Q (.ref p) (upd H p (.tup (xs++ys)))))
def Vals.eR{xs:List V}(r:Vals xs us):us=[] ↔ xs=[]:=by
 cases r with
 |nil=>simp
 |cons _ _=>simp
def Mu:OpR X (binaryOp .Add) (SS X.K):=by
 intro gd s σ H x y v u Q I rx ry h;let(a,b,xs,ys,U,U,ha,hb,hx,V,q1,q2):=h;cases rx;cases ry;let(its,P,p1,_):=I.tuple ha;let(iE,g,p2,_):=I.tuple hb;exact HT.Ni p1 p2 (λz=>hx (P.eR.mp z)) (λz=>(.ref a,H,I,U,q1 (g.eR.mp z))) (λz=>(.ref s.heap.objs.size,_,I.laid (t':=s.toks) (o:=.tup (xs++ys)) (λb ob q=>ft _ q) (nY _) (by rw[iQ];exact V,_,P.append g,jQ.new _ _),U,q2 (λw=>z (g.eR.mpr w)) _ (I.hok.fresh (nY _)))) (by rw[<- P.length,<- g.length];exact V)
end
def ixN(n:Nat)(i:Int):Option Nat:=if 0<=i then(if i<n then Z i.toNat else Y)else if -(n:Int)<=i then Z (i+n).toNat else Y
def atI{α:Type}(xs:List α)(i:Int):Option α:=(ixN xs.length i).bind λj=>xs[j]?
variable{n:Nat}{j:Nat}
def Cw{i:Int}(h:ixN n i=Z j):seqIndex? i n=Z j/\j<n /\ -(n:Int)<=i/\i<n:=by
 unfold ixN at h;by_cases h0:0<=i
 ·rw[if_pos h0]at h;by_cases h1:i<n
  ·rw[if_pos h1]at h;have e:=Option.some.inj h;exact(by rw[seqIndex_of h0 h1,e],by lia,by lia,h1)
  ·rw[if_neg h1]at h;cases h
 ·rw[if_neg h0]at h;by_cases h1:-(n)<=i
  ·rw[if_pos h1]at h;have e:=Option.some.inj h;exact(by rw[seqIndex_neg (by lia) h1,e],by lia,h1,by lia)
  ·rw[if_neg h1]at h;cases h
def xk{α:Type}{xs:List α}{i:Int}{v:α}(h:atI xs i=Z v):∃j,seqIndex? i xs.length=Z j/\xs[j]?=Z v/\j<xs.length /\ -(xs.length:Int)<=i/\i<xs.length:=by
 unfold atI at h;cases e:ixN xs.length i with
 |none=>rw[e]at h;cases h
 |some j =>
  rw[e]at h;let(h1,h2,h3,h4):=Cw e;exact(j,h1,h,h2,h3,h4)
def bQ{α:Type}{xs:List α}{v:α}(h:xs[j]?=Z v):atI xs (j:Int)=Z v:=by
 have g:=(jS.mp h).1;have e:ixN xs.length (j)=Z j:=by
  unfold ixN;rw[if_pos (by lia),if_pos (by lia)];simp
 unfold atI;rw[e];exact h
def kj(b:Ev):Prop:=∀o i,subscripted b ϊ o i=operate [o,i] (getItem o i)
def IxR(X:Cx)(r:R2):Prop :=
 ∀(value slice:Ev)(gd:List (J×Obj))(s:ϋ)(σ:St)(H:Hp)(x y:V)(v u:B)(Q:VK),Inv X gd σ H s->RelV x v->RelV y u->r x y H Q ->
  subscripted slice ϊ v u=operate [v,u] (getItem v u)->Zc X (subscriptTail value slice v u) (EP X gd σ Q) X.xe s
def MtR(X:Cx)(id:String)(r:V->List V->Hp->VK->Prop):Prop :=
 ∀(gd:List (J×Obj))(s:ϋ)(σ:St)(H:Hp)(x:V)(xs:List V)(v:B)(us:List B)(Q:VK),Inv X gd σ H s->RelV x v->Vals xs us->r x xs H Q ->
  Zc X (call (.builtin id) (v::us)) (EP X gd σ Q) X.xe s
variable{gd:List (J×Obj)}{H:Hp}{its:List B}{A:Db}{y:V}{u:B}{r:List V->Hp->VK->Prop}
section
variable{X:Cx}{a b:Ev}{ta tb:TE}{pos:Pos}
def IxR.or{r K:R2}(h:IxR X r)(h':IxR X K):IxR X (λx y H Q=>r x y H Q\/K x y H Q):=by
 intro value slice gd s σ H x y v u Q I z g q hs;obtain q|q:=q
 ·exact h value slice gd s σ H x y v u Q I z g q hs
 ·exact h' value slice gd s σ H x y v u Q I z g q hs
def uO{r:R2}(hr:IxR X r)(ha:PE X a ta)(K:PE X b tb)(hs:kj b):PE X (.Subscript a b pos) (tOp r ta tb):=by
 left;exact Subscript_ (RD ha K I h λv u s2 x y H2 P z g q=>hr a b gd s2 σ H2 x y v u Q P z g q (hs _ _))
inductive SO(K:BT)(x:V)(y:V)(H:Hp)(Q:VK):Prop
 |mk(p xs i v:_)(h1:x=.ref p)(h2:y=.int i)(h3:SqL K H p xs)(h4:atI xs i=Z v)(h5:Q v H)
inductive SK(K:BT)(x:V)(y:V)(H:Hp)(Q:VK):Prop
 |mk(p xs i v:_)(h1:x=.ref p)(h2:y=.int i)(h3:SqT K H p xs)(h4:atI xs i=Z v)(h5:Q v H)
inductive SM(x:V)(y:V)(H:Hp)(Q:VK):Prop
 |mk(z i c:_)(h1:x=.str z)(h2:y=.int i)(h3:z.length<=pq)(h4:atI z.cps.toList i=Z c)(h5:Q (.str ⟨#[c]⟩) H)
def MP:IxR X (SO X.K):=by
 intro value slice gd s σ H x y v u Q I rx ry h hs;let(p,xs,i,z,U,U,hq,he,q):=h;cases rx;let(t,U):=ry;let(its,r,P,hz):=I.list hq;let(j,h1,h2,h3,h4,h5):=xk he;let(w,ew,g):=r.get h2;have hl:=r.length;have hn:=k7;have fin:EP X gd σ Q w s:=(z,H,I,g,q);by_cases h0:0<=i
 ·have V:=by
   rw[seqIndex_of h0 h5]at h1;exact Option.some.inj h1
  exact item_listR P.isList h0 (by lia) (by rw[V];simpa using ew) fin hs
 ·have V:(i+(its.toArray.size)).toNat=j:=by
   rw[seqIndex_neg (by omega) h4]at h1
   rw[ri,<- hl];exact Option.some.inj h1
  exact subscriptTail_builtinR P.isList.typeIs slot_list_getitem.lookup
   (wpAny_getItem_list_neg P.isList (by omega) (by rw[ri] <;> lia) (by lia) (by rw[V];simpa using ew) (U,fin)) hs
def Ra:IxR X (SK X.K):=by
 intro value slice gd s σ H x y v u Q I rx V h hs;let(p,xs,i,z,U,U,hq,he,q):=h;cases rx;let(t,U):=V;let(its,r,P,hz):=I.tuple hq;let(j,h1,h2,h3,h4,h5):=xk he;let(w,ew,g):=r.get h2;have hl:=r.length;have hn:=k7;have fin:EP X gd σ Q w s:=(z,H,I,g,q);exact subscriptTail_builtinR P.typeIs slot_tuple_getitem.lookup
  (getItem_tuple P (by lia) (by lia) (by rw[ri,<- hl];exact h1) (by simpa using ew) (U,fin)) hs
def Rb:IxR X SM:=by
 intro value slice gd s σ H x y v u Q I K g h hs;let(z,i,c,U,U,hz,he,q):=h;let(t,U):=K;let(t',U):=g;let(j,h1,h2,h3,h4,h5):=xk he;have hl:z.cps.toList.length=z.length:=by simp[Str.length]
 rw[hl]at h1 h4 h5;have hn:=k7;exact tail_any (typeIs_str s z t) slot_str_getitem.lookup (getItem_str (by
  have V:decide (i < -(2 ^ 63))=false:=decide_eq_false (by lia)
  have P:decide (i ≥ 2 ^ 63)=false:=decide_eq_false (by lia)
  rw[V,P,Bool.or_false]) (by rw[h1];simpa using h2) (.str ⟨#[c]⟩,H,I.tok _,(_,U),q)) hs
def rIx(K:BT):R2:=λx y H Q=>SO K x y H Q\/SK K x y H Q\/SM x y H Q
def A5:IxR X (rIx X.K):=MP.or (Ra.or Rb)
def AU(its:List B)(n j:Nat)(u:B):QG (·.setIfInBounds j u) {cls:=.type "list",data:=.seq its.toArray n}={cls:=.type "list",data:=.seq (its.set j u).toArray n}:=by
 simp[QG]
theorem Inv.lst{gd:List (J×Obj)}{σ:St}{H:Hp}{s:ϋ}{p:J}{xs:List V}(I:Inv X gd σ H s)(h:H p=Z (.lst xs)):
  ∃(its:List B)(n:Nat),Vals xs its/\s.heap.get? p=Z {cls:=.type "list",data:=.seq its.toArray n}/\xs.length<=pq:=by
 let(z,its,n,r,e):=I.hok p _ h;exact(its,n,r,e,z)
def Inv.Qy{σ:St}{s:ϋ}{p:J}{xs ys:List V}{g:List B}{z:Nat}{f:Obj->Obj}(I:Inv X gd σ H s)(h:H p=Z (.lst xs))
  (ho:s.heap.get? p=Z {cls:=.type "list",data:=.seq its.toArray n}) (hf:f {cls:=.type "list",data:=.seq its.toArray n}={cls:=.type "list",data:=.seq g.toArray z}) (r:Vals ys g) (K:ys.length<=pq) (t:Nat):
  Inv X gd σ (upd H p (.lst ys)) {s with heap:=s.heap.update p f,toks:=t}:=by
 have e:(s.heap.update p f).get? p=Z {cls:=.type "list",data:=.seq g.toArray z}:=by
  rw[ui f ho (by rw[hf] <;> rfl),hf]
 exact I.write (x:=p) (e:=p) (by rw[h];trivial) (.inl U) (λb u P q=>(sT _ _ (Ne.symm P)).trans q) (_,e) (K,g,z,r,e)
inductive GJ(o:V)(i:V)(v:V)(H:Hp)(Q:(Hp->Prop)):Prop
 |mk(p xs k j:_)(h1:o=.ref p)(h2:i=.int k)(h3:H p=Z (.lst xs))(h4:ixN xs.length k=Z j)(h5:Q (upd H p (.lst (xs.set j v))))
theorem set_list:RW X GJ:=by
 intro gd s σ H o i v ov iv u Q I K P z h;let(p,xs,k,j,U,U,hp,hj,q):=h;cases K;let(t,U):=P;let(its,n,r,ho,V):=I.lst hp;let(h1,h2,h3,h4):=Cw hj;have hl:=r.length;have hn:=k7;have g :=
  I.Qy hp ho (AU its n j u) (r.set z j) (by rw[Wn];exact V) s.toks
 by_cases h0:0<=k
 ·have hk:=by
   rw[seqIndex_of h0 h4]at h1;exact Option.some.inj h1
  exact W.ki_setAt ho h0 (by lia) (by rw[ri,<- hl];exact h4) (by rw[hk];exact(_,g,q))
 ·have hk:(k+(its.toArray.size)).toNat=j:=by
   rw[seqIndex_neg (by omega) h3]at h1
   rw[ri,<- hl];exact Option.some.inj h1
  exact W.ki_setBack ho (by omega) (by rw[ri,<- hl];exact h3) (by lia) (by rw[hk];exact(_,g,q))
def vN(lo hi:Option Int)(n:Nat):(sliceBounds lo hi Y n).1=((HT.sIx n 0 lo:Nat):Int)/\(sliceBounds lo hi Y n).2.1=((HT.sIx n n hi:Nat):Int)/\(sliceBounds lo hi Y n).2.2=1:=by
 refine(?_,?_,U)
 ·cases lo with
  |none=>simp[sliceBounds,HT.sIx]
  |some i =>
   simp only[sliceBounds,HT.sIx,Yn,show(1:Int) > 0 by decide,if_true]
   by_cases h:i<0
   ·simp only[h,if_true] <;> first|exact HT.F8 _ _ h|omega
   ·simp only[h,if_false] <;> first|exact HT.F7 _ _ h|omega
 ·cases hi with
  |none=>simp[sliceBounds,HT.sIx]
  |some i =>
   simp only[sliceBounds,HT.sIx,Yn,show(1:Int) > 0 by decide,if_true]
   by_cases h:i<0
   ·simp only[h,if_true] <;> first|exact HT.F8 _ _ h|omega
   ·simp only[h,if_false] <;> first|exact HT.F7 _ _ h|omega
def tT(its:List B)(lo hi:Option Int):slicePick its.toArray lo hi Y=((its.drop (HT.sIx its.length 0 lo)).take (HT.sIx its.length its.length hi - HT.sIx its.length 0 lo)).toArray:=by
 let(h1,h2,h3):=vN lo hi its.toArray.size;unfold slicePick;rw[h1,h2,h3];simp only[sliceRange_one,pick_run] <;> rfl
inductive SI(K:BT)(x:V)(lo:Option Int)(hi:Option Int)(H:Hp)(Q:VK):Prop
 |mk(a xs:_)(h1:x=.ref a)(h2:SqL K H a xs)(h3:∀p,H p=Y->Q (.ref p) (upd H p (.lst (mR xs lo hi))))
def BR:SlR X (SI X.K):=by
 intro gd s σ H x v vl vu lo hi sl Q I z hs P pu h;let(a,xs,U,hx,q):=h;cases z;let(its,r,g,V):=I.list hx;have hlen:=r.length;refine("list",_,slot_list_getitem.lookup,g.isList.typeIs,(wpAny_getItem_list_slice g.isList hs P pu .none (by simp) ?_ (by rw[ri] <;> omega)))
 rw[tT,<- hlen];refine(.ref s.heap.objs.size,_,I.laid (λb ob q=>ft _ q) (nY _) ?_,U,q _ (I.hok.fresh (nY _)))
 exact(sR (oF xs lo hi) V,_,0,(r.drop (HT.sIx xs.length 0 lo)).take (HT.sIx xs.length xs.length hi - HT.sIx xs.length 0 lo),px _ U)
def gj:V->Bool
 |.non=>O
 |.bl _=>O
 |.int _=>O
 |.str _=>O
 |_=>ϊ
def eqV:V->V->Bool
 |.non,.non=>O
 |.bl a,.bl b=>a==b
 |.bl a,.int b=>(if a then 1 else 0)==b
 |.int a,.bl b=>a ==(if b then 1 else 0)
 |.int a,.int b=>a==b
 |.str a,.str b=>a==b
 |_,_=>ϊ
def Bo{s:ϋ}{x:V}{v:B}(q:RelV y u)(g:RelV x v)(z:gj y=O)(fx:gj x=O):SeqAt.EqAt A s u v (eqV y x):=by
 cases y with
 |non =>
  cases q;cases x with
  |non=>cases g;exact SeqAt.EqAt.same _
  |bl b=>cases g;exact SeqAt.EqAt.none_bool b
  |int b=>let(t,U):=g;exact SeqAt.EqAt.none_int b t
  |str b=>let(t,U):=g;exact SeqAt.EqAt.none_str b t
  |_=>exact absurd (fx) sQ
 |bl a =>
  cases q;cases x with
  |non=>cases g;exact SeqAt.EqAt.bool_none a
  |bl b=>cases g;exact SeqAt.EqAt.bool_bool a b
  |int b=>let(t,U):=g;exact SeqAt.EqAt.bool_int a b t
  |str b=>let(t,U):=g;exact SeqAt.EqAt.bool_str a b t
  |_=>exact absurd (fx) sQ
 |int a =>
  let(t',U):=q;cases x with
  |non=>cases g;exact SeqAt.EqAt.int_none a t'
  |bl b=>cases g;exact SeqAt.EqAt.int_bool a t' b
  |int b=>let(t,U):=g;exact SeqAt.EqAt.int_int a t' b t
  |str b=>let(t,U):=g;exact SeqAt.EqAt.int_str a t' b t
  |_=>exact absurd (fx) sQ
 |str a =>
  let(t',U):=q;cases x with
  |non=>cases g;exact SeqAt.EqAt.str_none a t'
  |bl b=>cases g;exact SeqAt.EqAt.str_bool a t' b
  |int b=>let(t,U):=g;exact SeqAt.EqAt.str_int a t' b t
  |str b=>let(t,U):=g;exact SeqAt.EqAt.str_str a t' b t
  |_=>exact absurd (fx) sQ
 |_=>exact absurd (z) sQ
def eqU(x:V)(u:B):Bool:=match u with
 |.none=>eqV .non x
 |.bool b=>eqV (.bl b) x
 |.int i _=>eqV (.int i) x
 |.str z _=>eqV (.str z) x
 |_=>ϊ
def Jo{x:V}(r:RelV y u)(f:gj y=O):eqU x u=eqV y x:=by
 cases y with
 |non=>cases r;rfl
 |bl b=>cases r;rfl
 |int i=>let(t,U):=r;rfl
 |str z=>let(t,U):=r;rfl
 |_=>exact absurd (f) sQ
theorem mW{x:V}:∀{xs:List V}{us:List B},Vals xs us->xs.all gj=O->us.any (eqU x)=xs.any λy=>eqV y x
 |_,_,.nil,_=>rfl
 |y::xs,u::us,.cons r t,f=>by
  rw[List.all_cons,sU]at f;rw[WB,WB,Jo r f.1,mW t f.2]
theorem jA{A:Db}{s:ϋ}{x:V}{v:B}(q:RelV x v)(fx:gj x=O):∀{xs:List V}{us:List B},Vals xs us->xs.all gj=O->∀u∈us,SeqAt.EqAt A s u v (eqU x u)
 |_,_,.nil,_=>λu g=>by cases g
 |y::xs,u::us,.cons r t,f=>λu' g=>by
  rw[List.all_cons,sU]at f;obtain rfl|g:=ot.mp g
  ·rw[Jo r f.1];exact Bo r q f.1 fx
  ·exact jA q fx t f.2 u' g
def inV(x:V)(xs:List V):Bool:=xs.any λy=>eqV y x
inductive rIn(K:BT)(neg:Bool)(x:V)(y:V)(H:Hp)(Q:VK):Prop
 |mk(p xs:_)(h1:y=.ref p)(h2:(SqL K H p xs\/SqT K H p xs))(h3:gj x=O)(h4:xs.all gj=O)(h5:Q (.bl (if neg then !inV x xs else inV x xs)) H)
def Ed:OpR X (compareOp .In) (rIn X.K ϊ):=by
 intro gd s σ H x y v u Q I z P h;let(p,xs,U,hq,fx,fs,q):=h;cases P;obtain hq|hq:=hq
 ·let(its,r,g,V):=I.list hq;refine SeqAt.in_listAt (eqU x) g.isList (λw hw=>jA z fx r fs w (by simpa using hw)) (.bl _,H,I,U,?_)
  rw[show its.toArray.any (eqU x)=its.any (eqU x)by simp,mW r fs]
  exact q
 ·let(its,r,g,V):=I.tuple hq;refine SeqAt.in_tupleAt (eqU x) g (λw hw=>jA z fx r fs w (by simpa using hw)) (.bl _,H,I,U,?_)
  rw[show its.toArray.any (eqU x)=its.any (eqU x)by simp,mW r fs]
  exact q
def wx:OpR X (compareOp .NotIn) (rIn X.K O):=by
 intro gd s σ H x y v u Q I z P h;let(p,xs,U,hq,fx,fs,q):=h;cases P;obtain hq|hq:=hq
 ·let(its,r,g,V):=I.list hq;refine SeqAt.notIn_listAt (eqU x) g.isList (λw hw=>jA z fx r fs w (by simpa using hw)) (.bl _,H,I,U,?_)
  rw[show its.toArray.any (eqU x)=its.any (eqU x)by simp,mW r fs]
  exact q
 ·let(its,r,g,V):=I.tuple hq;refine SeqAt.notIn_tupleAt (eqU x) g (λw hw=>jA z fx r fs w (by simpa using hw)) (.bl _,H,I,U,?_)
  rw[show its.toArray.any (eqU x)=its.any (eqU x)by simp,mW r fs]
  exact q
def mU:bY X (.builtin "len") (λxs H Q=>∃p ys,xs=[.ref p]/\(SqL X.K H p ys\/SqT X.K H p ys)/\Q (.int ys.length) H):=by
 intro gd s σ H xs us Q I r h;let(p,ys,U,hq,q):=h;let(u,U,P):=vals1 r;cases P;have hn:=k7;obtain hq|hq:=hq
 ·let(its,g,z,V):=I.list hq;have hlen:=g.length;exact Calls.call_len_list z.isList (by rw[ri,<- hlen];exact yP (by assumption)) (.int ys.length,H,I.tok _,(s.toks+1,by rw[ri,hlen]),q)
 ·let(its,g,z,V):=I.tuple hq;have hlen:=g.length;exact len_tuple z (by rw[ri,<- hlen];exact yP (by assumption)) (.int ys.length,H,I.tok _,(s.toks+1,by rw[ri,hlen]),q)
def xh:bY X (.builtin "len") (λxs H Q=>∃z,xs=[.str z]/\z.length<=pq/\Q (.int z.length) H):=by
 intro gd s σ H xs us Q I r h;let(z,U,g,q):=h;let(u,U,t,U):=vals1 r;have hn:=k7;exact len_str (by lia) (.int z.length,H,I.tok _,(_,U),q)
def bY.or{f:B}{g:List V->Hp->VK->Prop}(h:bY X f r)(h':bY X f g):bY X f (λxs H Q=>r xs H Q\/g xs H Q):=by
 intro gd s σ H xs us Q I rs q;obtain q|q:=q
 ·exact h gd s σ H xs us Q I rs q
 ·exact h' gd s σ H xs us Q I rs q
def xg:bY X (.type "list") (λxs H Q=>∃p ys,xs=[.ref p]/\(SqL X.K H p ys\/SqT X.K H p ys)/\∀l,H l=Y->Q (.ref l) (upd H l (.lst ys))):=by
 intro gd s σ H xs us Q I r h;let(p,ys,U,hq,q):=h;let(u,U,rx):=vals1 r;cases rx;have fin:∀its,Vals ys its->ys.length<=pq->∀h' P,(∀b o',s.heap.get? b=Z o'->h'.get? b=Z o') ->
   h'.get? s.heap.objs.size=Z {cls:=.type "list",dict:=Y,data:=.seq its.toArray P,slots:=#[]}->EP X gd σ Q (.ref s.heap.objs.size) {s with heap:=h'}:=λits g z h' P kp e =>
  (.ref s.heap.objs.size,_,I.laid kp (nY _) (show bJ X.prog X.w _ h' _ (.lst ys)from(z,its,P,g,e)),U,q _ (I.hok.fresh (nY _)))
 obtain hq|hq:=hq
 ·let(its,g,V,z):=I.list hq;have hlen:=g.length;let(o,ho,hc,n,hd):=V.isList;exact call_list_seq p (.inl U) ho hc hd (λh' P kp e=>fin its g z h' P kp e) (by rw[ri,<- hlen];exact z)
 ·let(its,g,V,z):=I.tuple hq;have hlen:=g.length;let(o,ho,hc,n,hd):=V;exact call_list_seq p (.inr U) ho hc hd (λh' P kp e=>fin its g z h' P kp e) (by rw[ri,<- hlen];exact z)
def ur:bY X (.type "tuple") (λxs H Q=>∃p ys,xs=[.ref p]/\((SqL X.K H p ys/\∀l,H l=Y->Q (.ref l) (upd H l (.tup ys)))\/(SqT X.K H p ys/\Q (.ref p) H))):=by
 intro gd s σ H xs us Q I r h;let(p,ys,U,h):=h;let(u,U,rx):=vals1 r;cases rx;obtain⟨hq,q⟩|⟨hq,q⟩:=h
 ·let(its,g,z,P):=I.list hq;have hlen:=g.length;refine call_tuple_list z.isList (λh' kp=>?_) (by rw[ri,<- hlen];exact P)
  have V:=I.kept (t':=s.toks) kp;have I2 :=
   V.laid (t':=s.toks) (λb o e=>ft _ e) (nY _) (show bJ X.prog X.w _ _ _ (.tup ys)from(P,its,g,jQ.new _ _))
  exact(.ref h'.objs.size,_,I2,U,q _ (V.hok.fresh (nY _)))
 ·let(its,g,z,P):=I.tuple hq;exact call_tuple_same z (.ref p,H,I,U,q)
def tyV(K:BT)(T:String)(x:V)(H:Hp):Prop:=match x with
 |.str _=>T="str"
 |.int _=>T="int"
 |.ref p=>(T="list" /\ ∃xs,SqL K H p xs)\/(T="tuple" /\ ∃o,K.lookup p=Z o/\o.cls=.type "tuple" /\ o.dict=Y) \/
   (T="dict" /\ ((∃kvs,H p=Z (.dK kvs))\/∃kvs,H p=Z (.dT kvs)))\/(T="set" /\ ∃S n,H p=Z (.set S n))
 |_=>False
def FN{σ:St}{s:ϋ}{T:String}{x:V}{v:B}(I:Inv X gd σ H s)(r:RelV x v)(ty:tyV X.K T x H):
  s.TypeIs v T/\∀a,v=.ref a->∃ob,s.heap.get? a=Z ob/\ob.dict=none:=by
 cases x with
 |str z =>
  let(t,U):=r
  cases(ty)
  exact(typeIs_str s z t,λ_ e=>nomatch e)
 |int i =>
  let(t,U):=r
  cases(ty)
  exact(typeIs_int s i t,λ_ e=>nomatch e)
 |ref p =>
  cases r;obtain⟨rfl,xs,hq⟩|⟨rfl,o,hk,P,hd⟩|⟨rfl,hk⟩|⟨rfl,S,n,hk⟩:=ty
  ·let(its,_,q,_):=I.list hq;refine(q.isList.typeIs,λa e=>?_)
   cases e;let(o,n,e,c,hd,_):=q;exact(o,e,hd)
  ·refine((o,I.kIn p o hk,P),λa e=>?_)
   cases e;exact(o,I.kIn _ o hk,hd)
  ·have z:∃o,s.heap.get? p=Z o/\o.ExactDict:=by
    obtain⟨kvs,hk⟩|⟨kvs,hk⟩:=hk
    ·let(_,_,_,_,o,_,_,e,ex,_):=I.hok p _ hk;exact(o,e,ex)
    ·let(_,_,_,_,o,_,_,e,ex,_):=I.hok p _ hk;exact(o,e,ex)
   let(o,e,ex):=z;refine((o,e,ex.1),λa g=>?_)
   cases g;exact(o,e,ex.2.1)
  ·let(o,_,_,_,e,ex,_):=I.hok p _ hk;refine((o,e,ex.1),λa g=>?_)
   cases g;exact(o,e,ex.2.1)
 |_=>exact False.elim ty
def O7(K:BT)(T:String)(r:V->List V->Hp->VK->Prop)(to:TE):TE:=λσ H Q=>to σ H λx H1=>tyV K T x H1/\r x [] H1 Q
def tBM(K:BT)(T:String)(r:V->List V->Hp->VK->Prop)(to:TE)(t:TA):TE:=λσ H Q=>to σ H λx H1=>tyV K T x H1/\t σ H1 λxs H2=>r x xs H2 Q
variable{o e:Ev}{es:List Ev}{to:TE}{t:TA}{name:Str}{apos aS:Pos}{T id:String}{r:V->List V->Hp->VK->Prop}
def HW(pa:PlainAttrs T)(slot:Slot T name id)(g:typeOf (.builtin id)=pure (.type "method_descriptor"))(hm:MtR X id r)(ho:PE X o to)
  (cE:‹attributeBase o name X.env (eval o X.env)=eval o X.env›) (cD:‹(apos.endLine==aS.line)=true›):PE X (.Call (.Attribute o name apos) [] [] aS) (O7 X.K T r to):=by
 left;refine wpAny_Call_method0_late cE cD (thn (ho gd s σ H _ I h) λv s1 q=>?_)
 let(x,H1,P,z,ty,V):=q;let(h1,h2):=FN P z ty;exact(T,id,pa,slot,g,h1,h2,Calls.callWith_builtin U (PySem.evalArgs_none (hm gd s1 σ H1 x [] v [] Q P z .nil V)))
def Ci(pa:PlainAttrs T)(slot:Slot T name id)(g:typeOf (.builtin id)=pure (.type "method_descriptor"))(hm:MtR X id r)(ho:PE X o to)(ha:PA X (e::es) t)
  (cE:‹attributeBase o name X.env (eval o X.env)=eval o X.env›)
  (nR:‹((backTo aS (m4 (e::es) X.env)).all (λx=>!x.1)&&(backToKw aS (keywordEach [] X.env)).all (λx=>x.1.isSome)
   && decide ((e::es).length+([]:List Keyword).length+(if([]:List Keyword).isEmpty then 0 else 1)<30))=true›)
  (cD:‹(apos.endLine==aS.line)=true›) (hs:‹AC X e es›) (eO:‹AM X aS es›):
  PE X (.Call (.Attribute o name apos) (e::es) [] aS) (tBM X.K T r to t):=by
 left;refine wpAny_Call_method_late cE nR cD U (thn (ho gd s σ H _ I h) λv s1 q=>?_)
 let(x,H1,V,z,ty,q1):=q;let(h1,h2):=FN V z ty;refine(T,id,pa,slot,g,h1,h2,?_);have P:=ha aS gd s1 σ H1 _ V q1;rw[hs]at P ⊢;exact Calls.callWith_builtin (by show(ϊ ||(backTo aS (m4 es X.env)).any (·.1))=ϊ;rw[eO] <;> rfl) (Calls.evalArgs_plain (thn P λus s2 (vs,H2,I2,r2,q2)=>hm gd s2 σ H2 x vs v us Q I2 z r2 q2))
end
def MtM(X:Cx)(id:String)(r:V->List V->Hp->VK->Prop):Prop :=
 ∀(gd:List (J×Obj))(s:ϋ)(σ:St)(H:Hp)(x:V)(xs:List V)(v:B)(us:List B)(Q:VK),Inv X gd σ H s->RelV x v->Vals xs us->r x xs H Q ->
  Zc X (call (.builtin id) (v::us)) (EP X gd σ Q) X.xe s
def Vals.one:∀{x:V}{us:List B},Vals [x] us->∃u,us=[u]/\RelV x u:=by
 intro x us h;cases h with
 |cons r t=>cases t;exact(_,U,r)
theorem Vals.zero:∀{us:List B},Vals [] us->us=[]
 |_,.nil=>rfl
theorem Vals.dropLast{xs:List V}{us:List B}(h:Vals xs us):Vals xs.dropLast us.dropLast:=by
 induction h with
 |nil=>exact .nil
 |cons r t g =>
  cases t with
  |nil=>exact .nil
  |cons q t'=>exact .cons r g
theorem Vals.reverse{xs:List V}{us:List B}(h:Vals xs us):Vals xs.reverse us.reverse:=by
 induction h with
 |nil=>exact .nil
 |cons r t g=>rw[W8,W8];exact Vals.append g (.cons r .nil)
def Bn{α:Type}(l:List α):l.eraseIdx (l.length - 1)=l.dropLast:=by
 induction l with
 |nil=>rfl
 |cons a r g =>
  cases r with
  |nil=>rfl
  |cons b r =>
   have e:(a::b::r).length - 1=((b::r).length - 1)+1:=by
    rfl
   rw[e,List.eraseIdx_cons_succ,g]
   all_goals rfl
variable{t':Nat}
section
variable{X:Cx}{σ:St}{s:ϋ}{l:J}{xs ys:List V}
def Inv.Qz{g:List B}{f:Array B->Array B}{t':Nat}(I:Inv X gd σ H s)(Q:H l=Z (.lst xs))
  (e:s.heap.get? l=Z {cls:=.type "list",data:=.seq its.toArray n}) (hf:f its.toArray=g.toArray) (hv:Vals ys g) (z:ys.length<=pq):
  Inv X gd σ (upd H l (.lst ys)) {s with heap:=s.heap.update l (QG f),toks:=t'}:=by
 have q:=PySem.IsL.update e f;rw[hf]at q;exact I.write (x:=l) (e:=l) (by rw[Q];exact trivial) (.inl U) (λb' u P K=>(sT s.heap (QG f) (Ne.symm P)).trans K) (_,q) (z,g,_,hv,q)
def Inv.Vq(I:Inv X gd σ H s)(hv:Vals ys its)(g:ys.length<=pq):
  Inv X gd σ (upd H s.heap.objs.size (.lst ys)) {s with heap:=s.heap.push {cls:=.type "list",data:=.seq its.toArray},toks:=t'} :=
 I.laid (λ_ _ q=>ft _ q) (nY _) (g,its,0,hv,px _ U)
theorem Inv.fresh(I:Inv X gd σ H s):H s.heap.objs.size=none:=I.hok.fresh (nY _)
def Inv.Er(I:Inv X gd σ H s)(g:H l=Z (.lst xs)):xs.length<=pq/\∃(its:List B)(n:Nat),Vals xs its/\xs.length=its.length/\s.heap.get? l=Z {cls:=.type "list",data:=.seq its.toArray n}:=by
 let(z,its,n,r,e):=I.hok l _ g;exact(z,its,n,r,r.length,e)
def Ip(h:n<=pq):Builtin.List.listTooLong n=false:=by
 exact decide_eq_false (by lia)
end
section
variable{X:Cx}
inductive pJ(x:V)(vs:List V)(H:Hp)(Q:VK):Prop
 |mk(l xs y:_)(h1:x=.ref l)(h2:vs=[y])(h3:H l=Z (.lst xs))(h4:xs.length<pq)(h5:Q .non (upd H l (.lst (xs ++ [y]))))
theorem Eo:MtM X "list.append" pJ:=by
 intro gd s σ H x vs v us Q I K P h;let(l,xs,y,U,U,g,V,q):=h;cases K;let(u,U,ru):=P.one;let(z,its,n,r,hl,e):=I.Er g;refine call_meets F.slot_list_append (_,e,U) F.entry_list_append (F.args_list_append_2 _ _) (PySem.list_append l its.toArray n u (by rw[ri];lia)) (e,?_)
 refine(.non,_,I.Qz g e (by simp) (r.append (.cons ru .nil)) ?_,U,q)
 rw[iQ,v5]
 lia
inductive pI(x:V)(vs:List V)(H:Hp)(Q:VK):Prop
 |mk(l b xs zs:_)(h1:x=.ref l)(h2:vs=[.ref b])(h3:H l=Z (.lst xs))(h4:H b=Z (.lst zs))(h5:xs.length+zs.length<=pq)(h6:Q .non (upd H l (.lst (xs++zs))))
theorem En:MtM X "list.extend" pI:=by
 intro gd s σ H x vs v us Q I P V h;let(l,b,xs,zs,U,U,K,hB,hz,q):=h;cases P;let(u,U,ru):=V.one;cases ru;let(z,its,n,r,hl,e):=I.Er K;let(z2,g,n2,r2,ak,e2):=I.Er hB;have hsz:its.toArray.size+g.toArray.size<=pq:=by rw[ri,ri];lia
 have Ug:¬(!its.toArray.isEmpty&&Builtin.List.listTooLong (its.toArray.size+g.toArray.size))=true:=by
  rw[Ip hsz,XW];exact sQ
 refine call_meets F.slot_list_extend (_,e,U) F.entry_list_extend (F.args_list_extend_2 _ _)
  (AutoSeq1.list_extend_list_list_0 l its.toArray n b g.toArray n2 Ug (by rw[ri];lia) (by lia)) (e,e2,?_)
 refine(.non,_,I.Qz K e (by simp) (r.append r2) ?_,U,q)
 rw[iQ];omega
inductive Po(x:V)(vs:List V)(H:Hp)(Q:VK):Prop
 |mk(l xs y:_)(h1:x=.ref l)(h2:vs=[])(h3:H l=Z (.lst xs))(h4:xs[xs.length - 1]?=Z y)(h5:Q y (upd H l (.lst xs.dropLast)))
theorem Iw:MtM X "list.pop" Po:=by
 intro gd s σ H x vs v us Q I V rv h;let(l,xs,y,U,U,P,hy,q):=h;cases V;have K:=rv.zero;subst K;let(z,its,n,r,hl,e):=I.Er P;let(u,hu,ru):=r.get hy;have g:=by
  show its.toArray[its.length - 1]?=Z u;rw[<- XS,<- hl];exact hu
 refine call_meets F.slot_list_pop (_,e,U) F.entry_list_pop (F.args_list_pop_1 _) (MeetsSeq.list_pop_last l its.toArray n u g (by rw[ri];lia)) (e,?_)
 refine(y,_,I.Qz P e ?_ r.dropLast ?_,ru,q)
 ·rw[ri,List.eraseIdxIfInBounds_toArray,Bn]
 ·rw[List.length_dropLast]
  lia
inductive SU(x:V)(y:V)(H:Hp)(Q:VK):Prop
 |mk(l b xs zs:_)(h1:x=.ref l)(h2:y=.ref b)(h3:H l=Z (.lst xs))(h4:H b=Z (.lst zs))(h5:xs.length+zs.length<=pq)(h6:∀p,H p=Y->Q (.ref p) (upd H p (.lst (xs++zs))))
def Qq:OpR X (binaryOp .Add) SU:=by
 intro gd s σ H x y v u Q I V K h;let(l,b,xs,zs,U,U,hH,hB,hz,q):=h;cases V;cases K;let(z,its,n,r,hl,e):=I.Er hH;let(z2,g,n2,r2,ak,e2):=I.Er hB;refine PySem.P.add_list e e2 ?_ (by rw[ri,ri];omega)
 have ea:its.toArray++g.toArray=(its++g).toArray:=by simp
 rw[ea];exact(.ref _,_,I.Vq (r.append r2) (by rw[iQ];omega),U,q _ I.fresh)
end
end L2
namespace Att
open PySem PySem.W PySem.Calls PyProof.Rows
def oW{P:Params}{h:Do}:∀(ns:List Int)(vs:List B),WellAll P h vs (ns.map WData.int)->IntsAre vs ns:=by
 intro ns
 induction ns with
 |nil =>
  intro vs w;cases w;exact .nil
 |cons n ns g =>
  intro vs w;cases w with
  |cons a b =>
   cases a;exact .cons _ _ (g _ b)
def DQ{l:OpenLaw}{n:Nat}(hn:l.most=Z n){P:Params}{h:Do}{args:List WData}{vals:List B}
  (hpre:l.row.toRowW.claim.pre args=O) (g:WellAll P h vals args):
  ∃a vs ns,vals=[B.ref a]/\args=[WData.list (ns.map WData.int)]/\h.get? a=Z {cls:=.type "list",data:=.seq vs.toArray}/\IntsAre vs ns/\ns.length<=n:=by
 have q:WShape.hasAll [] args [.list .int]=true:=(pre_splitW hpre).1;have Q:l.pre.holds [] {args:=args}=true:=(pre_splitW hpre).2;let(d,r,U,h1,h2):=hasAllW_cons q;obtain rfl:=hasAllW_nil h2;let(xs,U,h3):=hasW_list h1;let(ns,U):=items_int h3;have hlen:=by
  have h4:=by
   have h4:=(holds_andW Q).1;rw[hn]at h4;exact h4
  have h5:=condW_of h4 (w_not (w_lt w_lit (w_len_list (w_arg U))))
  first
   | (exact absurd h5 (by decide))
   | (simp at h5;omega)
 cases g with
 |cons K z =>
  cases z;cases K with
  |list ho V=>exact(_,_,ns,U,U,ho,oW ns _ V,hlen)
def D7(l:OpenLaw)(args:List WData):l.row.toRowW.claim.post args (.bool O) args=true :=
 postW_of
  (by rfl)
  (w_eq_bool (w_res U) w_lit) U
def ze{l:OpenLaw}{n:Nat}{q:Da}{loose:List Str}{XP:(Str->Option B)->Do->Prop}{V:Cl->Do->Prop}{d:DefRec}
  (hn:l.most=Z n) (K:d.params.defaults=[])
  (call:∀(w:Cl)(s₀ g:ϋ)(mg mb:Str->Option B)(fa:J)(o:Obj)(pm cd doc:B)(a:J)(vs:List B)(ns:List Int),
   Ground q loose [] XP w s₀ mg mb g.heap->V w g.heap ->
   g.heap.get? fa=Z o->o.data=.func (docDef d.name d.params d.body d.scope pm cd doc)->g.heap.CodeRec cd d.name->mg d.name=Z (.ref fa) ->
   g.heap.get? a=Z {cls:=.type "list",data:=.seq vs.toArray}->IntsAre vs ns->ns.length<=n->g.gens=#[] ->
   codeAny (model l.prog w) callerA (.call (.ref fa) ([.ref a],[])) (λr s'=>r=.ok (.ret (.bool O))/\OldK g.heap s'.heap/\s'.os=g.os/\AllBare s'.gens) g):
  WalkO q loose XP V l.row.toRowW d [] (λf vs=>PySem.call f vs):=by
 intro w s₀ g mg mb G Yw fa o pm cd doc dV kV ho hd P Q hmg hg args vals as hpre Wa ak z ar;obtain rfl:=Dflts.none Q K;obtain rfl:=Dflts.noKw Q;let(a,vs,ns,U,U,Rt,hints,hlen):=DQ hn hpre z;refine enter_call (codeAny_mono (call w s₀ g mg mb fa o pm cd doc a vs ns G Yw ho (fd_plain hd) P hmg Rt hints hlen hg) λr s' hq=>?_)
 let(U,h2,h3,h4):=hq;exact(.inl (.bool O,.bool O,[],U,λ_=>rfl,.bool O,D7 l _,λ_=>(List.Pairwise.nil,λ_ hm=>(nomatch hm))),h2,h3,h4)
section
def ledger(h:Do)(L d:J):List (J×Obj):=(Fh h.objs.size).filterMap λa=>if a=L\/a=d then Y else(h.get? a).map λo=>(a,o)
end
end Att
namespace L2
open PySem PySem.Spec PyProof.Rows
variable{ns:List Int}
def DB{vs:List B}(h:IntsAre vs ns):Vals (ns.map V.int) vs:=by
 induction h with
 |nil=>exact .nil
 |cons n t _ g=>exact .cons (t,U) g
def Nw(H:Hp):Prop:=∀b,H b=Y\/∃o xs,H b=Z (.frz o (.lst xs))
variable{mg:Str->Option B}{a:J}{x:Str}
theorem IF{P:Da}{w:Cl}{K:BT}{mb:Str->Option B}{CX:CXT}{k:Nat}{fa:J}{fd:Ch}{sp:Sp}{g:ϋ}{vs:List B}
  (KX:K.In g.heap) (ar:g.heap.Ns mainGlobals mg) (Q:g.heap.Ns builtinsNs mb) (aS:∀x:Str,x ≠ "__name__"->mb x=bootBuiltins x) (VI:g.heap.NoLimit) (hg:g.gens=#[])
  (ha:g.heap.get? a=Z {cls:=.type "list",data:=.seq vs.toArray}) (hi:IntsAre vs ns) (hl:ns.length<=pq) (hr:cK k callerA)
  (F:∀base:Do,K.In base->base.Ns mainGlobals mg->bf P w K mg base CX k fa fd [x] sp) (Uq:∀(s:ϋ)(u:B),BindsTo s fd ([u],[]) [(x,u)])
  (aP:∀H:Hp,Nw H->SqL K H a (ns.map V.int)->sp [.ref a] H (λv _=>v=.bl O) λ_ _ _=>False)
  (aT:∀H e s',CX [] H g (λ_ _ _=>False) e s'->False):
  codeAny (model P w) callerA (.call (.ref fa) ([.ref a],[])) (λr s'=>r=.ok (.ret (.bool O))/\OldK g.heap s'.heap/\s'.os=g.os/\AllBare s'.gens) g:=by
 have rv:=DB hi;have Vs:=hi.length;have core:∀H,Nw H->SqL K H a (ns.map V.int)->HOk P w H g.heap->(∀b,H b≠Y->b=a)->(H a≠Y->K.lookup a=Y) ->
   codeAny (model P w) callerA (.call (.ref fa) ([.ref a],[])) (λr s'=>r=.ok (.ret (.bool O))/\OldK g.heap s'.heap/\s'.os=g.os/\AllBare s'.gens) g:=by
  intro H hO hS hok hA hK;have C0:∀{b:J}{o:Obj},g.heap.get? b=Z o->H b=Y->(yI g.heap H).get? b=Z o:=λe n=>Jc e n
  have aN:∀{b:J}{o:Obj}{es:Array DictEntry}{ep:Nat},g.heap.get? b=Z o->o.data=.dict es ep->H b=none:=λ{b o es ep} e d=>by
   cases q:H b with
   |none=>rfl
   |some u =>
    have e':=hA b (by rw[q];simp)
    subst e';rw[ha]at e;cases e;have d':=d;cases d'
  have ak:∀{b:J}{m:Str->Option B},g.heap.Ns b m->(yI g.heap H).Ns b m:=λ{b m} (o,es,ep,e,d,r)=>(o,es,ep,C0 e (aN e d),d,r)
  have aA:=λb o e=>C0 (KX b o e) (by
   cases q:H b with
   |none=>rfl
   |some u =>
    have e':=hA b (by rw[q];simp)
    subst e';rw[hK (by rw[q];simp)]at e;cases e)
  have hM:Mod K mg (yI g.heap H):=(aA,ak ar,(mb,ak Q,aS),let(mc,h1,h2):=VI;(mc,ak h1,h2))
  have e0:zr P w K mg (yI g.heap H) callerA [] g H:=(U,hM,λb o e=>MB e,XJ (EG _ _),trivial,λb Q=>absurd (show b∈([])from Q) (by simp),hok,.of_eq hg)
  refine codeAny_mono ((F _ aA (ak ar)).run callerA [] g H ([.ref a],[]) [.ref a] [.ref a] _ _ hr e0 (Uq g (.ref a)) (.cons U .nil) (aP H hO hS)) λr s' h=>?_
  cases r with
  |error e=>exact(aT H e s' h).elim
  |ok fl =>
   cases fl with
   |next=>exact False.elim h
   |brk=>exact False.elim h
   |cont=>exact False.elim h
   |ret u =>
    let(v,H',os,bare,un,VE,r',q):=h;have q':=q;subst q';obtain rfl:=r';refine(U,OldK.of_keep λb o e=>?_,os,bare)
    cases q:H b with
    |none=>exact un.keep b o e q (by intro z;exact absurd (show b∈([])from z) (by simp)) (by simp)
    |some u =>
     obtain z |⟨ob,xs,z⟩:=hO b
     ·rw[q]at z;cases z
     ·have z2:=un.jd b ob _ z;let(e1,_):=hok b _ z;let(e2,_):=VE b _ z2;rw[e]at e1;cases e1;exact e2
 cases hk:K.lookup a with
 |some o =>
  have e:=KX a o hk;rw[ha]at e;cases e;refine core (λ_=>Y) (λ_=>.inl U) (.inr (_,vs.toArray,_,hk,U,U,U,by rw[ri,Vs];exact hl,by simpa using rv)) (λb u z=>by have z':=z;cases z') (λb z=>absurd U z) λz=>absurd U z
 |none =>
  refine core (λb=>if b=a then Z (.frz {cls:=.type "list",data:=.seq vs.toArray} (.lst (ns.map V.int)))else Y) (λb=>?_) (.inl (.inr ({cls:=.type "list",data:=.seq vs.toArray},if_pos U))) (λb u z=>?_) (λb z=>?_) λ_=>hk
  ·by_cases Q:b=a
   ·exact .inr (_,_,if_pos Q)
   ·exact .inl (if_neg Q)
  ·by_cases Q:b=a
   ·have z':=(if_pos Q).symm.trans z;cases z';subst Q;exact(ha,by rw[dN];exact hl,vs,_,rv,ha)
   ·have z':=(if_neg Q).symm.trans z;cases z'
  ·by_cases Q:b=a
   ·exact Q
   ·exact absurd (if_neg Q) z
variable{n:Nat}
theorem KA{l:W.OpenLaw}{k:Nat}{q:Da}{loose:List Str}{XP:(Str->Option B)->Do->Prop}{YP:Cl->Do->Prop}{d:DefRec}{K:Params->BT}{CX:Cl->CXT}{sp:Cl->Sp}
  (hn:l.most=Z n) (Q:n<=pq) (ak:d.params.defaults=[]) (hr:cK k callerA)
  (hY:∀(w:Cl)(h:Do),YP w h->(K w.params).In h)
  (F:∀(w:Cl)(mg:Str->Option B)(fa:J)(h:Do),(K w.params).In h->h.Ns mainGlobals mg->mg d.name=Z (.ref fa) ->
   ∃fd:Ch,(∀(s:ϋ)(u:B),BindsTo s fd ([u],[]) [(x,u)]) /\
    ∀base:Do,(K w.params).In base->base.Ns mainGlobals mg->bf l.prog w (K w.params) mg base (CX w) k fa fd [x] (sp w))
  (P:∀(w:Cl)(H:Hp)(a:J)(ns:List Int),ns.length<=n->Nw H->SqL (K w.params) H a (ns.map V.int)->sp w [.ref a] H (λv _=>v=.bl O) λ_ _ _=>False)
  (ar:∀(w:Cl)(H:Hp)(s:ϋ)(e:B)(s':ϋ),CX w [] H s (λ_ _ _=>False) e s'->False):
  W.WalkO q loose XP YP l.row.toRowW d [] (λf vs=>PySem.call f vs):=by
 refine Att.ze hn ak λw s₀ z mg mb fa o pm cd doc a vs ns G Yw ho hd aA hmg Rt hints hlen hg=>?_
 have KX:=hY w _ Yw;let(fd,hb,hF):=F w mg fa _ KX G.T.g hmg;exact IF KX G.T.g G.T.b G.T.builtins G.T.nolimit hg Rt hints (sR hlen Q) hr hF hb (λH hO hS=>P w H a ns hlen hO hS) λH e s'=>ar w H z e s'
def inClass(s:EQ)(j:Nat):EQ:=match s with
 |.ClassDef _ _ _ body _ _ _ _ _ _ _=>body.getD j (.Pass (0,0,0,0))
 |_=>.Pass (0,0,0,0)
def dE(s:EQ):Arguments:=match s with
 |.FunctionDef _ a _ _ _ _ _ _ _ _=>a
 |_=>{posonlyargs:=[],args:=[],vararg:=Y,kwonlyargs:=[],kw_defaults:=[],kwarg:=Y,defaults:=[]}
def bP(s:EQ):List EQ:=match s with
 |.FunctionDef _ _ b _ _ _ _ _ _ _=>b
 |_=>[]
def aw(s:EQ):Scope:=match s with
 |.FunctionDef _ _ _ _ _ _ sc _ _ _=>sc
 |_=>{kind:=.function,names:=[],isGenerator:=ϊ,isCoroutine:=ϊ}
abbrev CX0:CXT:=λ_ _ _ _ _ _=>False
abbrev E0:XK:=λ_ _ _=>False
variable{X:Cx}
def HX:Passes CX0 X E0:=λ_ _ _ _ _ _ _ h=>h.elim
structure Fun(K:BT)(x qual:Str)(st:EQ)(f:J)(fd:Ch):Prop where
 ex:∃(oc:B)(od:Option J)(kV doc pm:B)(an:Option J)(cdv ct:B)(osl:Array (Option B)),
  fd=W.fnOf x qual (dE st) (bP st) (aw st) .none kV doc pm an cdv ct/\K.lookup f=Z (oc,od,.func fd,osl)/\W.codeIn K cdv qual=O
 kp:W.keepIn K (.ref f)=O
variable{qual:Str}{st:EQ}{fd:Ch}{N:List Str}{ps:List Str}{sp:Sp}{oc:B}{od:Option J}{an:Option J}{pm:B}{ct:B}
section
variable{P:Da}{w:Cl}{K:BT}{base:Do}
theorem Fun.ok{f:J}{k:Nat}(F:Fun K x qual st f fd)(S:aG N ps (aw st))(len:∀vs H Q E,sp vs H Q E->vs.length=ps.length)
  (jH:∀(cdv:B)(A:Db)(outer:List Env)(s:ϋ)(H:Hp)(vs:List V)(Q:VK)(E:XK),cK k (A.deeper (envOfC qual (aw st) s.heap.objs.size f cdv))->sp vs H Q E ->
   ∃t,PSs (nS CX0 P w K mg base N qual (aw st) f cdv A outer s H E).nox (bP st) t/\t {nx:=λ_ H'=>Q .non H',rt:=Q} (start N vs) H):bf P w K mg base CX0 (k+1) f fd ps sp:=by
 let(oc,od,kV,doc,pm,an,cdv,ct,osl,U,lk,z):=F.ex;refine Ow lk z S len λA outer s H vs Q E hr g=>?_
 let(t,h,q):=jH cdv A outer s H vs Q E hr g;exact(t,h.nox,q)
theorem Fun.binds{f:J}(F:Fun K x qual st f fd)
  (h:∀(kV doc pm:B)(an:Option J)(cdv ct:B)(us:List B),us.length=ps.length->bindArgs (W.fnOf x qual (dE st) (bP st) (aw st) .none kV doc pm an cdv ct) (us,[])=pure (ps.zip us)):Binds K fd ps []:=by
 let(oc,od,kV,doc,pm,an,cdv,ct,osl,U,lk,g):=F.ex;exact .all (h kV doc pm an cdv ct)
theorem lg{f:J}{osl:Array (Option B)}{kV doc cdv:B}(l:K.lookup f=Z (oc,od,.func (W.fnOf x qual (dE st) (bP st) (aw st) .none kV doc pm an cdv ct),osl))
  (c:W.codeIn K cdv qual=O) (k:W.keepIn K (.ref f)=O):Fun K x qual st f (W.fnOf x qual (dE st) (bP st) (aw st) .none kV doc pm an cdv ct):=((oc,od,kV,doc,pm,an,cdv,ct,osl,U,l,c),k)
end
variable{A:Db}
def bB{k:Nat}(hr:cK k A):A.units+1<cLine:=V8 (Xl (by decide) _) hr.units
def aD(h:n<=1000):n<pq:=V8 h (by decide)
section
def pv(i:Nat){pos:Pos}(q:‹X.N[i]?=Z x›)(hv:Vis X.env.scope x:=by first|exact Or.inl rfl|exact Or.inr (Or.inl U)|exact Or.inr (Or.inr U))(hd:autoParam (AS x) zdc._auto_1)
  (g:autoParam ((x ==("__classdict__":Str))=false) zdc._auto_1):PE X (.Name x pos) (bZ i):=HL q hv hd g
end
def Vz{A Yx:Prop}(h:Yx):if ϊ=O then A else Yx:=by
 exact h
def aE{c A Yx:Prop}[Decidable c](h1:c->A)(h2:¬ c->Yx):if c then A else Yx:=by
 by_cases h:c
 ·rw[if_pos h];exact h1 h
 ·rw[if_neg h];exact h2 h
def lC(H H':Hp):Prop:=∀b o,H b=Z o->H' b=Z o
def lC.refl(H:Hp):lC H H:=λ_ _ h=>h
variable{H:Hp}{H':Hp}{l:J}
def lC.free(e:lC H H')(h:H' l=Option.none):H l=Option.none:=by
 cases q:H l with
 |none=>rfl
 |some o =>
  rw[e l o q]at h;cases h
variable{y:V}{u:B}
section
variable{κ:Type}[DecidableEq κ]
def cz(kvs:List (κ×V))(k:κ):Option V:=(kvs.find? λkv=>decide (kv.1=k)).map (·.2)
def putK(kvs:List (κ×V))(k:κ)(v:V):List (κ×V) :=
 if(kvs.any λkv=>decide (kv.1=k))=O then kvs.map (λkv=>if kv.1=k then(kv.1,v)else kv)else kvs ++ [(k,v)]
def cR{p:κ×V}{r:List (κ×V)}{k:κ}(e:p.1=k):cz (p::r) k=Z p.2:=by simp[cz,e]
def cS{p:κ×V}{r:List (κ×V)}{k:κ}(e:¬ p.1=k):cz (p::r) k=cz r k:=by simp[cz,e]
theorem lH(k:κ):∀kvs:List (κ×V),(kvs.any λkv=>decide (kv.1=k))=(cz kvs k).isSome
 |[]=>rfl
 |p::r=>by
  rw[WB];by_cases e:p.1=k
  ·simp only[cR e,decide_eq_true e,XM,Option.isSome_some]
  ·rw[cS e,decide_eq_false e];exact lH k r
theorem xC(k j:κ)(y:V):∀kvs:List (κ×V),cz (kvs.map λkv=>if kv.1=k then(kv.1,y)else kv) j=(cz kvs j).map λx=>if j=k then y else x
 |[]=>rfl
 |p::r=>by
  have g:=xC k j y r;rw[E3];by_cases h:p.1=k
  ·rw[if_pos h];by_cases e:p.1=j
   ·rw[cR (p:=(p.1,y)) e,cR e,Xj,if_pos (e.symm.trans h)]
   ·rw[cS (p:=(p.1,y)) e,cS e,g]
  ·rw[if_neg h];by_cases e:p.1=j
   ·rw[cR (p:=p) e,cR e,Xj,if_neg (λz=>h (e.trans z))]
   ·rw[cS (p:=p) e,cS e,g]
theorem uB(k j:κ)(y:V):∀kvs:List (κ×V),cz kvs k=Y->cz (kvs ++ [(k,y)]) j=if j=k then Z y else cz kvs j
 |[],_=>by
  by_cases e:k=j
  ·rw[if_pos e.symm];exact cR (p:=(k,y)) e
  ·rw[if_neg (λz=>e z.symm)];exact cS (p:=(k,y)) e
 |p::r,hn=>by
  rw[XE];have hk:¬ p.1=k:=λz=>by rw[cR z]at hn;cases hn
  rw[cS hk]at hn;have g:=uB k j y r hn;by_cases e:p.1=j
  ·rw[cR e,cR e,if_neg (λz=>hk (e.trans z))]
  ·rw[cS e,cS e,g]
def FF(kvs:List (κ×V))(k j:κ)(y:V):cz (putK kvs k y) j=if j=k then Z y else cz kvs j:=by
 unfold putK;by_cases a:(kvs.any λkv=>decide (kv.1=k))=O
 ·rw[if_pos a,xC];rw[lH]at a;by_cases e:j=k
  ·let(x,hx):=Xw.mp a;rw[if_pos e,e,hx,Xj,if_pos rfl]
  ·rw[if_neg e];cases cz kvs j with
   |none=>rfl
   |some x=>rw[Xj,if_neg e]
 ·rw[if_neg a];refine uB k j y kvs ?_;rw[lH]at a;cases q:cz kvs k with
  |none=>rfl
  |some x=>rw[q]at a;exact(a U).elim
def gi(kvs:List (κ×V))(k:κ)(v:V):(putK kvs k v).length<=kvs.length+1:=by
 unfold putK
 split
 ·rw[dN];lia
 ·rw[iQ,qf,Wv];lia
def iO.gZ{o:Option V}{u:Option B}(r:iO o u):o.isSome=u.isSome:=by
 cases o with
 |none=>cases u with
  |none=>rfl
  |some _=>exact(r).elim
 |some _=>cases u with
  |none=>exact(r).elim
  |some _=>rfl
theorem iO.getD{o:Option V}{u:Option B}{d:V}{g:B}(r:iO o u)(rd:RelV d g):RelV (o.getD d) (u.getD g):=by
 cases o with
 |none=>cases u with
  |none=>exact rd
  |some _=>exact(r).elim
 |some _=>cases u with
  |none=>exact(r).elim
  |some _=>exact r
def KV.val{kvs:List (κ×V)}{vs:List (κ×B)}(r:KV kvs vs)(k:κ):iO (cz kvs k) (valueAt vs k):=by
 induction r with
 |nil=>exact True.intro
 |@cons p q ps qs h t K =>
  let(h1,h2):=h;by_cases e:p.1=k
  ·have g:=h1.symm.trans e;have b:valueAt (q::qs) k=Z q.2:=by simp[valueAt,g]
   rw[cR e,b];exact h2
  ·have g:¬ q.1=k:=λz=>e (h1.trans z)
   have b:valueAt (q::qs) k=valueAt qs k:=by simp[valueAt,g]
   rw[cS e,b];exact K
theorem KV.any{kvs:List (κ×V)}{vs:List (κ×B)}(r:KV kvs vs)(k:κ):(kvs.any λkv=>decide (kv.1=k))=vs.any λkv=>decide (kv.1=k):=by
 induction r with
 |nil=>rfl
 |cons h t g=>rw[WB,WB,g,h.1]
def KV.Pm{kvs:List (κ×V)}{vs:List (κ×B)}(r:KV kvs vs)(k:κ)(g:RelV y u):
  KV (kvs.map λkv=>if kv.1=k then(kv.1,y)else kv) (vs.map λkv=>if kv.1=k then(kv.1,u)else kv):=by
 induction r with
 |nil=>exact .nil
 |@cons p q ps qs h t K =>
  rw[E3,E3];refine .cons ?_ K;let(h1,h2):=h;by_cases e:p.1=k
  ·rw[if_pos e,if_pos (h1.symm.trans e)];exact(h1,g)
  ·rw[if_neg e,if_neg (λz=>e (h1.trans z))];exact(h1,h2)
def KV.put{kvs:List (κ×V)}{vs:List (κ×B)}(r:KV kvs vs)(k:κ)(g:RelV y u):KV (putK kvs k y) (stored vs k u):=by
 unfold putK stored;rw[r.any k];by_cases e:(vs.any λkv=>decide (kv.1=k))=O
 ·rw[if_pos e,if_pos e];exact r.Pm k g
 ·rw[if_neg e,if_neg e];exact Paired.snoc r (U,g)
theorem KV.length{kvs:List (κ×V)}{vs:List (κ×B)}(r:KV kvs vs):kvs.length=vs.length:=Paired.length r
end
variable{P:Da}
def mv{w:Cl}{k:Key}(r:RelV (kV k) u):(bq P w).is k u=true:=by
 cases k with
 |inl i=>let(t,e):=(r);subst e;exact yr P w i t
 |inr x=>let(t,e):=(r);subst e;exact yq P w x t
theorem uW{P:Da}{w:Cl}:∀{ks:List Key}{us:List B},Vals (ks.map kV) us->ItemsAre (bq P w) ks us
 |[],_,r=>by cases r;exact .nil
 |k::ks,_,r=>by
  cases r with
  |cons h t=>exact .cons (mv h) (uW t)
abbrev KT(H:Hp):List (List Key×V)->List (List Key×J×B)->Prop:=Paired λp q=>p.1=q.1/\H q.2.1=Z (.tup (p.1.map kV))/\RelV p.2 q.2.2
variable{kvs:List (List Key×V)}
def KT.val{xs:List (List Key×J×B)}(r:KT H kvs xs)(k:List Key):iO (cz kvs k) ((atKey xs k).map (·.2)):=by
 induction r with
 |nil=>exact True.intro
 |@cons p q ps qs h t K =>
  let(h1,_,h2):=h;by_cases e:p.1=k
  ·have g:=h1.symm.trans e;have b:atKey (q::qs) k=Z q.2:=by simp[atKey,g]
   rw[cR e,b];exact h2
  ·have g:¬ q.1=k:=λz=>e (h1.trans z)
   have b:atKey (q::qs) k=atKey qs k:=by simp[atKey,g]
   rw[cS e,b];exact K
def KT.Pm{xs:List (List Key×J×B)}(r:KT H kvs xs)(k:List Key)(g:RelV y u):
  KT H (kvs.map λkv=>if kv.1=k then(kv.1,y)else kv) (xs.map (putAt k u)):=by
 induction r with
 |nil=>exact .nil
 |@cons p q ps qs h t K =>
  rw[E3];refine .cons ?_ K;let(h1,h2,h3):=h;unfold putAt;by_cases e:p.1=k
  ·rw[if_pos e,if_pos (h1.symm.trans e)];exact(h1,h2,g)
  ·rw[if_neg e,if_neg (λz=>e (h1.trans z))];exact(h1,h2,h3)
def KT.put{xs:List (List Key×J×B)}(r:KT H kvs xs)(k:List Key){b:J}(z:H b=Z (.tup (k.map kV)))(g:RelV y u):
  KT H (putK kvs k y) (storedH xs k b u):=by
 have e:(kvs.any λkv=>decide (kv.1=k))=(atKey xs k).isSome:=by
  rw[lH,(r.val k).gZ,WQ]
 unfold putK storedH;rw[e];by_cases q:(atKey xs k).isSome=O
 ·rw[if_pos q,if_pos q];exact r.Pm k g
 ·rw[if_neg q,if_neg q];exact Paired.snoc r (U,z,g)
def KT.keeps{xs:List (List Key×J×B)}(r:KT H kvs xs)(g:∀b ys,H b=Z (.tup ys)->H' b=Z (.tup ys)):KT H' kvs xs :=
 Paired.TN r λ_ _ z=>(z.1,g _ _ z.2.1,z.2.2)
section
variable{w:Cl}{h:Do}
def NN{u:HO}(ok:HOk P w H h)(e:Rd H a u):bJ P w H h a u:=e.ok ok
def iY{kvs:List (Key×V)}(ok:HOk P w H h)(e:Rd H a (.dK kvs)):kvs.length<=pq/\(a==sysModules)=ϊ/\∃vs,KV kvs vs/\h.DictOf (bq P w) a vs :=
 NN ok e
def Jr{kvs:List (Key×V)}(ok:HOk P w H h)(e:H a=Z (.dK kvs)):kvs.length<=pq/\(a==sysModules)=ϊ/\∃vs,KV kvs vs/\h.DictOf (bq P w) a vs:=iY ok (.inl e)
def k8{ks:List Key}(ok:HOk P w H h)(e:H a=Z (.tup (ks.map kV))):(tupleKind (bq P w)).is h ks a:=by
 let(_,its,r,(o,h1,h2,n,h3),_):=(ok a _ e);exact(o,its.toArray,n,h1,h2,h3,by simpa using uW r)
def sg(ok:HOk P w H h)(e:Rd H a (.dT kvs)):kvs.length<=pq/\(a==sysModules)=ϊ /\
  ∃xs,KT H kvs xs/\h.DictOfH (tupleKind (bq P w)) a xs:=by
 let(z,y,xs,r,o,es,K,h1,h2,h3,h4,h5):=(NN ok e);refine(z,y,xs,r,o,es,K,h1,h2,h3,h4,λx hx=>?_,h5)
 have all:∀{l:List (List Key×V)}{m:List (List Key×J×B)},KT H l m->∀x∈m,(tupleKind (bq P w)).is h x.1 x.2.1:=by
  intro l m q
  induction q with
  |nil=>intro x hx;exact nomatch hx
  |@cons p q ps qs hq t g =>
   intro x hx;obtain e|hx:=ot.mp hx
   ·subst e;exact k8 ok (by rw[<- hq.1];exact hq.2.1)
   ·exact g x hx
 exact all r x hx
def Ux(ok:HOk P w H h)(e:H a=Z (.dT kvs)):kvs.length<=pq/\(a==sysModules)=ϊ /\
  ∃xs,KT H kvs xs/\h.DictOfH (tupleKind (bq P w)) a xs:=sg ok (.inl e)
end
def ie(H:Hp)(a:J)(y:V)(r:Option V):Prop :=
 (∃kvs k,Rd H a (.dK kvs)/\y=kV k/\r=cz kvs k)\/∃kvs k b,Rd H a (.dT kvs)/\y=.ref b/\H b=Z (.tup (k.map kV))/\r=cz kvs k
def xu(H:Hp)(a:J)(y v:V)(H':Hp):Prop :=
 (∃kvs k,H a=Z (.dK kvs)/\y=kV k/\kvs.length<pq/\H'=upd H a (.dK (putK kvs k v))) \/
 ∃kvs k b,H a=Z (.dT kvs)/\y=.ref b/\H b=Z (.tup (k.map kV))/\kvs.length<pq/\H'=upd H a (.dT (putK kvs k v))
theorem ie.k{H:Hp}{a:J}{kvs:List (Key×V)}{k:Key}(e:H a=Z (.dK kvs)):ie H a (kV k) (cz kvs k):=.inl (kvs,k,.inl e,U,U)
theorem xu.k{H:Hp}{a:J}{kvs:List (Key×V)}{k:Key}{v:V}(e:H a=Z (.dK kvs))(hl:kvs.length<pq):xu H a (kV k) v (upd H a (.dK (putK kvs k v))):=.inl (kvs,k,e,U,hl,U)
variable{Q:B->ϋ->Prop}{h':Do}{t':Nat}
section
variable{gd:List (J×Obj)}{σ:St}{s:ϋ}{v:V}{r:B}{o:Option V}{E:B->ϋ->Prop}
def Inv.big(I:Inv X gd σ H s):sysModules<s.heap.objs.size:=by
 have h:=(I.mod.glob.keeps I.bk).lt;exact W9 (by decide) h
def ES(hu:A.units+1<cLine)(I:Inv X gd σ H s)(g:ie H a y (Z v))(ry:RelV y u)(h:∀K s',Inv X gd σ H s'->RelV v K->Q K s'):
  wpAny (model X.prog X.w) A (getItem (.ref a) u) Q E s:=by
 obtain⟨kvs,k,e,V,l⟩|⟨kvs,k,b,e,V,eb,l⟩:=g
 ·subst V;let(z,hd,vs,rel,dd):=iY I.hok e;let(K,hw,q):=iO.some_of (by rw[l];exact rel.val k)
  exact wpAny_getItem_of (mv ry) dd.mapOf hw (h K _ (I.tok _) q)
 ·subst V
  cases(ry)
  let(z,hd,xs,rel,dd):=sg I.hok e;let(K,hw,q):=iO.some_of (by rw[l];exact rel.val k)
  let(p,hp,P):=gV.mp hw;refine wpAny_getItem_heap (tupleKind_room_in1 hu) (k8 I.hok eb) dd hp ?_;rw[P];exact h K _ (I.tok _) q
def VQ(V:A.units+1<cLine)(I:Inv X gd σ H s)(g:ie H a y o)(P:RelV y u)(h:∀s',Inv X gd σ H s'->Q (.bool o.isSome) s'):
  wpAny (model X.prog X.w) A (compareOp .In u (.ref a)) Q E s:=by
 obtain⟨kvs,k,e,K,l⟩|⟨kvs,k,b,e,K,eb,l⟩:=g
 ·subst K;let(z,hd,vs,rel,dd):=iY I.hok e;refine wpAny_in_of (mv P) hd dd.mapOf ?_;rw[<- (rel.val k).gZ,<- l];exact h _ (I.tok _)
 ·subst K
  cases(P)
  let(z,hd,xs,rel,dd):=sg I.hok e;refine wpAny_in_heap (tupleKind_room_in1 V) (k8 I.hok eb) hd dd ?_;have q:=(rel.val k).gZ;rw[WQ]at q;rw[<- q,<- l];exact h _ (I.tok _)
def Ng(V:A.units+1<cLine)(I:Inv X gd σ H s)(g:ie H a y o)(P:RelV y u)(h:∀s',Inv X gd σ H s'->Q (.bool (!o.isSome)) s'):
  wpAny (model X.prog X.w) A (compareOp .NotIn u (.ref a)) Q E s:=by
 obtain⟨kvs,k,e,K,l⟩|⟨kvs,k,b,e,K,eb,l⟩:=g
 ·subst K;let(z,hd,vs,rel,dd):=iY I.hok e;refine wpAny_notIn_of (mv P) hd dd.mapOf ?_;rw[<- (rel.val k).gZ,<- l];exact h _ (I.tok _)
 ·subst K
  cases(P)
  let(z,hd,xs,rel,dd):=sg I.hok e;refine wpAny_notIn_heap (tupleKind_room_in1 V) (k8 I.hok eb) hd dd ?_;have q:=(rel.val k).gZ;rw[WQ]at q;rw[<- q,<- l];exact h _ (I.tok _)
def xa{ob:HO}(I:Inv X gd σ H s)(g:Mut (H a))(hs:WV a s.heap h')(he:∃q,h'.get? a=Z q)(new:bJ X.prog X.w (upd H a ob) h' a ob):
  Inv X gd σ (upd H a ob) {s with heap:=h',toks:=t'} :=
 I.write g (.inl U) (λb q K z=>(hs.2 b K).trans z) he new
def si{w:Cl}{kvs:List (Key×V)}{vs:List (Key×B)}(z:kvs.length<=pq)(hd:(a==sysModules)=ϊ)(rel:KV kvs vs)(dd:h'.DictOf (bq P w) a vs):
  bJ P w H' h' a (.dK kvs):=(z,hd,vs,rel,dd)
def ER{Q:Unit->ϋ->Prop}(hu:A.units+1<cLine)(I:Inv X gd σ H s)(g:xu H a y v H')(V:RelV y u)(rv:RelV v r)(h:∀s',Inv X gd σ H' s'->Q () s'):
  wpAny (model X.prog X.w) A (setItem (.ref a) u r) Q E s:=by
 obtain⟨kvs,k,e,K,l,P⟩|⟨kvs,k,b,e,K,eb,l,P⟩:=g
 ·subst K P;let(z,hd,vs,rel,dd):=Jr I.hok e;have hz:vs.length<=pq:=by rw[<- rel.length];exact z
  have hl:(putK kvs k v).length<=pq:=by have:=gi kvs k v;omega
  refine wpAny_setItem_pairs (mv V) dd λh' dd' hs=>h _ ?_
  have he:∃q,h'.get? a=Z q:=let(q,_,_,hq,_):=dd';(q,hq)
  exact xa I (by rw[e];exact True.intro) hs he (si hl hd (rel.put k rv) dd')
 ·subst K P
  cases(V)
  let(z,hd,xs,rel,dd):=Ux I.hok e;have hz:xs.length<=pq:=by rw[<- Paired.length rel];exact z
  have hl:(putK kvs k v).length<=pq:=by have:=gi kvs k v;lia
  refine wpAny_setItem_heap (hsz:=hz) (tupleKind_room_in1 hu) (k8 I.hok eb) dd λh' dd' hs=>h _ ?_
  let(q,es,ep,hq,h2,h3,h4,_,h5):=dd';refine xa I (by rw[e];exact True.intro) hs (q,hq) (hl,hd,_,(rel.put k eb rv).keeps λc ys ec=>?_,q,es,ep,hq,h2,h3,h4,h5)
  rw[aj (gT ec e (λz=>nomatch z))]
  exact ec
end
section
variable{gd:List (J×Obj)}{σ:St}{s:ϋ}{kvs:List (Key×V)}{E:B->ϋ->Prop}
def Uz(I:Inv X gd σ H s)(e:Rd H a (.dK kvs))(h:∀t s',Inv X gd σ H s'->Q (.int kvs.length t) s'):wpAny (model X.prog X.w) A (call (.builtin "len") [.ref a]) Q E s:=by
 let(z,hd,vs,rel,dd):=iY I.hok e;refine call_len_dict hd dd (by rw[<- rel.length];rw[WA]at z;lia) ?_
 rw[<- rel.length];exact h _ _ (I.tok _)
end
def RX(i:Ev):Prop:=∀g iv,subscripted i ϊ g iv=operate [g,iv] (getItem g iv)
variable{prog:Da}{E:B->ϋ->Prop}{env:Env}{value:Ev}
def KS{w:Cl}{s:ϋ}{slice:Ev}{pos:Pos}{T id:String}
  (hl:typeLookup (.type T) "__getitem__"=pure (Z (.builtin id))) (hs:RX slice)
  (h:wpAny (model prog w) A (eval value env) (λo z=>wpAny (model prog w) A (eval slice env) (λi s₂=>s₂.TypeIs o T/\wpAny (model prog w) A (getItem o i) Q E s₂) E z) E s):
  wpAny (model prog w) A (eval (.Subscript value slice pos) env) Q E s:=by
 refine Subscript_ (Nz h (λo z h₁=>Nz h₁ (λi s₂ g=>?_) λ_ _ x=>x) λ_ _ x=>x)
 let(hT,g):=g;refine cZ ?_;refine cZ (WL hT hl ?_);have fin:wpAny (model prog w) A (subscripted slice ϊ o i) (λr q=>wpAny (model prog w) A (letTemporaryGo value o r >>= λ_=>pure r) Q E q) E s₂:=by
  rw[hs o i];exact wpAny_operating (Nz g (λr q K=>cZ (wpAny_letTemporaryGo (kq K))) λ_ _ x=>x)
 exact kq (cZ fin)
variable{gd:List (J×Obj)}
def yU{σ:St}{s:ϋ}{o:Option V}(I:Inv X gd σ H s)(g:ie H a y o):s.TypeIs (.ref a) "dict":=by
 obtain⟨kvs,k,e,_,_⟩|⟨kvs,k,b,e,_,_,_⟩:=g
 ·let(_,_,vs,_,dd):=iY I.hok e;exact dd.typeIs
 ·let(_,_,xs,_,dd):=sg I.hok e;exact dd.typeIs
def NM(td ty:TE):TE:=λσ H Q=>td σ H λx H1=>ty σ H1 λy H2=>∃a v,x=.ref a/\ie H2 a y (Z v)/\Q v H2
def GA(td ty tv:TE):TS:=λD σ H=>tv σ H λv H1=>td σ H1 λx H2=>ty σ H2 λy q=>∃a g,x=.ref a/\xu q a y v g/\D.nx σ g
section
variable{o i:Ev}{pos pos':Pos}{td ty tv:TE}
def gf(hu:X.A.units+1<cLine)(ho:PE X o td)(hi:PE X i ty)(hs:RX i):PE X (.Subscript o i pos) (NM td ty):=by
 left;refine KS PySem.F.slot_dict_getitem.lookup hs (thn (ho gd s σ H _ I h) λu s1 (x,H1,I1,V,q1)=>thn (hi gd s1 σ H1 _ I1 q1) λiv s2 z=>?_)
 let(y,H2,K,P,a,v,ex,g,q2):=z;subst ex;obtain rfl:=V;exact(yU K g,ES hu K g P λw' s3 I3 q=>(v,H2,I3,q,q2))
def pN(hu:X.A.units+1<cLine)(ho:PE X o td)(hi:PE X i ty)(hv:PE X value tv)(hs:swapsWith value (Z (.Subscript o i pos')) pos.line X.env=pure ϊ):
  PS X (.Assign [.Subscript o i pos'] value pos) (GA td ty tv):=by
 right;refine wpAny_Assign_Subscript (thn (hv gd s σ H _ I h) λr s1 (v,H1,I1,P,q1)=>thn (ho gd s1 σ H1 _ I1 q1) λu s2 (x,H2,I2,K,V)=>thn (hi gd s2 σ H2 _ I2 V) λiv s3 q=>?_) hs
 let(y,H3,I3,z,a,H4,ex,g,Q):=q;subst ex;obtain rfl:=K;exact ER hu I3 g z P λs4 I4=>(σ,H4,I4,Q)
end
def yT{w:Cl}(h:Do)(g:sysModules<h.objs.size):bJ P w H (h.push {cls:=.type "dict",data:=.dict #[]}) h.objs.size (.dK []) :=
 (wh _,beq_eq_false_iff_ne.mpr (Ne.symm (rz g)),[],.nil,Heap.DictOf.new h)
def FX:TE:=λ_ H Q=>∀p,H p=Y->Q (.ref p) (upd H p (.dK []))
section
variable{pos:Pos}
def HS:PE X (.Dict [] [] pos) FX:=λgd s σ H Q I h =>
 wpAny_Dict_empty (.ref s.heap.objs.size,_,I.laid (λ_ _ q=>ft _ q) (nY _) (yT s.heap I.big),U,h _ (I.hok.fresh (nY _)))
end
def zX:List (TE×TE)->St->Hp->(List (V×V)->Hp->Prop)->Prop
 |[],_,H,Q=>Q [] H
 | (tk,tv)::r,σ,H,Q=>tk σ H λx H1=>tv σ H1 λy H2=>zX r σ H2 λps g=>Q ((x,y)::ps) g
abbrev VV:List (V×V)->List (B×B)->Prop:=Paired λp q=>RelV p.1 q.1/\RelV p.2 q.2
def PPs(X:Cx)(pos:Pos)(keys:List (Option Ev))(values:List Ev)(g:List (TE×TE)):Prop :=
 ∀(gd:List (J×Obj))(s:ϋ)(σ:St)(H:Hp)(Q:List (V×V)->Hp->Prop),Inv X gd σ H s->zX g σ H Q ->
  Zc X (evalPairs (pairTrees keys values X.env pos)) (λvs s'=>∃ps H',Inv X gd σ H' s'/\VV ps vs/\Q ps H') X.xe s
def Cd{pos:Pos}:PPs X pos [] [] []:=λgd s σ H Q I h=>pairTrees_nil_walk ([],H,I,.nil,h)
variable{tk:TE}{tv:TE}
def lX{pos:Pos}{k v:Ev}{ks:List (Option Ev)}{vs:List Ev}{g:List (TE×TE)}(hk:PE X k tk)(hv:PE X v tv)(hr:PPs X pos ks vs g):
  PPs X pos (Z k::ks) (v::vs) ((tk,tv)::g):=λgd s σ H Q I h =>
 pairTrees_cons_walk (thn (hk gd s σ H _ I h) λu s1 (x,H1,I1,z,V)=>thn (hv gd s1 σ H1 _ I1 V) λw2 s2 (y,H2,I2,q,P) =>
  thn (hr gd s2 σ H2 _ I2 P) λws s3 (ps,H3,I3,rel,K)=>((x,y)::ps,H3,I3,.cons (z,q) rel,K))
def iB(kvs more:List (Key×V)):List (Key×V):=more.foldl (λacc kv=>putK acc kv.1 kv.2) kvs
def KV.merge:∀{more:List (Key×V)}{rs:List (Key×B)}{kvs:List (Key×V)}{vs:List (Key×B)},KV more rs->KV kvs vs->KV (iB kvs more) (merged vs rs):=by
 intro more rs kvs vs r
 induction r generalizing kvs vs with
 |nil=>intro q;exact q
 |@cons p q ps qs h t z =>
  intro g;have e:KV (putK kvs p.1 p.2) (stored vs q.1 q.2):=by
   have:=g.put p.1 h.2
   rw[<- h.1];exact this
  exact z e
theorem eU:∀(more kvs:List (Key×V)),(iB kvs more).length<=kvs.length+more.length
 |[],kvs=>by show kvs.length<=kvs.length+0;lia
 |p::r,kvs=>by
  have h1:=eU r (putK kvs p.1 p.2);have h2:=gi kvs p.1 p.2;show(iB (putK kvs p.1 p.2) r).length<=_;rw[qf];lia
theorem sG{P:Da}{w:Cl}:∀{kvs:List (Key×V)}{ws:List (B×B)},VV (kvs.map λkv=>(kV kv.1,kv.2)) ws->∃rs,Carries (bq P w) ws rs/\KV kvs rs
 |[],_,r=>by cases r;exact([],True.intro,.nil)
 |p::kvs,_,r=>by
  cases r with
  |@cons a b as bs h t =>
   let(rs,c,q):=sG t;let(b1,b2):=b;exact((p.1,b2)::rs,(mv h.1,U,c),.cons (U,h.2) q)
def NL(g:List (TE×TE)):TE:=λσ H Q=>∀p,H p=Y->zX g σ (upd H p (.dK [])) λps H2=>H2 p=Z (.dK [])/\∃kvs:List (Key×V),ps=kvs.map (λkv=>(kV kv.1,kv.2))/\kvs.length<=15/\Q (.ref p) (upd H2 p (.dK (iB [] kvs)))
def Ce{pos:Pos}{keys:List (Option Ev)}{values:List Ev}{g:List (TE×TE)}(h:PPs X pos keys values g)(Rw:keys.all (·.isSome)=O)(hl:keys.length=values.length)(h0:keys ≠ [])
  (P:keys.length<=15):PE X (.Dict keys values pos) (NL g):=by
 intro gd s σ H Q I q;have hn:=I.hok.fresh (nY s.heap.objs.size);have I1:=I.laid (t':=s.toks) (λ_ _ q=>ft _ q) (nY _) (yT s.heap I.big)
 refine wpAny_Dict_walk (knd:=bq X.prog X.w) Rw hl h0 P (thn (h gd _ σ _ _ I1 (q _ hn)) λws s2 K=>?_)
 let(ps,H2,V,rel,e,kvs,ep,lk,q2):=K;subst ep;let(rs,c,rk):=sG rel;let(z,hd,ak,r0,dd):=Jr V.hok e;cases r0;refine(rs,c,dd,λh' dd' hs=>(.ref s.heap.objs.size,_,?_,U,q2))
 have hz:(iB [] kvs).length<=pq:=by
  have h1:=eU kvs [];rw[Wv]at h1;rw[WA];lia
 have he:∃q,h'.get? s.heap.objs.size=Z q:=let(q,_,_,hq,_):=dd';(q,hq)
 exact xa V (by rw[e];exact True.intro) hs he (si hz hd (rk.merge .nil) dd')
structure M2(X:Cx)(o:Ev)(m:Str)(apos:Pos)(e f:Ev)(aS:Pos):Prop where
 base:attributeBase o m X.env (eval o X.env)=eval o X.env
 few:((backTo aS (m4 [e,f] X.env)).all (λx=>!x.1)&&(backToKw aS (keywordEach [] X.env)).all (λx=>x.1.isSome)
  && decide (([e,f]:List Ev).length+([]:List Keyword).length+(if([]:List Keyword).isEmpty then 0 else 1)<30))=O
 line:(apos.endLine==aS.line)=O
 trees:backTo aS (m4 [e,f] X.env)=[(ϊ,eval e X.env),(ϊ,eval f X.env)]
def IsD(H:Hp)(a:J):Prop:=(∃kvs,Rd H a (.dK kvs))\/∃kvs,Rd H a (.dT kvs)
def Rg{σ:St}{s:ϋ}(I:Inv X gd σ H s)(d:IsD H a):
  s.TypeIs (.ref a) "dict" /\ (∀b,B.ref a=.ref b->∃ob,s.heap.get? b=Z ob/\ob.dict=Y)/\(a==sysModules)=false:=by
 obtain⟨kvs,e⟩|⟨kvs,e⟩:=d
 ·let(_,hd,vs,_,dd):=iY I.hok e;refine(dd.typeIs,λb q=>?_,hd)
  cases q;let(ob,_,_,h1,h2,_):=dd;exact(ob,h1,h2.2.1)
 ·let(_,hd,xs,_,dd):=sg I.hok e;refine(dd.typeIs,λb q=>?_,hd)
  cases q;let(ob,_,_,h1,h2,_):=dd;exact(ob,h1,h2.2.1)
section
variable{σ:St}{s:ϋ}{d:V}{r:B}{o:Option V}
def RB(V:A.units+1<cLine)(I:Inv X gd σ H s)(g:ie H a y o)(P:RelV y u)(rd:RelV d r)(h:∀K s',Inv X gd σ H s'->RelV (o.getD d) K->Q K s'):
  wpAny (model X.prog X.w) A (call (.builtin "dict.get") [.ref a,u,r]) Q E s:=by
 obtain⟨kvs,k,e,q,l⟩|⟨kvs,k,b,e,q,eb,l⟩:=g
 ·subst q;let(z,hd,vs,rel,dd):=iY I.hok e;refine call_meetsIn PySem.F.slot_dict_get dd.typeIs PySem.F.entry_dict_get (PySem.F.args_dict_get_3 _ _ _) (meets_dict_get_default (bq X.prog X.w) a (mv P) hd r) (_,dd.mapOf,h _ _ (I.tok _) ?_);rw[l];exact(rel.val k).getD rd
 ·subst q
  cases(P)
  let(z,hd,xs,rel,dd):=sg I.hok e;refine call_meetsIn PySem.F.slot_dict_get dd.typeIs PySem.F.entry_dict_get (PySem.F.args_dict_get_3 _ _ _) (meetsH_dict_get_default (tupleKind (bq X.prog X.w)) a b hd r) (tupleKind_room_in1 V,k,xs,k8 I.hok eb,dd,h _ _ (I.tok _) ?_);rw[l];exact(rel.val k).getD rd
end
def FY(td ty tx:TE):TE:=λσ H Q=>td σ H λx H1=>∃a,x=.ref a/\IsD H1 a/\ty σ H1 λy H2=>tx σ H2 λz g=>∃o,ie g a y o/\Q (o.getD z) g
section
variable{o e f:Ev}{apos aS:Pos}{td ty tx:TE}
def HU(hu:X.A.units+1<cLine)(ho:PE X o td)(he:PE X e ty)(hf:PE X f tx)(m:M2 X o "get" apos e f aS):PE X (.Call (.Attribute o "get" apos) [e,f] [] aS) (FY td ty tx):=by
 left;refine wpAny_Call_method m.base m.few m.line PySem.F.plainAttrs_dict PySem.F.slot_dict_get PySem.F.type_dict_get (thn (ho gd s σ H _ I h) λu s1 K=>?_)
 let(x,H1,P,rx,a,ex,d,q1):=K;subst ex;obtain rfl:=rx;let(t1,t2,_):=Rg P d;refine(t1,t2,?_);rw[m.trees];refine Calls.callWith_builtin U (Calls.evalArgs_plain (Calls.spliced_cons (thn (he gd s1 σ H1 _ P q1) λiv s2 (y,H2,I2,ry,q2) =>
  Calls.spliced_cons (thn (hf gd s2 σ H2 _ I2 q2) λfv s3 (z,H3,I3,V,ov,g,q3)=>Calls.spliced_nil ?_))))
 exact RB hu I3 g ry V λw' s4 I4 q=>(_,H3,I4,q,q3)
end
section
def E5:bY X (.builtin "len") (λxs H Q=>∃a kvs,xs=[V.ref a]/\H a=Z (.dK kvs)/\Q (.int kvs.length) H):=by
 intro gd s σ H xs us Q I r h;let(a,kvs,U,ha,q):=h;let(u,U,ru):=vals1 r;cases ru;exact Uz I (.inl ha) λt s' g=>(.int kvs.length,H,g,(t,U),q)
end
end L2
set_option maxHeartbeats 4000000
namespace L2
open PySem PySem.Spec PyProof.Rows
def N2{h:Do}{a:Nat}{o:Obj}(e:h.get? a=Z o):@LT.lt Nat _ a h.objs.size:=jR e
def CZ{h:Do}{a:Nat}{v:Option B}(e:h.IsCell a v):@LT.lt Nat _ a h.objs.size:=e.lt
def mf{a b:Nat}(h:a<b):@Ne J a b:=rz h
def TK{a b:Nat}(h:b<a):@Ne J a b:=zj h
variable{env:Env}
def y4{body:Str×NameKind->List (Str×J)->Sem (ForInStep (List (Str×J)))}
  (V:∀n k c,body (n,k) c=if(k==NameKind.free)=O then(cellOf env n >>= λa=>pure (.yield ((n,a)::c)))else pure (.yield c))
  (l:List (Str×NameKind)):∀(cs:List (Str×J)),(∀p∈l,p.2=NameKind.free->∃c,env.cells.lookup p.1=Z c) ->
   ∃cl,forIn l cs body=pure cl/\(∀x c,cl.lookup x=Z c->env.cells.lookup x=Z c\/cs.lookup x=Z c)/\(∀x,(x,NameKind.free)∈l->∃c,cl.lookup x=Z c)/\∀x c,cs.lookup x=Z c->∃q,cl.lookup x=Z q:=by
 induction l with
 |nil=>exact λcs _=>(cs,U,λ_ _ h=>.inr h,λ_ h=>(nomatch h),λ_ c h=>(c,h))
 |cons p r P =>
  let(n,k):=p;intro cs h;have hr:=λp hp=>h p (g5 _ hp)
  rw[W3,V];by_cases hk:(k==NameKind.free)=O
  ·rw[if_pos hk];have K:=by simpa using hk
   let(c,Q):=h (n,k) lD K;have e1:cellOf env n=pure c:=by unfold cellOf;rw[Q]
   rw[e1];let(cl,e,h1,h2,h3):=P ((n,c)::cs) hr;refine(cl,e,λx q hx=>?_,λx hx=>?_,λx q hx=>?_)
   ·obtain z|z:=h1 x q hx
    ·exact .inl z
    ·by_cases g:(x==n)=O
     ·have e3:=by simpa using g
      subst e3;rw[uj,g]at z;cases z;exact .inl Q
     ·rw[uj,Xu.mpr g]at z;exact .inr z
   ·obtain z|z:=ot.mp hx
    ·have g:x=n:=congrArg Prod.fst z;exact h3 x c (by rw[uj,g,beq_self_eq_true])
    ·exact h2 x z
   ·by_cases g:(x==n)=O
    ·exact h3 x c (by rw[uj,g])
    ·exact h3 x q (by rw[uj,Xu.mpr g];exact hx)
  ·rw[if_neg hk];let(cl,e,h1,h2,h3):=P cs hr;refine(cl,e,h1,λx hx=>?_,h3)
   obtain z|z:=ot.mp hx
   ·cases z;exact absurd U hk
   ·exact h2 x z
variable{scope:Scope}
def Bs(h:∀p∈scope.names,p.2=NameKind.free->∃c,env.cells.lookup p.1=Z c):
  ∃cl:List (Str×J),closureFor scope env=pure cl/\(∀x c,cl.lookup x=Z c->env.cells.lookup x=Z c)/\∀x,(x,NameKind.free)∈scope.names->∃c,cl.lookup x=Z c:=by
 let(cl,e,h1,h2,_):=y4 (body:=λx c=>if(x.2==NameKind.free)=O then(cellOf env x.1 >>= λa=>pure (.yield ((x.1,a)::c)))else pure (.yield c)) (λ_ _ _=>rfl) scope.names [] h
 refine(cl,?_,λx c hx=>(h1 x c hx).elim id λz=>by simp at z,h2)
 have g:closureFor scope env=(forIn scope.names ([]) (λx c=>if(x.2==NameKind.free)=O then(cellOf env x.1 >>= λa=>pure (.yield ((x.1,a)::c)))else pure (.yield c)) >>= λr=>pure r):=by
  simp only[closureFor]
 rw[g,e];rfl
theorem gD{env:Env}:∀{names:List (Str×NameKind)}{x:Str}{k:NameKind},
  (names.map λ(n,k)=>if(k==NameKind.free&&env.scope.kind == .function&&env.kindOf n==Z .cell)then(n,NameKind.cell)else(n,k)).lookup x=Z k ->
   names.lookup x=Z k\/(names.lookup x=Z .free/\k=.cell)
 |[],_,_,h=>by simp at h
 | (n,k0)::r,x,k,h=>by
  have q:=@gD env r x k
  replace h:Wx x ((if(k0==NameKind.free&&env.scope.kind == .function&&env.kindOf n==Z .cell)=O then(n,NameKind.cell)else(n,k0)) ::(r.map λ(n,k)=>if(k==NameKind.free&&env.scope.kind == .function&&env.kindOf n==Z .cell)then(n,NameKind.cell)else(n,k)))=Z k:=h
  cases hx:x==n with
  |true =>
   by_cases g:(k0==NameKind.free&&env.scope.kind == .function&&env.kindOf n==Z .cell)=O
   ·rw[if_pos g]at h;simp only[uj,hx]at h;cases h
    have:=by
     simp only[sU]at g;simpa using g.1.1
    subst this;exact .inr (by simp only[uj,hx],U)
   ·rw[if_neg g]at h;simp only[uj,hx]at h;exact .inl (by simp only[uj,hx];exact h)
  |false =>
   have h':(r.map λ(n,k)=>if(k==NameKind.free&&env.scope.kind == .function&&env.kindOf n==Z .cell)then(n,NameKind.cell)else(n,k)).lookup x=Z k:=by
    by_cases g:(k0==NameKind.free&&env.scope.kind == .function&&env.kindOf n==Z .cell)=O
    ·rw[if_pos g]at h;simpa only[uj,hx]using h
    ·rw[if_neg g]at h;simpa only[uj,hx]using h
   obtain z|z:=q h'
   ·exact .inl (by simp only[uj,hx];exact z)
   ·exact .inr (by simp only[uj,hx];exact z)
theorem lR{env:Env}:∀{names:List (Str×NameKind)}{x:Str},names.lookup x=Z .free ->
  (names.map λ(n,k)=>if(k==NameKind.free&&env.scope.kind == .function&&env.kindOf n==Z .cell)then(n,NameKind.cell)else(n,k)).lookup x=Z .free \/
  (names.map λ(n,k)=>if(k==NameKind.free&&env.scope.kind == .function&&env.kindOf n==Z .cell)then(n,NameKind.cell)else(n,k)).lookup x=Z .cell
 |[],_,h=>by simp at h
 | (n,k0)::r,x,h=>by
  have q:=@lR env r x;show Wx x ((if(k0==NameKind.free&&env.scope.kind == .function&&env.kindOf n==Z .cell)=O then(n,NameKind.cell)else(n,k0))::_)=_\/Wx x ((if(k0==NameKind.free&&env.scope.kind == .function&&env.kindOf n==Z .cell)=O then(n,NameKind.cell)else(n,k0))::_)=_
  cases hx:x==n with
  |true =>
   simp only[uj,hx]at h;cases h;by_cases g:(NameKind.free==NameKind.free&&env.scope.kind == .function&&env.kindOf n==Z .cell)=O
   ·rw[if_pos g];simp only[uj,hx];exact .inr trivial
   ·rw[if_neg g];simp only[uj,hx];exact .inl trivial
  |false =>
   simp only[uj,hx]at h;by_cases g:(k0==NameKind.free&&env.scope.kind == .function&&env.kindOf n==Z .cell)=O
   ·rw[if_pos g];simp only[uj,hx];exact q h
   ·rw[if_neg g];simp only[uj,hx];exact q h
inductive m9(X:Cx)(sc:Scope):List Str->List (Option Nat)->Prop
 |nil:m9 X sc [] []
 |own{x:Str}{N:List Str}{c:List (Option Nat)}:sc.names.lookup x=Z .local->m9 X sc N c->m9 X sc (x::N) (Y::c)
 |got{x:Str}{i:Nat}{N:List Str}{c:List (Option Nat)}:X.N[i]?=Z x->sc.names.lookup x=Z .free->(X.env.kindOf x=Z .cell\/X.env.kindOf x=Z .free)->m9 X sc N c->m9 X sc (x::N) (Z i::c)
def mT(c:List (Option Nat))(σ:St):St:=c.map λo=>o.bind λ(i:Nat)=>(σ[i]?).join
variable{X:Cx}{sc:Scope}{N:List Str}
def m9.len{c:List (Option Nat)}{σ:St}(h:m9 X sc N c):(mT c σ).length=N.length:=by
 unfold mT;rw[dN]
 induction h with
 |nil=>rfl
 |own _ _ g=>simp[g]
 |got _ _ _ _ g=>simp[g]
theorem m9.at{X:Cx}{sc:Scope}{N:List Str}{c:List (Option Nat)}{σ:St}(h:m9 X sc N c):∀{j:Nat}{x:Str}{v:V},N[j]?=Z x->(mT c σ)[j]?=Z (Z v) ->
  ∃i:Nat,X.N[i]?=Z x/\σ[i]?=Z (Z v)/\sc.names.lookup x=Z .free/\(X.env.kindOf x=Z .cell\/X.env.kindOf x=Z .free):=by
 induction h with
 |nil=>intro j x v h1;simp at h1
 |own _ _ z =>
  intro j x v h1 h2;cases j with
  |zero=>simp[mT]at h2
  |succ j=>exact z (by simpa using h1) (by simpa [mT]using h2)
 |@got y i N c g1 g2 g3 _ z =>
  intro j x v h1 h2;cases j with
  |zero =>
   have e:=by simpa using h1
   subst e;refine(i,g1,?_,g2,g3);have g:=by simpa [mT]using h2
   cases q:σ[i]? with
   |none=>rw[q]at g;cases g
   |some o =>
    rw[q]at g
    have:o=Z v:=g
    rw[this]
  |succ j=>exact z (by simpa using h1) (by simpa [mT]using h2)
def blk(X:Cx)(N':List Str)(sc:Scope)(cl:List (Str×J))(C:J)(s₂:ϋ)(H₂:Hp)(fp:List J):Cx :=
 {X with N:=N',s₀:=s₂,H₀:=H₂,env:=compEnvC sc cl C X.env,outer:=X.stack,ex:=fp,fn:=λ_=>ϊ,pn:=[],xe:=λ_ _=>False}
def PTs(X:Cx)(ifs:List Ev)(t:TT):Prop :=
 ∀(gd:List (J×Obj))(s:ϋ)(σ:St)(H:Hp)(Q:Bool->Hp->Prop),Inv X gd σ H s->t σ H Q ->
  Zc X (forIn ifs O λc r=>if r=O then do let ok <- isTrue c X.env (eval c X.env);pure (ForInStep.yield ok)else pure (ForInStep.yield r)) (TP X gd σ Q) X.xe s
def BM:TT:=λ_ H Q=>Q O H
def B9:PTs X [] BM:=λ_ _ _ H _ I h=>wpAny_tests_nil (H,I,h)
def B8{c:Ev}{t:TT}(h:PT X c t):PTs X [c] t:=λgd s σ H Q I q=>wpAny_tests_one (h gd s σ H Q I q)
def OD(g:TG)(tst:TT)(te:TE)(P:St)(Q:VK)(Yy:It)(H1:Hp):Prop :=
 ∃W:Nat->Nat->List V->St->Hp->Prop,(∃m,W 0 m [] P H1)/\∀i m ys z H',W i m ys z H' ->
  (Yy.stop i H'/\ys.length<=pq/\∀D,H' D=Y->Q (.ref D) (upd H' D (.lst ys))) \/
  (Yy.go i H'/\ys.length<pq/\∃N:List V->St->Hp->Prop,(∀K q H2,N K q H2->∃m',m'<m/\W (i+1) m' K q H2)/\∀x H2,Yy.yld i H' x H2->g x z H2 λq H3=>tst q H3 λb H4 =>
   if b=O then te q H4 λy H5=>N (ys ++ [y]) q H5 else N ys q H4)
def uE(cap:List (Option Nat))(wi:TI)(g:TG)(tst:TT)(te:TE):TE:=λσ H Q=>wi σ H (OD g tst te (mT cap σ) Q)
variable{prog:Da}{A:Db}{R:Result->ϋ->Prop}{elt:Ev}{iter:Ev}{ifs:List Ev}
def EV{w:Cl}{s:ϋ}{target:Ev}{pos:Pos}{it acc:B}(I:Nat->ϋ->Prop)
  (turn:∀n s,I n s->wpAny (model prog w) A (pyNext it) (λr z=>match r with
   |none=>R (.ok .next) z
   |some v=>wpAny (model prog w) A (letOwnedTupleGo target it v) (λ_ q=>wpAny (model prog w) A (assign target env v) (λ_ s₂ =>
     wpAny (model prog w) A (forIn ifs O λc r=>if r=O then do let ok <- isTrue c env (eval c env);pure (ForInStep.yield ok)else pure (ForInStep.yield r)) (λok g =>
      if ok=O then wpAny (model prog w) A (eval elt env) (λx P =>
       wpAny (model prog w) A (call (.builtin "list.append") [acc,x]) (λ_ K=>∃m,m<n/\I m K) (λ_ _=>False) P) (λ_ _=>False) g
      else ∃m,m<n/\I m g) (λ_ _=>False) s₂) (λ_ _=>False) q) (λ_ _=>False) z) (λ_ _=>False) s)
  (n:Nat) (h:I n s):
  codeAny (model prog w) A (.compLoop (.ListComp elt [(target,iter,ifs,0)] scope pos) 0 it acc env) R s:=by
 refine codeAny_loop U I (λn s hI=>?_) n h
 show wpAny _ A ((compTurn (.ListComp elt [(target,iter,ifs,0)] scope pos) 0 it acc env).onRaise (λx=>do noteFrame x env;theTreesLotGoes x)) _ _ s
 refine wpAny_noted ?_;rw[compTurn_list];refine cZ (wpAny_standAt (cZ (Nz (turn n s hI) (λr z h₁=>?_) λ_ _ h'=>h'.elim)))
 cases r with
 |none=>exact kq h₁
 |some v =>
  refine cZ (Nz h₁ (λ_ q V=>(cZ (Nz V (λ_ s₂ aA=>cZ (Nz aA (λok g Q=>?_) λ_ _ h'=>h'.elim)) λ_ _ h'=>h'.elim))) λ_ _ h'=>h'.elim)
  cases ok with
  |false=>exact kq (U,Q)
  |true =>
   exact cZ (cZ (Nz Q (λx P ar=>cZ (Nz ar (λ_ K ak=>kq (kq (U,ak))) λ_ _ h'=>h'.elim)) λ_ _ h'=>h'.elim))
variable{gd:List (J×Obj)}{H:Hp}{tg:Ev}{N':List Str}{cap:List (Option Nat)}{tst:TT}{te:TE}
def y3{σ:St}{s:ϋ}{Q:VK}{p pos:Pos}{wi:TI}{g:TG}{use:Option (B->Sem Unit)}{Q':B->ϋ->Prop}
  (hc:X.calm=O) (hi:PI X tg iter wi) (g6:sc.kind=.function) (g7:∀y∈sc.names,y.2 ≠ .cell) (iF:∀y∈sc.names,y.2=.local->sc.names.lookup y.1=Z .local)
  (iX:∀y∈sc.names,y.2=.free->X.env.kindOf y.1=Z .cell\/X.env.kindOf y.1=Z .free) (uq:m9 X sc N' cap)
  (P:∀cl C s₂ H₂ fp,PG (blk X N' sc cl C s₂ H₂ fp) tg g/\PTs (blk X N' sc cl C s₂ H₂ fp) ifs tst/\PE (blk X N' sc cl C s₂ H₂ fp) elt te)
  (I:Inv X gd σ H s) (h:uE cap wi g tst te σ H Q)
  (fin:∀D C m H' s',Inv X gd σ H' s'->sW X gd H' C->s'.heap.Ns C m->Q (.ref D) H'->compPost (model X.prog X.w) X.A X.xe use Q' (.ref D) C (.ok .next) s')
  (hs:∀x,foldedSetIterable iter X.env x=pure x):
  Zc X (comprehension (.ListComp elt [(tg,iter,ifs,0)] sc pos) sc X.env p (newList []) ϊ (eval iter X.env) use) Q' X.xe s:=by
 let(cl,Uo,yM,Up):=Bs (scope:=sc) (env:=X.env) λq hq e=>I.ok.has q.1 (iX q hq e)
 refine wpAny_comprehension_free U hs Uo g6 iF (thn (hi gd s σ H _ I h) λv s1 h1=>thn h1 λdc s2 h2=>?_)
 let(it,fp,tn,Yy,H2,e,I2,T,aS,f2,W,(m0,w0),turn):=h2;subst e;refine Wz (wpAny_newFunctionEnv g7 (by intro y hy;simp at hy) (λh₁ MU IZ=>?_) g6)
 dsimp only at MU IZ ⊢
 generalize bb:s2.heap.push {cls:=.type "list",dict:=Y,data:=.seq ([]:List B).toArray}=HP at MU IZ ⊢
 have hC:HP.objs.size=s2.heap.objs.size+1:=by rw[<- bb,v3]
 obtain⟨D,ak⟩:∃D:Nat,s2.heap.objs.size=D:=(_,U)
 obtain⟨C,c6⟩:∃C:Nat,HP.objs.size=C:=(_,U)
 rw[ak]at hC;rw[c6]at hC MU IZ ⊢;rw[ak];have DC:D<C:=hC▸Wl D;have aT:∀{b:Nat}{o:Obj},s2.heap.get? b=Z o->b<D:=λe=>ak▸N2 e
 have a8:∀{b:Nat}{o:Obj},s2.heap.get? b=Z o->b<C:=λe=>W9 (aT e) DC
 have a0:@Ne J D C:=mf DC;have old:∀b o,s2.heap.get? b=Z o->h₁.get? b=Z o:=λb o e =>
  IZ.extBut b o (mf (a8 e)) (ft _ (bb▸ft _ e))
 have jc:h₁.get? D=Z {cls:=.type "list",data:=.seq ([]:List B).toArray 0} :=
  IZ.extBut _ _ a0 (ft _ (by rw[<- bb,<- ak];exact px _ U))
 have cc:(blk X N' sc cl C s2 H2 fp).Ok:=by
  refine(I.ok.mod,g6,I.ok.glob,I.ok.blt,(by show s2.heap.objs.size<=C;rw[ak];exact sV DC),λx y c h1 h2=>I.ok.inj x y c (yM x c h1) (yM y c h2),λx hx=>?_,λx c hx=>(nomatch hx),I.ok.hd,I.ok.frames,.inl U,λb P=>?_,
   λb o e=>I2.bs b o e,sR I2.ok.bsz I2.sz,λb o e P=>?_,λb P=>?_,I2.stack,I2.jX)
  ·have cN:sc.names.lookup x=Z .free:=by
    obtain hx|hx:=hx
    ·obtain z|z:=gD hx
     ·exact absurd U (g7 _ (PySem.mem_of_lookup z))
     ·exact z.1
    ·obtain z|z:=gD hx
     ·exact z
     ·exact z.1
   exact Up x (PySem.mem_of_lookup cN)
  ·let(o,ho,_):=T.obj _ _ aS b P;refine(?_,λx c e=>(f2 b P).2.2.2.2.1 x c (yM x c e))
   show @Ne J b C;exact mf (a8 ho)
  ·let(_,_,_,z,_):=f2 b P;obtain z|z:=z
   ·exact I2.ok.AL b o e z
   ·exact absurd (rE (N2 (show X.base.get? b=Z o from e)) (sR I2.ok.bsz z)) (BH _)
  ·intro c4;obtain z|z:=ot.mp (I2.ny b c4)
   ·exact(f2 b P).2.1 z
   ·exact(f2 b P).2.2.1 z
 have nD:H2 D=none:=I2.hok.fresh (by rw[ak];exact nY _)
 have cx:=P cl C s2 H2 fp
 generalize V:blk X N' sc cl C s2 H2 fp=XB at cc cx
 have eP:XB.prog=X.prog:=by rw[<- V];rfl
 have eW:XB.w=X.w:=by rw[<- V];rfl
 have eK:XB.K=X.K:=by rw[<- V];rfl
 have eA:XB.A=X.A:=by rw[<- V];rfl
 have eE:XB.env=compEnvC sc cl C X.env:=by rw[<- V];rfl
 have eX:XB.xe=λ_ _=>False:=by rw[<- V];rfl
 have a3:XB.fs=frs X.stack:=by rw[<- V];rfl
 have bE:XB.ex=fp:=by rw[<- V];rfl
 have eS:XB.s₀=s2:=by rw[<- V];rfl
 have eH:XB.H₀=H2:=by rw[<- V];rfl
 have bC:XB.pn=[]:=by rw[<- V];rfl
 have cG:XB.calm=true:=by rw[<- V];exact hc
 have eN:XB.N=N':=by rw[<- V];rfl
 have eL:XB.env.locals=C:=by rw[eE];rfl
 have aN:XB.env.cells=cl:=by rw[eE];rfl
 have VT:∀(x:Str)(c:Nat),cl.lookup x=Z c->c<D:=λx c e=>by
  let(v,z):=I2.cell x c (yM x c e);exact ak▸CZ z
 have cH:∀(b:Nat),D<=b->b ∉ XB.fs:=λb P z=>by
  rw[a3]at z;let(_,o,ho,_):=I2.stack.mem z;exact BH _ (rE (aT ho) P)
 have bt:∀(b:Nat),b∈fp->b<D:=λb P=>by
  let(o,ho,_):=T.obj _ _ aS b P;exact aT ho
 have loop:∀s3:ϋ,s3={s2 with heap:=h₁,toks:=s2.toks+([]:List (Str×B)).length} ->
   codeAny (model X.prog X.w) X.A (.compLoop (.ListComp elt [(tg,iter,ifs,0)] sc pos) 0 (.ref it) (.ref D) (compEnvC sc cl C X.env)) (compPost (model X.prog X.w) X.A X.xe use Q' (.ref D) C) s3:=by
  rintro s3 rfl
  refine EV (λn s'=>∃i ys b0 H' its k,Inv XB [] b0 H' s'/\tn i s'.heap/\(∀b∈fp,H' b=Y)/\H' D=Y/\s'.heap.get? D=Z {cls:=.type "list",data:=.seq (its:List B).toArray k}/\Vals ys its/\W i n ys b0 H') ?_ m0
   (0,[],mT cap σ,H2,[],0,?_,T.keep _ _ _ aS λb P o e=>old b o e,λb P=>(f2 b P).1,nD,jc,.nil,w0)
  ·rintro n s4 ⟨i,ys,aA,H4,its,k,I4,b9,cE,d4,o4,v4,w4⟩
   have bj:∀{H':Hp}{pl:List (J×Obj)},(∀b∈fp,H' b=Y)->(∀q∈pl,q.1 ∉ fp)->∀b∈fp,sW XB pl H' b:=λ{H' pl} hn c0 b P=>by
    refine(hn b P,?_,?_,.inl (by rw[bE];exact P),λx c e=>?_,λq hq=>?_)
    ·rw[eL];exact mf (W9 (bt b P) DC)
    ·rw[a3];intro z;obtain z|z:=ot.mp (I2.ny b z)
     ·exact(f2 b P).2.1 z
     ·exact(f2 b P).2.2.1 z
    ·rw[aN]at e;exact(f2 b P).2.2.2.2.1 x c (yM x c e)
    ·rw[bC]at hq;intro z;exact c0 q (by simpa using hq) (z▸P)
   have pD:∀q ∈ [(Prod.mk D ({cls:=.type "list",data:=.seq its.toArray k}:Obj))],q.1 ∉ fp:=λq hq=>by
    have e:q=_:=fy.mp hq;subst e;intro z;exact BH _ (bt _ z)
   have bI:Inv XB [(D,{cls:=.type "list",data:=.seq its.toArray k})] aA H4 s4:=I4.lY λq hq=>by
    have e:q=_:=fy.mp hq;subst e;refine(o4,d4,?_,cH _ (nY _),λv=>by simp)
    rw[eL];exact a0
   have Wf:=bI;rw[<- eA,<- eP,<- eW];obtain⟨stop,hz,qn⟩|⟨go,hz,N,hN,step⟩:=turn i n ys aA H4 w4
   ·rw[<- eP,<- eW,<- eK]at T;refine Nz (T.done XB U U U cG i _ s4 aA H4 (λ_ _=>False) bI (bj cE pD) b9 stop) (λr s5 (hr,I5)=>?_) λ_ _ z=>z
    subst hr;rw[eP,eW,eA];let(o5,n5,_):=I5.pin (D,{cls:=.type "list",data:=.seq its.toArray k}) (pA _ (fy.mpr U));have u5:Un (frs X.stack) fp H2 H4 s2.heap s5.heap:=by
     have z:=I5.base;rw[a3,bE,eH,eS]at z;exact z
    have cI:∀b o,s2.heap.get? b=Z o->@Ne J b D:=λb o e=>mf (aT e)
    have ne5:∀b u,H4 b=Z u->b≠D:=λb u e z=>by rw[z,d4]at e;cases e
    have c1:HOk X.prog X.w H4 s5.heap:=by
     have z:=I5.hok;rw[eP,eW]at z;exact z
    have VP:=fin D C;let(mC,cD,_):=id I5.loc;rw[eL]at cD;have IX:Inv X gd σ (upd H4 D (.lst ys)) s5:=by
     refine I2.zc (s':=s5) (ch:=fp) ?_ (u5.keep,u5.slot,λb o e n hx=>?_,u5.there,λb xs e=>?_,λb o u e=>?_,λb ps e=>?_) ?_ I5.bare λb P=>((f2 b P).2.2.2.1,(f2 b P).2.1,(f2 b P).2.2.2.2.1,(f2 b P).2.2.2.2.2)
     ·have z:=I5.os;rw[eS]at z;exact z
     ·rw[aj (cI b o e)];exact u5.free b o e n hx
     ·have z:=u5.lL b xs e;rw[aj (ne5 b _ z)];exact z
     ·have z:=u5.jd b o u e;rw[aj (ne5 b _ z)];exact z
     ·let(more,z):=u5.lN b ps e;exact(more,by rw[aj (ne5 b _ z)];exact z)
     ·intro a o e;by_cases ha:a=D
      ·subst ha;rw[au]at e;cases e;exact(hz,its,k,v4,o5)
      ·rw[aj ha]at e;exact(c1 a o e).dj (λ_ _ _ q=>q) (λb q=>by rw[aj (ne5 b _ q)];exact q) λb xs q=>by rw[aj (ne5 b _ q)];exact q
    refine VP mC _ s5 IX ?_ cD (qn D d4);have c8:H4 C=none:=by
     have z:=I5.free;rw[eL]at z;exact z
    refine(by rw[aj (Ne.symm a0)];exact c8,?_,?_,.inr ?_,λx c e=>?_,λq hq=>?_)
    ·have:@LT.lt Nat _ X.env.locals s2.heap.objs.size:=I2.lt
     exact TK (W9 (ak▸this) DC)
    ·exact I2.TJ (by rw[ak];exact sV DC)
    ·exact sR I2.sz (by rw[ak];exact sV DC)
    ·let(v,z):=I2.cell x c e;exact mf (W9 (ak▸CZ z) DC)
    ·exact mf (a8 (I2.pin q hq).1)
   ·have T':=T;rw[<- eP,<- eW,<- eK]at T';refine Nz (T'.item XB U U U cG i _ s4 aA H4 (λ_ _=>False) bI (bj cE pD) b9 go) (λr s5 (u,hr,h5)=>?_) λ_ _ z=>z
    subst hr;refine thn h5 λ_ s6 ar=>?_
    let(x,H6,I6,r6,y6,a7,c9):=ar;have da:=I6.pinned (bj c9 pD) (T.obj _ _ a7);let(c2,cW,c3):=cx;rw[<- eE];have ct:=c2 _ s6 aA H6 x u _ da r6 (step x H6 y6);rw[eX]at ct;refine thn ct λ_ s7 ar=>?_
    let(aP,H7,I7,q7):=ar;have cf:=cW _ s7 aP H7 _ I7 q7;rw[eX]at cf;refine thn cf λb s8 ar=>?_
    let(H8,I8,q8):=ar;have back:∀{bV:St}{H9:Hp}{s9:ϋ},Inv XB ([(D,{cls:=.type "list",data:=.seq its.toArray k})]++qZ fp s6.heap) bV H9 s9->tn (i+1) s9.heap/\(∀b∈fp,H9 b=Y)/\H9 D=Y/\s9.heap.get? D=Z {cls:=.type "list",data:=.seq its.toArray k}:=λ{bV H9 s9} I9=>by
     have z:=I9.pin (D,{cls:=.type "list",data:=.seq its.toArray k}) (pA _ (p7 _ (fy.mpr U)));refine(T.keep _ _ _ a7 λb P o e=>(I9.pin (b,o) (pA _ (pA _ (fT P e)))).1,λb P=>?_,z.2.1,z.1)
     let(o,e,_):=T.obj _ _ a7 b P;exact(I9.pin (b,o) (pA _ (pA _ (fT P e)))).2.1
    cases b with
    |false =>
     rw[if_neg sQ]at q8 ⊢;let(m',hm,w8):=hN _ _ _ q8;let(t1,t2,t3,t4):=back I8;exact(m',hm,i+1,ys,aP,H8,its,k,I8.lY (λq hq=>nomatch hq),t1,t2,t3,t4,v4,w8)
    |true =>
     rw[if_pos rfl]at q8 ⊢;have cu:=c3 _ s8 aP H8 _ I8 q8;rw[eX]at cu;refine thn cu λyv s9 ar=>?_
     let(y,H9,I9,r9,n9):=ar;let(m',hm,w9):=hN _ _ _ n9;let(t1,t2,t3,t4):=back I9;have hsz:its.toArray.size<=pq:=by
      have e:=v4.length;have e2:its.toArray.size=its.length:=by simp
      omega
     refine append_at (hsz:=hsz) t4 λh' cq c5=>?_
     ·refine(m',hm,i+1,ys ++ [y],aP,H9,its ++ [yv],k+1,?_,T.keep _ _ _ t1 λb P o e=>cq.extBut b o (mf (bt b P)) e,t2,t3,?_,v4.append (.cons r9 .nil),w9)
      ·refine(I9.lY (pins':=[]) (λq hq=>nomatch hq)).turned (t':=s9.toks) (it:=D) (λb o P e=>cq.extBut b o P e) t3 ?_ (.inr ?_) (λx c e=>?_) λq hq=>?_
       ·rw[eL];exact a0
       ·rw[eS,ak];exact nY _
       ·rw[aN]at e;exact mf (VT x c e)
       ·rw[bC]at hq;exact nomatch hq
      ·rw[c5];simp
  ·
   refine(cc,by rw[eS],I2.bare,by rw[a3,bE,eH,eS];exact Un.kept old,(_,by rw[eL];exact MU,λj x v h1 h2 h3=>?_),λx c e=>?_,?_,λx c e=>?_,λq hq=>?_,by rw[eP,eW];exact I2.hok.kept old,by rw[eN];exact uq.len)
   ·rw[eN]at h1;let(i,g1,g2,g3,g4):=uq.at h1 h2;let(m,hn,hl):=I2.loc;have hv:Vis X.env.scope x:=by
     obtain z|z:=g4
     ·exact .inr (.inl z)
     ·exact .inr (.inr z)
    let(u,r,l):=hl i x v g1 g2 hv;refine(u,r,.inr (?_,?_))
    ·rw[eE];exact(lR g3).symm
    ·obtain⟨hk,_⟩|⟨_,c,e,z⟩:=l
     ·obtain y|y:=g4
      ·rw[y]at hk;cases hk
      ·rw[y]at hk;cases hk
     ·let(c',e'):=Up x (PySem.mem_of_lookup g3)
      have:=yM x c' e'
      rw[e]at this;cases this;let(o,ho,hd):=z;exact(c,by rw[aN];exact e',o,old c o ho,hd)
   ·rw[aN]at e;let(v,o,ho,hd):=I2.cell x c (yM x c e);exact(v,o,old c o ho,hd)
   ·rw[eL];exact I2.hok.fresh (by rw[ak];exact sV DC)
   ·rw[aN]at e;exact I2.dO x c (yM x c e)
   ·rw[bC]at hq;exact nomatch hq
 exact codeAny_compStart_list (loop _ U) (T.self X.A 0 _ _ _ (T.keep _ _ _ aS λb P o e=>old b o e) (loop _ U))
def CH(h:(sc.names.all λy=>y.2 != .free ||(X.env.kindOf y.1==Z .cell||X.env.kindOf y.1==Z .free))=O):
  ∀y∈sc.names,y.2=.free->X.env.kindOf y.1=Z .cell\/X.env.kindOf y.1=Z .free:=λy g e=>by
 have z:=R4.mp h y g;rw[e]at z;simpa using z
def Cf{pos:Pos}{wi:TI}{g:TG}
  (hc:X.calm=O) (hi:PI X tg iter wi) (V:m9 X sc N' cap)
  (P:∀cl C s₂ H₂ fp,PG (blk X N' sc cl C s₂ H₂ fp) tg g/\PTs (blk X N' sc cl C s₂ H₂ fp) ifs tst/\PE (blk X N' sc cl C s₂ H₂ fp) elt te)
  (g6:‹sc.kind=.function›) (g7:autoParam (∀y∈sc.names,y.2 ≠ .cell) zdc._auto_1) (iF:autoParam (∀y∈sc.names,y.2=.local->sc.names.lookup y.1=Z .local) zdc._auto_1)
  (iX:‹(sc.names.all λy=>y.2 != .free ||(X.env.kindOf y.1==Z .cell||X.env.kindOf y.1==Z .free))=true›)
  (hs:∀x,foldedSetIterable iter X.env x=pure x:=by intro _;rfl):PE X (.ListComp elt [(tg,iter,ifs,0)] sc pos) (uE cap wi g tst te):=by
 left;exact y3 (use:=Y) hc hi g6 g7 iF (CH iX) V P I h (λD C m H' s' I' z hn q=>((m,hn,λh' K=>(.ref D,H',(I'.turned (t':=s'.toks) (it:=C) (λb o P e=>K.extBut b o P e) z.1 z.2.1.symm.symm z.2.2.2.1 z.2.2.2.2.1 z.2.2.2.2.2),U,q)))) hs
variable{e7:Pos}{py:Pos}
def Cb{i:Nat}{y:Str}{pos:Pos}{wi:TI}{g:TG}
  (hN:X.N.Nodup) (ak:X.N[i]?=Z y) (hy:Loc X.env.scope y)
  (hc:X.calm=O) (hi:PI X tg iter wi) (uq:m9 X sc N' cap)
  (K:∀cl C s₂ H₂ fp,PG (blk X N' sc cl C s₂ H₂ fp) tg g/\PTs (blk X N' sc cl C s₂ H₂ fp) ifs tst/\PE (blk X N' sc cl C s₂ H₂ fp) elt te)
  (Q:‹swapsWith (.ListComp elt [(tg,iter,ifs,0)] sc pos) (Z (.Name y py)) e7.line X.env=pure true›)
  (hf:AT X y:=by first|exact .inl rfl|exact .inr rfl|assumption)
  (g6:‹sc.kind=.function›) (g7:autoParam (∀y∈sc.names,y.2 ≠ .cell) zdc._auto_1) (iF:autoParam (∀y∈sc.names,y.2=.local->sc.names.lookup y.1=Z .local) zdc._auto_1)
  (iX:‹(sc.names.all λy=>y.2 != .free ||(X.env.kindOf y.1==Z .cell||X.env.kindOf y.1==Z .free))=true›)
  (hs:∀x,foldedSetIterable iter X.env x=pure x:=by intro _;rfl):PS X (.Assign [.Name y py] (.ListComp elt [(tg,iter,ifs,0)] sc pos) e7) (ja (uE cap wi g tst te) (fW i)):=by
 intro gd s σ H Dn I h;rw[exec_Assign_Name_used _ _ _ _ Q];refine cZ (wpAny_standAt (cZ ?_));refine cZ (Nz (y3 hc hi g6 g7 iF (CH iX) uq K I h (λD C m H' s' I' P hn q=>?_) hs)
  (λ_ s' hq=>kq (kq hq)) λ_ _ e=>e)
 let(o,es,ep,ho,hd,hr):=id hn;have I2:=I'.pinned (λb K=>by rw[fy.mp K];exact P) λb K=>by
  rw[fy.mp K];exact(o,ho,λv=>by rw[hd];simp)
 refine wpAny_assign_Name (gJ I2 hN ak hy (v:=.ref D) U (λs2 I3=>?_) hf)
 have z:=(I3.pin (C,o) (pA _ (pA _ (fT (fy.mpr U) ho)))).1;refine(m,(o,es,ep,z,hd,hr),λh' V=>(_,H',?_,q))
 exact I3.lK.turned (λb o K e=>V.extBut b o K e) P.1 P.2.1 P.2.2.2.1 P.2.2.2.2.1 P.2.2.2.2.2
variable{a:J}
section
theorem ve{K:BT}{xs:List V}{g:TG}{σ:St}{Q:VK}(Pv:Nat->List V->St->Hp->Prop)(h0:Pv 0 [] σ H)
  (hl:∀i ys σ H,i<=xs.length->Pv i ys σ H->SqL K H a xs/\ys.length<pq)
  (hs:∀i x ys σ H,xs[i]?=Z x->Pv i ys σ H->g x σ H λz H3=>tst z H3 λb H4=>if b=O then te z H4 λy H5=>Pv (i+1) (ys ++ [y]) z H5 else Pv (i+1) ys z H4)
  (hd:∀ys σ H,Pv xs.length ys σ H->∀D,H D=Y->Q (.ref D) (upd H D (.lst ys))):
  OD g tst te σ Q (Itl K a) H:=by
 refine(λi m ys σ H=>m=xs.length - i/\i<=xs.length/\Pv i ys σ H,(xs.length,by simp,wh _,h0),?_)
 rintro i m ys σ H ⟨rfl,hi,p⟩
 let(q,hz):=hl i ys σ H hi p;by_cases P:i<xs.length
 ·refine .inr ((xs,xs[i],q,by simp[P]),hz,Pv (i+1),λar ak H' p'=>(xs.length - (i+1),by lia,U,P,p'),λx H' y=>?_)
  let(e,y):=y;subst e;exact hs i x ys σ _ (y xs q) p
 ·have e:i=xs.length:=by omega
  subst e;exact .inl ((xs,q,nY _),sV hz,hd ys σ H p)
inductive SH(x:V)(lo:Option Int)(hi:Option Int)(H:Hp)(Q:VK):Prop
 |mk(z:_)(h1:x=.str z)(h2:z.length<=pq)(h3:Q (.str (Txt.slice z lo hi)) H)
def Pf:SlR X SH:=by
 intro gd s σ H x v vl vu lo hi sl Q I V hs pl pu h;let(z,U,g,q):=h;let(t,U):=V;refine("str",_,PySem.F.slot_str_getitem.lookup,typeIs_str s z t,?_);let(o,h1,h2,h3):=hs;have fin:∀y t' k,y=Txt.slice z lo hi->EP X gd σ Q (.str y t') {s with toks:=k}:=λy t' k e=>by subst e;exact(.str _,H,I.tok k,(_,U),q)
 cases pl with
 |none =>
  cases pu with
  |none=>exact wpAny_getItem_str_slice (l:=Y) (u:=Y) (st:=Y) (o,h1,h2,h3) U (post_val_or_str (sR (Txt.slice_le z _ _) g,λt' k=>fin _ t' k U))
  |int j K=>exact wpAny_getItem_str_slice (l:=Y) (u:=Z (j,K)) (st:=Y) (o,h1,h2,h3) U (post_val_or_str (sR (Txt.slice_le z _ _) g,λt' k=>fin _ t' k U))
 |int i P =>
  cases pu with
  |none=>exact wpAny_getItem_str_slice (l:=Z (i,P)) (u:=Y) (st:=Y) (o,h1,h2,h3) U (post_val_or_str (sR (Txt.slice_le z _ _) g,λt' k=>fin _ t' k U))
  |int j K=>exact wpAny_getItem_str_slice (l:=Z (i,P)) (u:=Z (j,K)) (st:=Y) (o,h1,h2,h3) U (post_val_or_str (sR (Txt.slice_le z _ _) g,λt' k=>fin _ t' k U))
def z6{ys:List Str}:∀{us:List B},Vals (ys.map V.str) us->StrsAre us ys:=by
 induction ys with
 |nil=>intro us r;cases r;exact .nil
 |cons n ns z =>
  intro us r;cases r with
  |cons q g =>
   let(t,e):=q;subst e;exact .cons n t (z g)
inductive rJoin(K:BT)(x:V)(xs:List V)(H:Hp)(Q:VK):Prop
 |mk(sep l ys:_)(h1:x=.str sep)(h2:xs=[.ref l])(h3:SqL K H l (ys.map V.str))(h4:(ys.map (·.length)).sum+ys.length*sep.length<=16777216)(h5:Q (.str (Txt.join sep ys)) H)
def MC:MtR X "str.join" (rJoin X.K):=by
 intro gd s σ H x xs v us Q I g rs h;let(sep,l,ys,U,U,hl,hw,q):=h;let(t,U):=g;let(u,U,ru):=Vals.one rs;cases ru;let(its,r,z,P):=I.list hl;exact join_list z.isList (by simpa using z6 r) hw λt' k=>(.str _,H,I.tok k,(_,U),q)
def KC{bs:List Bool}:∀{us:List B}{i:Nat}{v:B},Vals (bs.map V.bl) us->us[i]?=Z v->∃b,bs[i]?=Z b/\v=.bool b:=by
 induction bs with
 |nil=>intro us i v r h;cases r;simp at h
 |cons b bs z =>
  intro us i v r h;cases r with
  |cons q g =>
   cases i with
   |zero =>
    simp only[List.getElem?_cons_zero,Option.some.injEq]at h;subst h;exact(b,by simp,q)
   |succ i =>
    let(c,h1,h2):=z g (by simpa using h)
    exact(c,by simpa using h1,h2)
def all_range(bs:List Bool):(Fh bs.length).all (λi=>bs.getD i ϊ)=bs.all id:=by
 have e:(Fh bs.length).map (λi=>bs.getD i ϊ)=bs:=by
  apply List.ext_getElem
  ·simp
  ·intro i h1 h2;simp at h1;simp[h1]
 conv=>rhs;rw[<- e]
 rw[XN];rfl
def JG(hc:X.calm=O):bY X (.builtin "all") (λxs H Q=>∃(l:J)(bs:List Bool),xs=[.ref l]/\SqL X.K H l (bs.map V.bl)/\Q (.bl (bs.all id)) H):=by
 intro gd s σ H xs us Q I r h;let(l,bs,U,hl,q):=h;let(u,U,ru):=vals1 r;cases ru;let(its,P,g,hz):=I.list hl;have z:l<s.heap.objs.size:=by let(_,e,_):=g.isList;exact jR e
 have hlen:its.toArray.size=bs.length:=by
  have e:=P.length;rw[dN]at e;simp[e]
 refine call_all_walk (wpAny_pyIter_list g.isList ((s.heap.objs.size,[s.heap.objs.size,l],[s.heap.objs.size],its.toArray.size,_,_,λi=>bs.getD i ϊ,U,Walks.list (show X.A.in1.handled=Y from I.ok.hd hc) s.heap.objs.size l (rz z) its.toArray,((_,px _ U,U,U),g.isList.push _),?_,λh' tk hk=>?_)))
 ·intro i v s' Q' E' hP hq;let(b,h1,U):=KC P (by simpa using hP)
  have e:bs.getD i ϊ=b:=by simp[h1]
  exact wpAny_truthy_bool (e▸hq)
 ·refine(.bl _,H,I.kept λb o e=>hk b o (by simpa using rz (jR e)) (ft _ e),U,?_)
  rw[hlen,all_range];exact q
theorem JF:bY X (.builtin "isinstance") (λxs H Q=>∃x T t b,xs=[x,.ty T]/\ko X.K H x t/\W.kitOne X.K t (.type T)=Z b/\Q (.bl b) H):=by
 intro gd s σ H xs us Q I r h;let(x,T,t,b,U,ty,e,q):=h;let(u,z,U,ru,g):=vals2 r;cases g;exact EC I ru ty e λtk=>(.bl b,H,I.tok tk,U,q)
end
variable{I:J}{fp:List J}{n:Nat}{ty:String}{Q:B->ϋ->Prop}
section
variable{w:Cl}{E:B->ϋ->Prop}{s:ϋ}
def Ej:typeLookup (.type "list_reverseiterator") "__len__"=pure none:=by kernel_rfl
def Jb:typeLookup (.type "list_reverseiterator") "__length_hint__"=pure (Z (.builtin "list_reverseiterator.__length_hint__")):=by kernel_rfl
def ID{Q:Bool->ϋ->Prop}(hT:s.TypeIs (.ref I) "list_reverseiterator")(z:∀b tk,s.toks<=tk->Q b {s with toks:=tk}):wpAny (model prog w) A (Builtin.List.listLengthHint (.ref I)) Q E s:=by
 refine cZ (WL hT Ej ?_);refine cZ (WL hT Jb ?_)
 generalize g:("list_reverseiterator.__length_hint__")=q
 wp_delta
 rw[show splitId q=Z ("list_reverseiterator","__length_hint__")from by subst g;decide +kernel]
 subst g;refine cZ (WY (b:=O) hT (by kernel_rfl) ?_)
 exact kq (z _ _ (nY _))
theorem yR{R:Result->ϋ->Prop}{wr:List J}{P:Nat->B->Prop}{St:Nat->Do->Prop}(W:Walks prog w A.in1 I fp wr n P St)(hT:∀i (s:ϋ),St i s.heap->s.TypeIs (.ref I) ty)
  (aN:(B.type ty == .type "list" || Value.type ty == .type "tuple")=ϊ) (aA:∀x ∈ ["set","frozenset","dict","dict_keys","dict_values","dict_items"],(B.type ty == .type x)=ϊ)
  (hint:∀(s:ϋ)(Q:Bool->ϋ->Prop)(E:B->ϋ->Prop),St 0 s.heap->(∀b tk,s.toks<=tk->Q b {s with toks:=tk})->wpAny (model prog w) A.in1 (Builtin.List.listLengthHint (.ref I)) Q E s)
  (S:J) (res:B) (c₀:Nat) (q:St 0 s.heap) (ak:S ∉ fp) (hI:I∈fp) (hS:s.heap.get? S=Z {cls:=.type "list",data:=.seq #[] c₀})
  (hR:∀s' oZ K,Moved (S::wr) (λg g'=>g'=g) s s'->s'.heap.get? S=Z {cls:=.type "list",dict:=Y,data:=.seq oZ K,slots:=#[]}->ItemsOf P oZ n->R (.ok (.ret res)) s') (hn:n<=pq):
  wpAny (model prog w) A.in1 (Builtin.List.listExtendWith (.ref S) (.ref I) res)
   (λfin s'=>match fin with|.done f=>R (.ok f) s' |.again K=>K.quiet=O/\codeAny (model prog w) A K R s') (λe s'=>R (.error e) s') s:=by
 have aP:S≠I:=λe=>ak (e▸hI)
 have h1:Builtin.List.listSameRef (.ref S) (.ref I)=false:=by simp[Builtin.List.listSameRef,aP]
 refine cZ (VD (hT 0 _ q) ?_);rw[if_neg (by rw[Bool.or_assoc,h1,aN];decide)]
 refine cZ (W.self 0 _ _ _ q (cZ (BI (hint _ _ _ q λb tk htk=>?_))))
 have tail:∀h' V c,s.toks<=V->(∀b o,b≠S->s.heap.get? b=Z o->h'.get? b=Z o)->h'.get? S=Z {cls:=.type "list",dict:=Y,data:=.seq #[] c,slots:=#[]} ->
   wpAny (model prog w) A.in1 (again (.builtin "list.extend.loop" ([.ref S,.ref I,res],[]))) (λfin s'=>match fin with|.done f=>R (.ok f) s' |.again K=>K.quiet=O/\codeAny (model prog w) A K R s') (λe s'=>R (.error e) s') {s with heap:=h',toks:=V}:=by
  intro h' V c ht hk aT;exact kq (R3 F.plain_extend_loop _,codeAny_extend_loopS W.toS hn _ ak _ n 0 _ _ _ U (wh _) (W.frame 0 s.heap _ q λb hb o e=>hk b o (λz=>ak (z▸hb)) e) aT (ItemsOf.nil P) λs' oZ K hm Bk jc=>hR s' oZ K (λb o hb e=>hm.heap b o hb (hk b o (λz=>hb (by rw[z];exact lD)) e),hm.gens,hm.drawn,hm.os,sR ht hm.toks) Bk jc)
 cases b with
 |false =>
  rw[if_neg ?_]
  ·exact tail _ _ _ htk (λ_ _ _ e=>e) hS
  ·intro z;rw[X9,Wg]at z;let(x,hx,hz):=z;rw[aA x hx]at hz;cases hz
 |true =>
  refine cZ (Wo (cZ ?_));refine cZ (Ul hS U ?_);have ar:=ui (QG (·.push B.none)) hS U;refine Ul ar U ?_;have aS:=ui (QG (·.pop)) ar U;exact tail _ _ _ htk (λb o hb e=>(sT _ _ (Ne.symm hb)).trans ((sT _ _ (Ne.symm hb)).trans e)) aS
theorem sH{wr:List J}{P:Nat->B->Prop}{St:Nat->Do->Prop}(W:Walks prog w A.in1.in1 I fp wr n P St)(hT:∀i (s:ϋ),St i s.heap->s.TypeIs (.ref I) ty)
  (ar:(B.type ty == .type "list" || Value.type ty == .type "tuple")=ϊ) (ak:∀x ∈ ["set","frozenset","dict","dict_keys","dict_values","dict_items"],(B.type ty == .type x)=ϊ)
  (hint:∀(s:ϋ)(Q:Bool->ϋ->Prop)(E:B->ϋ->Prop),St 0 s.heap->(∀b tk,s.toks<=tk->Q b {s with toks:=tk})->wpAny (model prog w) A.in1.in1 (Builtin.List.listLengthHint (.ref I)) Q E s)
  (aA:St 0 s.heap) (aN:∀b∈fp,b<s.heap.objs.size) (hI:I∈fp)
  (hQ:∀s' oZ c',Moved (s.heap.objs.size::wr) (λg g'=>g'=g) {s with heap:=s.heap.push {cls:=.type "list",data:=.seq #[]}} s' ->
   s'.heap.get? s.heap.objs.size=Z {cls:=.type "list",dict:=Y,data:=.seq oZ c',slots:=#[]}->ItemsOf P oZ n->Q (.ref s.heap.objs.size) s') (hn:n<=pq):
  wpAny (model prog w) A (call (.type "list") [.ref I]) Q E s:=by
 have V:=λhm=>BH _ (aN _ hm)
 refine callType_codes (Q₁:=λobj q=>obj=.ref s.heap.objs.size/\q={s with heap:=s.heap.push {cls:=.type "list",data:=.seq #[]}}) F.called_list (F.typeCall_list_1 _) F.entry_list_init (code_list_new _ (U,U)) λobj q h₁=>?_
 let(U,U):=h₁;have hS:(s.heap.push {cls:=.type "list",data:=.seq #[]}).get? s.heap.objs.size=Z {cls:=.type "list",data:=.seq #[]}:=px _ U;refine((_,hS,U),F.args_list_init_2 _ _,?_);refine cZ ?_;refine cZ (wpAny_seqItems hS U (kq ?_));refine cZ (Ul hS U ?_);have aP:=ui (QG (λ_=>(#[]))) hS U
 have oth:∀b o,b≠s.heap.objs.size->(s.heap.push {cls:=.type "list",data:=.seq #[]}).get? b=Z o->((s.heap.push {cls:=.type "list",data:=.seq #[]}).update s.heap.objs.size (QG (λ_=>(#[])))).get? b=Z o :=
  λb o K e=>(sT _ _ (Ne.symm K)).trans e
 exact yR (hn:=hn) W hT ar ak hint s.heap.objs.size .none _ (W.frame 0 s.heap _ aA λb K o e=>oth b o (λz=>V (z▸K)) (ft _ e)) V hI aP λs' oZ c' hm aS jc=>((U,hQ s' oZ c' (λb o K e=>hm.heap b o K (oth b o (λz=>K (by rw[z];exact lD)) e),hm.gens,hm.drawn,hm.os,hm.toks) aS jc))
end
def qy(K:BT)(te:TE):TE:=λσ H Q=>te σ H λx H1=>∃l ys,x=.ref l/\SqL K H1 l ys/\∀q,H1 q=Y->Q (.ref q) (upd H1 q (.lst ys.reverse))
def FD{its:Array B}{acc:Array B}{ys:List V}(r:Vals ys its.toList)(h:ItemsOf (λi v=>its[its.size - 1 - i]?=Z v) acc its.size):Vals ys.reverse acc.toList:=by
 have e:acc.toList=its.toList.reverse:=by
  apply Yh
  intro i;by_cases hi:i<its.size
  ·have h1:i<acc.size:=by rw[h.1];exact hi
   have h2:=h.2 i acc[i] (by simp[h1])
   rw[List.getElem?_reverse (by simpa using hi)]
   simp only[WD,XS];rw[h2];simp[h1]
  ·have h1:¬ i<acc.size:=by rw[h.1];exact hi
   rw[Uk (by simpa using h1),Uk (by simpa using hi)]
 rw[e];exact Vals.reverse r
variable{l:J}
def Eu{σ:St}{s:ϋ}{Q:VK}{ob:Obj}{tk:Nat}{P:Nat->B->Prop}{St:Nat->Do->Prop}{ys:List V}(I:Inv X gd σ H s)(aA:l<s.heap.objs.size)(W:Walks X.prog X.w X.A.in1.in1 s.heap.objs.size [s.heap.objs.size,l] [s.heap.objs.size] n P St)(hT:∀i (s':ϋ),St i s'.heap->s'.TypeIs (.ref s.heap.objs.size) ty)
  (ak:(B.type ty == .type "list" || Value.type ty == .type "tuple")=ϊ) (K:∀x ∈ ["set","frozenset","dict","dict_keys","dict_values","dict_items"],(B.type ty == .type x)=ϊ)
  (hint:∀(s':ϋ)(Q:Bool->ϋ->Prop)(E:B->ϋ->Prop),St 0 s'.heap->(∀b tk,s'.toks<=tk->Q b {s' with toks:=tk})->wpAny (model X.prog X.w) X.A.in1.in1 (Builtin.List.listLengthHint (.ref s.heap.objs.size)) Q E s')
  (ar:St 0 (s.heap.push ob)) (hv:∀acc,ItemsOf P acc n->Vals ys acc.toList) (hz:ys.length<=pq) (hn:n<=pq) (q:∀p,H p=Y->Q (.ref p) (upd H p (.lst ys))):
  Zc X (call (.type "list") [.ref s.heap.objs.size]) (EP X gd σ Q) X.xe {s with heap:=s.heap.push ob,toks:=tk}:=by
 refine sH W hT ak K hint ar (λb g=>?_) (by simp) (λs' oZ c' hm aN jc=>?_) hn
 ·rw[v3];obtain z|z:=ot.mp g
  ·rw[z];exact Wl _
  ·rw[fy.mp z];exact WR aA
 ·rw[Moved.eq_with hm];have kp:=λb o e=>hm.heap b o (λz=>by
   have g:@LT.lt Nat _ b s.heap.objs.size:=jR e;obtain z|z:=ot.mp z
   ·rw[z]at g;simp only[v3]at g
    lia
   ·rw[fy.mp z]at g
    lia) (ft _ (ft _ e))
  have hf:H ((s.heap.push ob).objs.size)=none:=I.hok.fresh (by rw[v3];omega)
  exact(.ref _,_,I.laid (o:=.lst ys) kp (by rw[v3];omega) (hz,oZ.toList,c',hv oZ jc,by simpa using aN),U,q _ hf)
variable{e:Ev}
def rg{p1 p2 fk pos:Pos}(hc:X.calm=O)(aN:Gl X "list")(ar:X.mg "list"=Y)(aA:Gl X "reversed")(ak:X.mg "reversed"=Y)(he:PE X e te)
  (g:‹AD X e›) (V:‹m4 [.Call (.Name "reversed" p2) [e] [] fk] X.env=[(ϊ,eval (.Call (.Name "reversed" p2) [e] [] fk) X.env)]›):
  PE X (.Call (.Name "list" p1) [.Call (.Name "reversed" p2) [e] [] fk] [] pos) (qy X.K te):=by
 left;refine RZ (gE I aN ar boot_list (PyProof.Rows.callWith_type1 ?_ V U));show wpAny _ _ (spliced ((ϊ,eval (.Call (.Name "reversed" p2) [e] [] fk) X.env)::backTo pos (m4 [] X.env))) _ _ s;refine Calls.spliced_cons (RZ (gE I aA ak boot_reversed (PyProof.Rows.callWith_type1 ?_ g U)));rw[g];refine Calls.spliced_cons (thn (he gd s σ H _ I h) λu s1 aP=>?_)
 let(x,H1,I1,r1,l,ys,ex,hl,q):=aP;subst ex;cases r1;refine Calls.spliced_nil ?_;let(its,rv,P,hz):=I1.list hl;have z:l<s1.heap.objs.size:=by let(_,e,_):=P.isList;exact jR e
 refine call_reversed_list P.isList (Calls.spliced_nil ?_);have W:=Walks.listRev (prog:=X.prog) (w:=X.w) (A:=X.A.in1.in1) (I.ok.hd hc) s1.heap.objs.size l (rz z) its.toArray;exact Eu I1 z W (λi s' st=>st.2.1.typeIs) (by decide) (by decide) (λs' Q' E' st hq=>ID st.2.1.typeIs hq) (wh _,(_,px _ U,U,by simp[revObj]),P.isList.push _) (λacc h=>FD (by simpa using rv) h) (by rw[X7];exact hz) (by rw[ri,<- rv.length];exact hz) q
variable{x:Str}
section
def rh{y:J}{pos:Pos}(hg:Gl X x)(hm:X.mg x=Z (.ref y))(hd:autoParam (AS x) zdc._auto_1):PE X (.Name x pos) (tC (.ref y)):=L9 hg hm U hd
def J9(_ j:Int):Prop:=0<j/\j<18446744073709551616
def yk:OpR X (binaryOp .FloorDiv) (rI J9 λi j=>.int (i / j)):=opI λi j _ _ _ _ _ g q=>by
 let(h1,h2):=g;have e:i.fdiv j=i / j:=Int.fdiv_eq_ediv_of_nonneg _ (by lia)
 refine floordiv_int (by lia) (by rw[e];exact q) (.inl (PyProof.noPylong_of_log2 ?_))
 have h3:j.natAbs<2 ^ 64:=by omega
 have h4:j.natAbs≠0:=by lia
 exact W9 ((Nat.log2_lt h4).mpr h3) (by decide)
def DL{ys:List Str}{its:Array B}(v:Vals (ys.map V.str) its.toList)(h:autoParam (ys.length<=1000) zdc._auto_1):its.size<=pq:=by
 have e:=v.length;rw[dN]at e;have g:its.toList.length=its.size:=by simp
 have:(1000:Nat)<=pq:=by decide
 omega
end
def dk(s n:Int)(l:J):List (Key×V):=[(.inr "seed",.int s),(.inr "number",.int n),(.inr "left",.ref l)]
def EN{s n:Int}:cz (dk s n l) (.inr "number":Key)=Z (.int n):=by kernel_rfl
def Nc{s n:Int}:cz (dk s n l) (.inr "left":Key)=Z (.ref l):=by kernel_rfl
variable{m:Int}
def As{s n:Int}:putK (dk s n l) (.inr "number":Key) (.int m)=dk s m l:=by kernel_rfl
def Hq{s n:Int}:putK (dk s n l) (.inr "seed":Key) (.int m)=dk m n l:=by kernel_rfl
structure cQ(H:Hp)(d l:J)(s n:Int)(ls:List Int):Prop where
 hd:H d=Z (.dK (dk s n l))
 hl:H l=Z (.lst (ls.map V.int))
 s0:0<=s
 s1:s<2147483647
 n0:0<=n
 l0:∀x∈ls,0<=x
def m7(H:Hp)(d l:J):Prop:=∃s n ls,cQ H d l s n ls
def Kp(d l:J)(H H':Hp):Prop:=∀b o,H b=Z o->b≠d->b≠l->H' b=Z o
variable{d:J}
def Kp.refl:Kp d l H H:=λ_ _ h _ _=>h
variable{ls:List Int}
def cQ.ne{s n:Int}(D:cQ H d l s n ls):d≠l:=gT D.hd D.hl (by intro z;cases z)
def cQ.num{s n:Int}(D:cQ H d l s n ls)(h:0<=m):cQ (upd H d (.dK (putK (dk s n l) (.inr "number":Key) (.int m)))) d l s m ls :=
 (by rw[au,As],by rw[aj D.ne.symm];exact D.hl,D.s0,D.s1,h,D.l0)
def cQ.U2{s n:Int}(D:cQ H d l s n ls)(h:0<=m)(h2:m<2147483647):cQ (upd H d (.dK (putK (dk s n l) (.inr "seed":Key) (.int m)))) d l m n ls :=
 (by rw[au,Hq],by rw[aj D.ne.symm];exact D.hl,h,h2,D.n0,D.l0)
def cQ.list{s n:Int}{ls':List Int}(D:cQ H d l s n ls)(h:∀x∈ls',0<=x):cQ (upd H l (.lst (ls'.map V.int))) d l s n ls' :=
 (by rw[aj D.ne];exact D.hd,au,D.s0,D.s1,D.n0,h)
variable{H1:Hp}{o:HO}
def Kp.OP(a:Kp d l H H1):Kp d l H (upd H1 d o):=λc u h h1 h2=>by rw[aj h1];exact a c u h h1 h2
def Kp.UW(a:Kp d l H H1):Kp d l H (upd H1 l o):=λc u h h1 h2=>by rw[aj h2];exact a c u h h1 h2
def lC.new{p:J}(a:lC H H1)(hp:H1 p=Y):lC H (upd H1 p o):=λc u h=>by
 have z:=a c u h;rw[aj (aL z hp)];exact z
def m7.new{p:J}(D:m7 H d l)(hp:H p=Y):m7 (upd H p o) d l:=by
 let(s,n,ls,D):=D;exact(s,n,ls,by rw[aj (aL D.hd hp)];exact D.hd,by rw[aj (aL D.hl hp)];exact D.hl,D.s0,D.s1,D.n0,D.l0)
inductive F6(vs:List V)(H:Hp)(Q:VK)(_:XK):Prop
 |mk(d l:J)(m:Int)(h1:vs=[.ref d,.int m])(h2:m7 H d l)(h3:0<m)(h4:m<18446744073709551616)(h5:∀(r:Int)(H':Hp),0<=r->r<m->m7 H' d l->Kp d l H H'->Q (.int r) H')
inductive Pd(K:BT)(vs:List V)(H:Hp)(Q:VK)(_:XK):Prop
 |mk(a:J)(ns:List Int)(b:Int)(h1:vs=[.ref a,.int b])(h2:SqL K H a (ns.map V.int))(h3:ns.length<=63)(h4:0<=b)(h5:b<=63)(h6:∀(d l:J)(H':Hp),H d=Y->H l=Y->m7 H' d l->lC H H'->Q (.ref d) H')
variable{D:Ends}
def Dz{c:TT}{tb:TS}{σ:St}(I:Nat->St->Hp->Prop){m:Nat}(h0:I m σ H)(q:∀m σ H,I m σ H->D.nx σ H)
  (hs:∀m σ H,I m σ H->D.nx σ H->c σ H λb H1=>if b=O then ∃N:St->Hp->Prop,(∀g H',N g H'->∃m',m'<m/\I m' g H')/\tb {D with nx:=N,ct:=N,bk:=D.nx} σ H1 else D.nx σ H1):zV c tb D σ H :=
 (I,(m,h0),λm σ H h=>hs m σ H h (q m σ H h))
def cQ.Jg{s n:Int}(D:cQ H d l s n ls):ie H d (.str "seed") (Z (.int s)):=by
 have z:=ie.k (k:=(Sum.inr "seed")) D.hd;exact z
def cQ.Ut{s n:Int}(D:cQ H d l s n ls):ie H d (.str "number") (Z (.int n)):=by
 have z:=ie.k (k:=(Sum.inr "number")) D.hd;rw[EN]at z;exact z
def cQ.Ov{s n:Int}(D:cQ H d l s n ls):ie H d (.str "left") (Z (.ref l)):=by
 have z:=ie.k (k:=(Sum.inr "left")) D.hd;rw[Nc]at z;exact z
def cQ.To{s n:Int}(D:cQ H d l s n ls):xu H d (.str "number") (.int m) (upd H d (.dK (putK (dk s n l) (.inr "number":Key) (.int m)))) :=
 xu.k (k:=(Sum.inr "number")) D.hd (aD (by show 3<=1000;decide))
def cQ.Tj{s n:Int}(D:cQ H d l s n ls):xu H d (.str "seed") (.int m) (upd H d (.dK (putK (dk s n l) (.inr "seed":Key) (.int m)))) :=
 xu.k (k:=(Sum.inr "seed")) D.hd (aD (by show 3<=1000;decide))
def mod_lt{x:Int}(h:0<m):0<=x % m/\x % m<m:=(Int.emod_nonneg _ (by lia),Int.emod_lt_of_pos _ h)
end L2
namespace L2
def JC(ns:List Int)(lo hi:Option Int):∃cs:List Int,mR (ns.map V.int) lo hi=cs.map V.int/\cs.length<=ns.length:=by
 refine((ns.drop (HT.sIx ns.length 0 lo)).take (HT.sIx ns.length ns.length hi - HT.sIx ns.length 0 lo),?_,?_)
 ·unfold mR;rw[dN,<- Xy,<- Xf]
 ·rw[qp,Fs];exact sR (XC _ _) (Ys _ _)
variable{ns:List Int}
def int_at{i:Nat}{x:V}(h:(ns.map V.int)[i]?=Z x):∃z,x=.int z:=by
 rw[gs]at h;cases e:ns[i]? with
 |none=>rw[e]at h;cases h
 |some z=>rw[e]at h;exact(z,(Option.some.inj h).symm)
def MQ{i:Nat}{x:V}(h:(ns.map V.int)[i]?=Z x):∃z,x=.int z/\z∈ns:=by
 rw[gs]at h;cases e:ns[i]? with
 |none=>rw[e]at h;cases h
 |some z=>rw[e]at h;exact(z,(Option.some.inj h).symm,mu e)
end L2
namespace L2
open PySem
def RI{α:Type}{xs:List α}{i:Int}(h0:0<=i)(h1:i<xs.length):∃v,atI xs i=Z v/\v∈xs:=by
 obtain⟨n,rfl⟩:∃n:Nat,i=n:=(i.toNat,by lia)
 have h2:n<xs.length:=by lia
 refine(xs[n],?_,WW h2);unfold atI ixN;simp[h2]
variable{n:Nat}
def bx(h:n<=10000):n<=pq:=by
 have:(10000)<=pq:=by decide
 lia
end L2
namespace L2
end L2
namespace L2
open PySem PySem.Spec PyProof.Rows
def strOf:Ev->Option Str
 |.Constant (.str x) _ _=>Z x
 |_=>Y
def strsOf:List Ev->Option (List Str)
 |[]=>Z []
 |e::r=>(strOf e).bind λx=>(strsOf r).map (x :: ·)
variable{e:Ev}{x:Str}
def DI(h:strOf e=Z x):∃j p,e=.Constant (.str x) j p:=by
 cases e with
 |Constant c j p=>cases c with
  |str y=>cases h;exact(j,p,U)
  |_=>cases h
 |_=>cases h
variable{X:Cx}{es:List Ev}
def Mg:∀{ws:List Str},strsOf es=Z ws->PA X es (λ_ H Q=>Q (ws.map V.str) H):=by
 induction es with
 |nil=>intro ws h;cases h;exact cJ
 |cons e es q =>
  intro ws h;let(x,h1,h2):=XF.mp h;let(g,h3,U):=gV.mp h2;let(j,p,U):=DI h1;exact bh di (q h3)
end L2
namespace L2
variable{H:Hp}
def M0{i:Nat}{x:V}{σ:St}{A Yx:St->Hp->Prop}(h:A (σ.set i (Z x)) H):fW i x σ H λg z=>BM g z λb q=>if b=O then A g q else Yx g q:=by
 show if O=O then A (σ.set i (Z x)) H else Yx (σ.set i (Z x)) H
 exact h
end L2
namespace L2
end L2
namespace L2
open PySem PySem.Spec PyProof.Rows
section
variable{X:Cx}
def jb(z:Str)(n:Nat):Str:=⟨(Fi n z.cps).foldl (· ++ ·) #[]⟩
theorem xU(c:Array Nat):∀(n:Nat)(acc:Array Nat),((Fi n c).foldl (· ++ ·) acc).size=acc.size+n*c.size
 | 0,acc=>by simp
 |n+1,acc=>by
  rw[List.replicate_succ,List.foldl_cons,xU c n,Array.size_append,Nat.add_mul]
  lia
def gW(z:Str)(n:Nat):(jb z n).length=n*z.length:=by
 have h:=xU z.cps n #[];simpa [jb,Str.length]using h
def AF:OpR X (binaryOp .Mult) (λx y H Q=>∃z n,x=.str z/\y=.int n/\0<=n/\n<=1000/\z.length<=1000/\Q (.str (jb z n.toNat)) H):=by
 intro gd s σ H x y v u Q I V K h;let(z,n,U,U,n0,n1,hz,q):=h;let(t,U):=V;let(t',U):=K;have fin:∀(y:Str)(t' k:Nat),y=jb z n.toNat->EP X gd σ Q (.str y t') {s with toks:=k}:=λy t' k e=>by subst e;exact(.str _,H,I.tok k,(_,U),q)
 have hp:=by
  have h1:(z.length:Int)*n<=1000*n:=Int.mul_le_mul_of_nonneg_right (by omega) n0
  omega
 refine P.mul_str ?_ (λh1 _=>?_) (λh1 _=>?_) ?_
 ·rw[decide_eq_false (by omega),decide_eq_false (by omega)];rfl
 ·have h2:(1000:Int) <=(2 ^ 63 - 1) / n:=by
   rw[Int.le_ediv_iff_mul_le (by omega)]
   omega
  omega
 ·have h2:=by
   have e:((z.length*n.toNat:Nat):Int)=(z.length:Int)*n:=by rw[XR,Wi n0]
   omega
  have:=WA
  exact decide_eq_false (by omega)
 ·by_cases h1:n<1
  ·rw[if_pos h1];have e:n.toNat=0:=by omega
   exact(by decide,fin _ _ _ (by rw[e];rfl))
  ·rw[if_neg h1];by_cases h2:(n==1||z.length==0)=O
   ·rw[if_pos h2];refine fin z t s.toks ?_;have h3:=by simpa using h2
    obtain h3|h3:=h3
    ·subst h3;show z=⟨#[]++z.cps⟩;simp
    ·have e1:z.cps=#[]:=by simpa [Str.length]using h3
     have g:=gW z n.toNat;rw[h3]at g;have e3:=by simpa [Str.length]using g
     exact Str.ext' (by rw[e1,e3])
   ·rw[if_neg h2];refine(?_,fin _ _ _ U);have e:=gW z n.toNat;have h3:=by
     have e:((n.toNat*z.length:Nat):Int)=(z.length:Int)*n:=by rw[XR,Wi n0,Int.mul_comm]
     omega
    have:=WA
    show(jb z n.toNat).length<=pq;omega
end
end L2
namespace L2
open PySem
def rK(n:Nat):Nat:=97+n % 26
def dh(c1 c2:Str)(turn k:Nat):Str:=c1++⟨#[rK (turn+7*k)]⟩++c2++jb "x" (k % 2)++jb "y" (k / 26)
def sJ(c1 c2:Str)(turn k:Nat):(dh c1 c2 turn k).cps.toList=c1.cps.toList++rK (turn+7*k) ::(c2.cps.toList++(jb "x" (k % 2)).cps.toList++(jb "y" (k / 26)).cps.toList):=by
 simp[dh,Str.cps_append]
def vp(c1 c2:Str)(turn k:Nat):(dh c1 c2 turn k).length=c1.length+1+c2.length+k % 2+k / 26:=by
 unfold dh;rw[Str.length_append,Str.length_append,Str.length_append,Str.length_append,gW,gW,show(⟨#[rK (turn+7*k)]⟩:Str).length=1 from U,show(Str.ofString "x").length=1 from by decide +kernel,show(Str.ofString "y").length=1 from by decide +kernel]
 lia
def UK{a:List Nat}{x y:Nat}{b c:List Nat}(h:a++x::b=a++y::c):x=y:=by
 have:=WG h
 exact(List.cons.inj this).1
variable{turn:Nat}{j:Nat}
def Ew{k:Nat}(hk:k<52)(g:j<52)(h:rK (turn+7*k)=rK (turn+7*j)):k % 26=j % 26:=by
 have h':∀a:Fin 26,∀b:Fin 26,∀c:Fin 26,(a.val+7*b.val) % 26=(a.val+7*c.val) % 26->b=c:=by decide +kernel
 have e:∀k,(turn % 26+7*(k % 26)) % 26=(turn+7*k) % 26:=λk=>by rw[Nat.add_mod,Nat.mod_mod,Nat.mul_mod_mod,<- Nat.add_mod]
 have h:(turn+7*k) % 26=(turn+7*j) % 26:=Nat.add_left_cancel h;rw[<- e,<- e j]at h;exact congrArg Fin.val (h' (turn % 26,Yc _ (by decide)) (k % 26,Yc _ (by decide)) (j % 26,Yc _ (by decide)) h)
def BZ:(jb "y" 1).cps.toList=[121]:=by decide +kernel
def xT(z:Str):(jb z 0).cps.toList=[]:=by simp[jb]
variable{c1:Str}{c2:Str}
def vK{k:Nat}(hk:k<52)(V:j<52)(P:k≠j){e f:Str}(he:e=Str.empty\/e="q")(hf:f=Str.empty\/f="q"):dh c1 c2 turn k++e≠dh c1 c2 turn j++f:=by
 intro h;have K:=by
  have:=congrArg (λz=>z.cps.toList) h
  simpa [Str.cps_append]using this
 have hl:(dh c1 c2 turn k).length+e.length=(dh c1 c2 turn j).length+f.length:=by
  rw[<- Str.length_append,h,Str.length_append]
 rw[sJ,sJ]at K;simp only[u4,XE]at K;have hm:=Ew hk V (UK K);have h1:k % 2=j % 2:=by rw[<- Yd k (by decide:2∣26),hm,Yd j (by decide:2∣26)]
 have hd:(k / 26=0/\j / 26=1)\/(k / 26=1/\j / 26=0):=(by decide +kernel:∀a b:Fin 52,a≠b->a.val % 26=b.val % 26->(a.val / 26=0/\b.val / 26=1)\/(a.val / 26=1/\b.val / 26=0)) (k,hk) (j,V) (λz=>P (congrArg Fin.val z)) hm
 have tail:=(List.cons.inj (WG K)).2;rw[h1]at tail;have g:=WG (WG tail);have eq:(Str.ofString "q").cps.toList=[113]:=by decide +kernel
 have ee:Str.empty.cps.toList=[]:=rfl;obtain⟨d1,Q⟩|⟨d1,Q⟩:=hd
 ·rw[d1,Q,xT,BZ]at g;obtain rfl|rfl:=he
  ·rw[ee]at g;simp at g
  ·rw[eq]at g
   have:=congrArg List.head? g
   simp at this
 ·rw[d1,Q,xT,BZ]at g;obtain rfl|rfl:=hf
  ·rw[ee]at g;simp at g
  ·rw[eq]at g
   have:=congrArg List.head? g
   simp at this
def nodup_range{f:Nat->Str}{n:Nat}(h:∀i j,i<n->j<n->i≠j->f i≠f j):((Fh n).map f).Nodup:=by
 rw[Xn,Wy];refine List.Pairwise.imp_of_mem ?_ (Xn.mp Yo);intro i j hi q g;exact h i j (W6.mp hi) (W6.mp q) g
variable{ws:List Str}
def Ek{i:Nat}{w:Str}(h:ws.Nodup)(hw:w ∉ ws):(ws.set i w).Nodup:=by
 induction ws generalizing i with
 |nil=>simp
 |cons a r K =>
  let(h1,h2):=u6.mp h;have q:w≠a:=λz=>hw (by simp[z])
  have g:=λz=>hw (g5 _ z)
  cases i with
  |zero=>exact u6.mpr (g,h2)
  |succ i =>
   refine u6.mpr (λz=>?_,K h2 g)
   obtain z|z:=Xp z
   ·exact h1 z
   ·exact q z.symm
end L2
namespace L2
open PySem
variable{ws:List Str}
def MR{w:Str}(h:inV (.str w) (ws.map V.str)=ϊ):w ∉ ws:=λhm=>by
 unfold inV at h;rw[Xt]at h;exact h (.str w) (oG.mpr (w,hm,U)) (show(w==w)=O from beq_self_eq_true w)
def wordOf(kept:List Str)(c1 c2:Str)(turn k:Nat):Str:=dh c1 c2 turn k++(if inV (.str (dh c1 c2 turn k)) (kept.map V.str)=O then("q":Str)else Str.empty)
variable{c1:Str}{c2:Str}{turn:Nat}{j:Nat}
def Dy{kept:List Str}{k:Nat}(hk:k<52)(q:j<52)(g:k≠j):wordOf kept c1 c2 turn k≠wordOf kept c1 c2 turn j:=by
 refine vK hk q g ?_ ?_
 ·split
  ·exact .inr U
  ·exact .inl U
 ·split
  ·exact .inr U
  ·exact .inl U
def zO{kept:List Str}{k:Nat}(h1:c1.length<=5)(h2:c2.length<=5)(hk:k<52):1 <=(wordOf kept c1 c2 turn k).length/\(wordOf kept c1 c2 turn k).length<=20:=by
 unfold wordOf;rw[Str.length_append,vp];have l0:Str.empty.length=0:=rfl;have g:(Str.ofString "q").length=1:=by decide +kernel
 split <;> lia
end L2
namespace L2
open PySem PySem.Spec PyProof.Rows
abbrev Mk1:=Str×List Str
abbrev Kd:=Str×List Mk1
def gU(ks:List Kd)(k:Str):List Mk1:=match ks.find? (λx=>decide (x.1=k))with
 |some x=>x.2
 |none=>[]
variable{ks:List Kd}
def Cq{k:Str}{i:Nat}{x:Kd}(h:ks[i]?=Z x)(hx:x.1=k)(hn:∀(j:Nat)(y:Kd),j<i->ks[j]?=Z y->y.1≠k):gU ks k=x.2:=by
 induction ks generalizing i with
 |nil=>simp at h
 |cons a r g =>
  cases i with
  |zero =>
   simp at h;subst h;simp[gU,hx]
  |succ i =>
   have h0:=hn 0 a (by lia) (by simp)
   have z:=g (by simpa using h) λj y K q=>hn (j+1) y (by lia) (by simpa using q)
   unfold gU at z ⊢;rw[Ny,decide_eq_false h0];exact z
def MD{k:Str}(hn:∀(j:Nat)(y:Kd),ks[j]?=Z y->y.1≠k):gU ks k=[]:=by
 unfold gU;rw[List.find?_eq_none.mpr];intro x hx;let(j,g,U):=List.mem_iff_getElem.mp hx
 have:=hn j ks[j] (by simp)
 simpa using this
variable{it:J}{items:Array B}{Q:B->ϋ->Prop}{h':Do}{tp:Bool}{l:J}{z:J}{i1:J}{i2:J}{l1:J}{l2:J}{t1:Bool}{t2:Bool}{k1:Nat}{k2:Nat}{xs:Array B}{ys:Array B}
section
variable{prog:Da}{w:Cl}{A:Db}{E:B->ϋ->Prop}{s:ϋ}
theorem t9{t:J}{i:Nat}{x:B}(hit:s.heap.IsTupleIter it t i)(z:s.heap.IsTuple t items)(hx:items[i]?=Z x)
  (P:∀h',h'.IsTupleIter it t (i+1)->WV it s.heap h'->Q x {s with heap:=h'}):wpAny (model prog w) A (Builtin.SmallTypes.nextOf (.ref it)) Q E s:=by
 let(o,ho,K,hd):=id hit;let(ol,g,_,nl,q):=z;refine cZ (wpAny_callSpecial?_slot hit.typeIs F.slot_tuple_iterator_next
  (So F.slot_tuple_iterator_next hit.typeIs F.entry_tuple_iterator_next ?_ (F.args_tuple_iterator_next_1 _)))
 show wpAny _ _ (field (.ref it) 0 >>= _) _ _ s;refine cZ (wpAny_field ho hd U ?_);refine cZ (wpAny_field ho hd U ?_);refine cZ (wpAny_seqItems g q ?_);simp only[W7,hx];refine cZ (Xe ho hd (by simp) (kq (x,U,kq (P _ ?_ (Heap.SameBut.update ..)))))
 exact(_,ui _ ho (WM (Wu hd _)),(Yi ..).trans K,by
  rw[Wu hd];simp[rawInt])
theorem wB{t:J}{i:Nat}(K:A.handled=Y)(hit:s.heap.IsTupleIter it t i)(z:s.heap.IsTuple t items)(hx:items[i]?=Y)
  (hE:∀h' e,Yr it s.heap h'->(∃o,h'.get? e=Z o/\o.cls=.type "StopIteration")->E (.ref e) {s with heap:=h'}):wpAny (model prog w) A (Builtin.SmallTypes.nextOf (.ref it)) Q E s:=by
 let(o,ho,P,hd):=id hit;let(ol,g,_,nl,q):=z;refine cZ (wpAny_callSpecial?_slot hit.typeIs F.slot_tuple_iterator_next
  (So F.slot_tuple_iterator_next hit.typeIs F.entry_tuple_iterator_next ?_ (F.args_tuple_iterator_next_1 _)))
 show wpAny _ _ (field (.ref it) 0 >>= _) _ _ s;refine cZ (wpAny_field ho hd U ?_);refine cZ (wpAny_field ho hd U ?_);refine cZ (wpAny_seqItems g q ?_);simp only[W7,hx];refine cZ (Wo (cZ (Xe ho hd (by simp) ?_)))
 refine cZ ?_;refine cZ (m:=firstArgMember _ _) (wpAny_of_eq (by rfl) ?_)
 refine Wz ?_ (by size_fits)
 refine cZ (wpAny_handled ?_);rw[K];exact cZ (kq (wpAny_throw (hE _ _ (((Heap.SameBut.update ..).extBut.push _).push _) (_,px _ U,U))))
def aQ(h:Do)(tp:Bool)(it l:J)(k:Nat):Prop:=if tp=O then h.IsTupleIter it l k else h.IsListIter it l k
def a6(h:Do)(tp:Bool)(l:J)(items:Array B):Prop:=if tp=O then h.IsTuple l items else h.IsList l items
def aQ.at{h:Do}{k:Nat}(x:aQ h tp it l k)(e:∀o,h.get? it=Z o->h'.get? it=Z o):aQ h' tp it l k:=by
 cases tp with
 |true=>let(o,ho,r):=(x);exact((o,e o ho,r))
 |false=>let(o,ho,r):=(x);exact((o,e o ho,r))
def a6.at{h:Do}(x:a6 h tp l items)(e:∀o,h.get? l=Z o->h'.get? l=Z o):a6 h' tp l items:=by
 cases tp with
 |true=>let(o,ho,r):=(x);exact((o,e o ho,r))
 |false=>let(o,ho,r):=(x);exact((o,e o ho,r))
def aQ.obj{h:Do}{k:Nat}(x:aQ h tp it l k):∃o,h.get? it=Z o/\∀v,o.data ≠ .cell v:=by
 cases tp with
 |true=>let(o,ho,_,hd):=(x);exact(o,ho,λv=>by rw[hd];simp)
 |false=>let(o,ho,_,hd):=(x);exact(o,ho,λv=>by rw[hd];simp)
def next_item{i:Nat}{x:B}(hit:aQ s.heap tp it l i)(hl:a6 s.heap tp l items)(hx:items[i]?=Z x)
  (g:∀h',aQ h' tp it l (i+1)->WV it s.heap h'->Q x {s with heap:=h'}):wpAny (model prog w) A (Builtin.SmallTypes.nextOf (.ref it)) Q E s:=by
 cases tp with
 |true=>exact t9 hit hl hx g
 |false=>exact wpAny_nextOf_list_item hit hl hx g
def next_end{i:Nat}(g:A.handled=Y)(hit:aQ s.heap tp it l i)(hl:a6 s.heap tp l items)(hx:items[i]?=Y)
  (hE:∀h' e,Yr it s.heap h'->(∃o,h'.get? e=Z o/\o.cls=.type "StopIteration")->E (.ref e) {s with heap:=h'}):wpAny (model prog w) A (Builtin.SmallTypes.nextOf (.ref it)) Q E s:=by
 cases tp with
 |true=>exact wB g hit hl hx hE
 |false=>exact wpAny_nextOf_list_end g hit hl hx hE
theorem Fl{TI TO:J}{x y a b:B}{Q:Option B->ϋ->Prop}(D:ZipApart z TI TO i1 i2 l1 l2)
  (hz:IsZip s.heap z TI TO .none) (cf:IsPair s.heap TI (.ref i1) (.ref i2)) (cc:IsPair s.heap TO a b)
  (h1:aQ s.heap t1 i1 l1 k1) (h2:aQ s.heap t2 i2 l2 k2) (b9:a6 s.heap t1 l1 xs) (b0:a6 s.heap t2 l2 ys) (hx:xs[k1]?=Z x) (hy:ys[k2]?=Z y)
  (hQ:∀h',IsZip h' z TI TO (rawInt s.heap.objs.size)->IsPair h' TO x y->aQ h' t1 i1 l1 (k1+1)->aQ h' t2 i2 l2 (k2+1)->IsPair h' s.heap.objs.size x y->h'.objs.size=s.heap.objs.size+1 ->
   (∀c o,c≠z->c≠TO->c≠i1->c≠i2->s.heap.get? c=Z o->h'.get? c=Z o)->Q (Z (.ref s.heap.objs.size)) {s with heap:=h'}):
  wpAny (model prog w) A (pyNext (.ref z)) Q E s:=by
 have hT:s.TypeIs (.ref z) "zip":=(_,hz,U);unfold pyNext;refine cZ (W0 (wpAny_callSpecial?_slot hT F.slot_zip_next
  (So F.slot_zip_next hT F.entry_zip_next ?_ (F.args_zip_next_1 _))))
 show wpAny _ _ (field (.ref z) 2 >>= _) _ _ _;refine cZ (wpAny_field hz U (x:=.bool ϊ) U ?_);refine cZ (wpAny_field hz U (x:=.ref TI) U ?_);refine cZ (wpAny_seqItems cf U ?_);refine cZ ?_;refine cZ (wpAny_field hz U (x:=.none) U (kq ?_));simp only[if_true];refine cZ (Wo ?_);refine cZ (wpAny_field hz U (x:=.ref TO) U ?_);refine cZ (wpAny_setField_rec hz (by simp) λh₁ a7 g=>?_)
 refine cZ ?_;simp only[Yp,List.zipIdx_nil,W3,List.forIn_nil];refine cZ (cZ (wpAny_onRaise ?_));refine cZ (next_item (h1.at λo e=>g.extBut _ o D.i1z e) (b9.at λo e=>g.extBut _ o D.l1z e) hx λbI bC P=>kq ?_)
 have Je:IsPair bI TO a b:=P.extBut _ _ D.TOi1 (g.extBut _ _ D.TOz cc);refine cZ (wpAny_seqItems Je U ?_);refine cZ (wpAny_updateSeq_pair Je λct Us K=>?_)
 refine cZ (wpAny_letGo (kq ?_));refine cZ (cZ (wpAny_onRaise ?_));refine cZ (next_item (h2.at λo e=>K.extBut _ o D.TOi2.symm (P.extBut _ o D.i12.symm (g.extBut _ o D.i2z e)))
  (b0.at λo e=>K.extBut _ o D.l2TO (P.extBut _ o D.l2i1 (g.extBut _ o D.l2z e))) hy λbE bj ak=>kq ?_)
 have Ur:IsPair bE TO x b:=ak.extBut _ _ D.TOi2 Us;refine cZ (wpAny_seqItems Ur U ?_);refine cZ (wpAny_updateSeq_pair Ur λq MZ V=>?_)
 replace MZ:IsPair q TO x y:=MZ
 refine cZ (wpAny_letGo (kq (kq ?_)));refine cZ (wpAny_seqItems MZ U ?_);refine cZ (wpAny_newTuple ?_);have hsz:q.objs.size=s.heap.objs.size:=by rw[V.1,ak.1,K.1,P.1,g.1]
 have aS:IsZip q z TI TO .ellipsis:=V.extBut _ _ D.TOz.symm (ak.extBut _ _ D.i2z.symm (K.extBut _ _ D.TOz.symm (P.extBut _ _ D.i1z.symm a7)));have a8:∀c o,c≠z->c≠TO->c≠i1->c≠i2->s.heap.get? c=Z o->q.get? c=Z o:=λc o c1 c2 c3 c4 e =>
  V.extBut _ _ c2 (ak.extBut _ _ c4 (K.extBut _ _ c2 (P.extBut _ _ c3 (g.extBut _ _ c1 e))))
 have bt:=bC.at λo e=>V.extBut _ o D.TOi1.symm (ak.extBut _ o D.i12 (K.extBut _ o D.TOi1.symm e))
 have bb:=bj.at λo e=>V.extBut _ o D.TOi2.symm e
 have Ua:z<q.objs.size:=jR aS;refine cZ ?_;have a3:IsZip (q.push {cls:=.type "tuple",data:=.seq #[x,y]}) z TI TO .ellipsis:=ft _ aS;refine cZ (wpAny_setField_rec a3 (by simp) λcq a0 aA=>?_)
 refine wpAny_setField_rec a0 (by simp) λaN aP ar=>?_
 have up:∀c o,c≠z->q.get? c=Z o->aN.get? c=Z o:=λc o c1 e=>ar.extBut _ _ c1 (aA.extBut _ _ c1 (ft _ e))
 have aT:IsPair aN q.objs.size x y:=ar.extBut _ _ (zj Ua) (aA.extBut _ _ (zj Ua) (px _ U));have bV:aN.objs.size=q.objs.size+1:=by rw[ar.1,aA.1,v3]
 rw[hsz]at aP aT bV;refine kq (_,U,kq ?_);rw[hsz];exact hQ aN aP (up _ _ D.TOz MZ) (bt.at λo e=>up _ o D.i1z e) (bb.at λo e=>up _ o D.i2z e) aT bV λc o c1 c2 c3 c4 e=>up c o c1 (a8 c o c1 c2 c3 c4 e)
theorem Ks{TI TO:J}{a b:B}{Q:Option B->ϋ->Prop}(hh:A.handled=Y)(D:ZipApart z TI TO i1 i2 l1 l2)
  (hz:IsZip s.heap z TI TO .none) (bj:IsPair s.heap TI (.ref i1) (.ref i2)) (bb:IsPair s.heap TO a b)
  (h1:aQ s.heap t1 i1 l1 k1) (h2:aQ s.heap t2 i2 l2 k2) (a7:a6 s.heap t1 l1 xs) (a8:a6 s.heap t2 l2 ys) (wO:xs[k1]?=Y\/ys[k2]?=Y)
  (hQ:∀h',(∀c o,c≠z->c≠TO->c≠i1->c≠i2->s.heap.get? c=Z o->h'.get? c=Z o)->Q Y {s with heap:=h'}):wpAny (model prog w) A (pyNext (.ref z)) Q E s:=by
 have hT:s.TypeIs (.ref z) "zip":=(_,hz,U);have fin:∀h' e,(∀c o,c≠z->c≠TO->c≠i1->c≠i2->s.heap.get? c=Z o->h'.get? c=Z o)->(∃o,h'.get? e=Z o/\o.cls=.type "StopIteration") ->
   wpAny (model prog w) A (do if <- isInstance (.ref e) (.type "StopIteration")then pure Y else throw (.ref e)) Q E {s with heap:=h'}:=λh' e hk he=>by
  let(o,ho,hc):=he;refine cZ (WY (o,ho,hc) isSubtype_stop ?_);exact kq (hQ _ hk)
 refine cZ (W0 (wpAny_callSpecial?_slot hT F.slot_zip_next
  (So F.slot_zip_next hT F.entry_zip_next ?_ (F.args_zip_next_1 _))))
 show wpAny _ _ (field (.ref z) 2 >>= _) _ _ _;refine cZ (wpAny_field hz U (x:=.bool ϊ) U ?_);refine cZ (wpAny_field hz U U ?_);refine cZ (wpAny_seqItems bj U ?_);refine cZ ?_;refine cZ (wpAny_field hz U U (kq ?_));refine cZ (Wo (cZ (wpAny_field hz U (x:=.ref TO) U (cZ (wpAny_setField_rec hz (by simp) λh₁ ar g=>?_)))))
 refine cZ ?_;simp only[Yp,List.zipIdx_nil,W3,List.forIn_nil];refine cZ (cZ (wpAny_onRaise ?_));cases hx:xs[k1]? with
 |none =>
  refine cZ (next_end hh (h1.at λo e=>g.extBut _ o D.i1z e) (a7.at λo e=>g.extBut _ o D.l1z e) hx λa3 e q he=>?_)
  let(oe,P,aP):=he;have ak:=q _ _ D.i1z.symm ar;have aT:e≠z:=λx=>by subst x;rw[ak]at P;cases P;simp at aP
  refine wpAny_setField_rec ak (by simp) λaS _ K=>fin aS e (λc o c1 _ c3 _ x=>K.extBut _ _ c1 (q _ _ c3 (g.extBut _ _ c1 x))) (oe,K.extBut _ _ aT P,aP)
 |some x =>
  have hy:ys[k2]?=none:=by obtain h|h:=wO;rw[hx]at h;cases h;exact h
  refine cZ (next_item (h1.at λo e=>g.extBut _ o D.i1z e) (a7.at λo e=>g.extBut _ o D.l1z e) hx λa3 bt q=>kq ?_)
  have Je:=q.extBut _ _ D.TOi1 (g.extBut _ _ D.TOz bb);refine cZ (wpAny_seqItems Je U (cZ (wpAny_updateSeq_pair Je λaS Us K=>(cZ (wpAny_letGo (kq (cZ (cZ (wpAny_onRaise ?_)))))))))
  refine cZ (next_end hh (h2.at λo e=>K.extBut _ o D.TOi2.symm (q.extBut _ o D.i12.symm (g.extBut _ o D.i2z e)))
   (a8.at λo e=>K.extBut _ o D.l2TO (q.extBut _ o D.l2i1 (g.extBut _ o D.l2z e))) hy λbC e aN he=>?_)
  let(oe,P,aP):=he;have V:=aN _ _ D.i2z.symm (K.extBut _ _ D.TOz.symm (q.extBut _ _ D.i1z.symm ar));have aT:e≠z:=λx=>by subst x;rw[V]at P;cases P;simp at aP
  refine wpAny_setField_rec V (by simp) λa0 _ aA=>fin a0 e (λc o c1 c2 c3 c4 x=>aA.extBut _ _ c1 (aN _ _ c4 (K.extBut _ _ c2 (q.extBut _ _ c3 (g.extBut _ _ c1 x))))) (oe,aA.extBut _ _ aT P,aP)
end
def lr(ks:List Kd):List Str:=ks.flatMap λk=>k.2.flatMap (·.2)
def wU(ks:List Kd)(k:Str):List Str:=(gU ks k).flatMap (·.2)
inductive Reach(ks:List Kd)(a:Str):Str->Prop where
 |here:Reach ks a a
 |step{b c:Str}:Reach ks a b->c∈wU ks b->Reach ks a c
variable{ws:List Str}
def pT{w:Str}:inV (.str w) (ws.map V.str)=O ↔ w∈ws:=by
 constructor
 ·intro h;by_cases hm:w∈ws
  ·exact hm
  ·exfalso
   unfold inV at h;rw[Wg]at h;let(x,hx,e):=h;let(z,g,U):=oG.mp hx
   have:=eq_of_beq (show(z==w)=O from e)
   exact hm (this▸g)
 ·intro h;unfold inV;rw[Wg];exact(.str w,oG.mpr (w,h,U),show(w==w)=O from beq_self_eq_true w)
def IA{k:Str}:gU ks k=[]\/∃x∈ks,gU ks k=x.2/\x.1=k:=by
 unfold gU;cases e:ks.find? (λx=>decide (x.1=k))with
 |none=>exact .inl U
 |some x=>exact .inr (x,List.mem_of_find?_eq_some e,U,by have z:=List.find?_some e;simpa using z)
def yO{k f:Str}(h:f∈wU ks k):f∈lr ks:=by
 unfold wU at h;obtain e |⟨x,hx,e,_⟩:=IA (ks:=ks) (k:=k)
 ·rw[e]at h;simp at h
 ·rw[e]at h;exact WH.mpr (x,hx,h)
def un(Yt rs:List Str):Nat:=(Yt.filter λu=>decide (u ∉ rs)).length
variable{rs:List Str}
def Sr{Yt:List Str}:un Yt rs<=Yt.length:=XT _ _
theorem CL{p q:Str->Bool}(g:∀x,q x=O->p x=O):∀Yt:List Str,(Yt.filter q).length <=(Yt.filter p).length
 |[]=>nY _
 |u::Yt=>by
  have z:=CL g Yt;cases hq:q u with
  |true =>
   rw[JU hq,JU (g u hq)];simp only[qf];omega
  |false =>
   rw[Wh (by rw[hq];decide)]
   cases hp:p u with
   |true=>rw[JU hp];simp only[qf];omega
   |false=>rw[Wh (by rw[hp];decide)];exact z
theorem CK{p q:Str->Bool}{f:Str}(K:∀x,q x=O->p x=O)(hp:p f=O)(hq:q f=ϊ):∀Yt:List Str,f∈Yt->(Yt.filter q).length+1 <=(Yt.filter p).length
 |[],h=>by simp at h
 |u::Yt,h=>by
  by_cases e:u=f
  ·subst e;have z:=CL K Yt;rw[Wh (by rw[hq];decide),JU hp]
   simp only[qf];omega
  ·have z:=CK K hp hq Yt (by
    obtain h|h:=ot.mp h
    ·exact absurd h.symm e
    ·exact h)
   cases g:q u with
   |true =>
    rw[JU g,JU (K u g)];simp only[qf];omega
   |false =>
    rw[Wh (by rw[g];decide)]
    cases P:p u with
    |true=>rw[JU P];simp only[qf];omega
    |false=>rw[Wh (by rw[P];decide)];exact z
def BL{Yt:List Str}{f:Str}(hf:f∈Yt)(hn:f ∉ rs):un Yt (rs ++ [f])+1<=un Yt rs:=by
 refine CK (λx hx=>?_) (decide_eq_true hn) (decide_eq_false (by simp)) Yt hf
 have hx:=of_decide_eq_true hx;exact decide_eq_true λz=>hx (nZ.mpr (.inl z))
def marks(rs:List Str):List (Key×V):=rs.map λs=>(.inr s,.bl O)
structure RS(ks:List Kd)(k here:Str)(done rs W:List Str)(c:Nat):Prop where
 ki:k∈rs
 w:∀r∈W,r∈rs
 hi:here∈rs
 re:∀r∈rs,Reach ks k r
 cl:∀r∈rs,r ∉ W->r=here\/∀f∈wU ks r,f∈rs
 dn:∀f∈done,f∈rs
 sz:rs.length+un (lr ks) rs <=(lr ks).length+1
 sw:W.length<=rs.length
 m:2*un (lr ks) rs+W.length<c
variable{here:Str}{done:List Str}
def RS.old{k f:Str}{W:List Str}{c:Nat}(R:RS ks k here done rs W c)(hf:f∈rs):RS ks k here (done ++ [f]) rs W c :=
 (R.ki,R.w,R.hi,R.re,R.cl,λg hg=>(nZ.mp hg).elim (R.dn g) λh=>by rw[fy.mp h];exact hf,R.sz,R.sw,R.m)
def RS.new{k f:Str}{W:List Str}{c:Nat}(R:RS ks k here done rs W c)(hn:f ∉ rs)(hf:f∈wU ks here):RS ks k here (done ++ [f]) (rs ++ [f]) (W ++ [f]) c where
 ki:=nZ.mpr (.inl R.ki)
 w:=λr hr=>by
  obtain h|h:=nZ.mp hr
  ·exact nZ.mpr (.inl (R.w r h))
  ·exact nZ.mpr (.inr h)
 hi:=nZ.mpr (.inl R.hi)
 re:=λr hr=>by
  obtain h|h:=nZ.mp hr
  ·exact R.re r h
  ·rw[fy.mp h];exact .step (R.re _ R.hi) hf
 cl:=λr hr hw=>by
  obtain h|h:=nZ.mp hr
  ·obtain e|e:=R.cl r h (λz=>hw (nZ.mpr (.inl z)))
   ·exact .inl e
   ·exact .inr λg hg=>nZ.mpr (.inl (e g hg))
  ·exact absurd (nZ.mpr (.inr h)) hw
 dn:=λg hg=>by
  obtain h|h:=nZ.mp hg
  ·exact nZ.mpr (.inl (R.dn g h))
  ·exact nZ.mpr (.inr h)
 sz:=by
  have:=BL (yO hf) hn
  have:=R.sz
  simp only[iQ,v5];omega
 sw:=by
  have:=R.sw
  simp only[iQ,v5];omega
 m:=by
  have:=BL (yO hf) hn
  have:=R.m
  simp only[iQ,v5];omega
structure RWt(ks:List Kd)(k:Str)(rs W:List Str):Prop where
 ki:k∈rs
 w:∀r∈W,r∈rs
 re:∀r∈rs,Reach ks k r
 cl:∀r∈rs,r ∉ W->∀f∈wU ks r,f∈rs
 sz:rs.length+un (lr ks) rs <=(lr ks).length+1
 sw:W.length<=rs.length
def RWt.pop{k:Str}{W:List Str}(R:RWt ks k rs (W ++ [here])):RS ks k here [] rs W (2*un (lr ks) rs+(W ++ [here]).length) where
 ki:=R.ki
 w:=λr hr=>R.w r (nZ.mpr (.inl hr))
 hi:=R.w _ (by simp)
 re:=R.re
 cl:=λr hr hw=>by
  by_cases e:r=here
  ·exact .inl e
  ·exact .inr (R.cl r hr (by simp[hw,e]))
 dn:=λf hf=>by simp at hf
 sz:=R.sz
 sw:=by
  have:=R.sw
  simp only[iQ,v5]at this;omega
 m:=by simp
def RS.fin{k:Str}{W:List Str}{c:Nat}(R:RS ks k here done rs W c)(hd:done=wU ks here):RWt ks k rs W where
 ki:=R.ki
 w:=R.w
 re:=R.re
 sz:=R.sz
 sw:=R.sw
 cl:=λr hr hw=>by
  obtain e|e:=R.cl r hr hw
  ·subst e;subst hd;exact R.dn
  ·exact e
def RWt.all{k:Str}(R:RWt ks k rs []){s:Str}:s∈rs ↔ Reach ks k s:=by
 refine(R.re s,λh=>?_)
 induction h with
 |here=>exact R.ki
 |step _ q g=>exact R.cl _ g (by simp) _ q
def RWt.start{k:Str}:RWt ks k [k] [k] where
 ki:=by simp
 w:=λr h=>h
 re:=λr h=>by rw[fy.mp h];exact .here
 cl:=λr h n=>absurd h n
 sz:=by have:=Sr (Yt:=lr ks) (rs:=[k]);simp;omega
 sw:=nY _
def nt{α:Type}{β:Type}{xs:List α}{f:α->List β}{i:Nat}{c:α}(h:xs[i]?=Z c):(xs.take i).flatMap f++f c=(xs.take (i+1)).flatMap f:=by
 rw[ro,h];simp
open Classical in
noncomputable def ff(ks:List Kd)(k:Str)(xs:List Kd):List Str:=xs.flatMap λx=>if Reach ks k x.1 then x.2.map (·.1)else []
def FA{k:Str}{xs:List Kd}{i:Nat}{x:Kd}(h:xs[i]?=Z x)(hr:Reach ks k x.1):ff ks k (xs.take (i+1))=ff ks k (xs.take i)++x.2.map (·.1):=by
 unfold ff;rw[<- nt h,if_pos hr]
def Kz{k:Str}{xs:List Kd}{i:Nat}{x:Kd}(h:xs[i]?=Z x)(hr:¬ Reach ks k x.1):ff ks k (xs.take (i+1))=ff ks k (xs.take i):=by
 unfold ff;rw[<- nt h,if_neg hr,qg]
def Reach.trans{a b c:Str}(h1:Reach ks a b)(h2:Reach ks b c):Reach ks a c:=by
 induction h2 with
 |here=>exact h1
 |step _ h g=>exact .step g h
variable{X:Cx}{gd:List (J×Obj)}{H:Hp}{t':Nat}{fp:List J}
def Inv.pB{σ:St}{s:ϋ}(I:Inv X gd σ H s)(k:∀b o,b ∉ fp->s.heap.get? b=Z o->h'.get? b=Z o)(hf:∀b∈fp,sW X gd H b):
  Inv X gd σ H {s with heap:=h',toks:=t'}:=by
 have K:∀b u,H b=Z u->b ∉ fp:=λb u e z=>by
  have:=(hf b z).1
  rw[e]at this;cases this
 refine I.step (λb P=>?_) (λb o _ _ g e _=>k b o g e) (λb o _ _ g e _=>(o.slots,k b o g e)) (λ_ _ _ _ n=>n)
  (λb o g e=>(o,k b o g e)) (λ_ _ e=>e) (λ_ _ _ e=>e) (λb ps e=>(#[],by rw[e];simp)) (λm hm=>?_) (λb u e=>?_) I.bare
 ·let(f0,f1,f2,V,f4,Q):=hf b P;exact(V,f1,f4,Q)
 ·let(o,es,ep,ho,r):=hm;exact(o,es,ep,k _ o (λz=>(hf _ z).2.1 U) ho,r)
 ·refine(I.hok b u e).dj (λc v g q=>k c v ?_ q) (λ_ q=>q) λ_ _ q=>q
  obtain z|z:=g
  ·rw[z];exact K b u e
  ·exact K c _ z
def SqB(K:BT)(tp:Bool)(H:Hp)(a:J)(xs:List V):Prop:=if tp=O then SqT K H a xs else SqL K H a xs
variable{a:J}
def Inv.Gz{σ:St}{s:ϋ}{xs:List V}(I:Inv X gd σ H s)(h:SqB X.K tp H a xs):∃its:List B,Vals xs its/\a6 s.heap tp a its.toArray/\xs.length<=pq:=by
 cases tp with
 |true =>
  let(its,r,p,z):=I.tuple (h);exact(its,r,(p),z)
 |false =>
  let(its,r,p,z):=I.list (h);exact(its,r,p.isList,z)
def Inv.Gy{σ:St}{s:ϋ}{xs ys:List V}(I:Inv X gd σ H s)(h:SqB X.K tp H a xs)(h2:SqB X.K tp H a ys):xs=ys:=by
 cases tp with
 |true=>exact I.uD (h) (h2)
 |false=>exact I.yx (h) (h2)
def itc(tp:Bool):String:=if tp=O then "tuple_iterator" else "list_iterator"
variable{prog:Da}{A:Db}{E:B->ϋ->Prop}
def jE{w:Cl}{s:ϋ}(h:a6 s.heap tp l xs)
  (g:Q (.ref s.heap.objs.size) {s with heap:=s.heap.push {cls:=.type (itc tp),data:=.fields #[.ref l,.int 0 0]}}):wpAny (model prog w) A (pyIter (.ref l)) Q E s:=by
 cases tp with
 |true=>exact wpAny_pyIter_tuple (h) g
 |false=>exact wpAny_pyIter_list (h) g
abbrev zH1(t1:Bool)(h:Do)(l1:J):Do:=h.push {cls:=.type (itc t1),data:=.fields #[.ref l1,.int 0 0]}
abbrev zH2(t1 t2:Bool)(h:Do)(l1 l2:J):Do:=(zH1 t1 h l1).push {cls:=.type (itc t2),data:=.fields #[.ref l2,.int 0 0]}
abbrev zH3(t1 t2:Bool)(h:Do)(l1 l2:J):Do:=(zH2 t1 t2 h l1 l2).push {cls:=.type "tuple",data:=.seq #[.ref h.objs.size,.ref (zH1 t1 h l1).objs.size]}
abbrev zH4(t1 t2:Bool)(h:Do)(l1 l2:J):Do:=(zH3 t1 t2 h l1 l2).push {cls:=.type "tuple",data:=.seq #[.none,.none]}
abbrev zH5(t1 t2:Bool)(h:Do)(l1 l2:J):Do:=(zH4 t1 t2 h l1 l2).push {cls:=.type "zip",data:=.fields #[.none,.bool ϊ,.bool ϊ,.ref (zH2 t1 t2 h l1 l2).objs.size,.ref (zH3 t1 t2 h l1 l2).objs.size]}
def uc(t1 t2:Bool)(l1 l2:J)(xs ys:Array B):
  Meets (Builtin.«zip.__new__» ([.type "zip",.ref l1,.ref l2],[])) (λ_ R s=>a6 s.heap t1 l1 xs/\a6 s.heap t2 l2 ys /\
   R (.ok (.ret (.ref (zH4 t1 t2 s.heap l1 l2).objs.size))) {s with heap:=zH5 t1 t2 s.heap l1 l2}) :=
 .of_wp λprog w A R s h=>by
  let(hp,g,d,tk,os):=s;let(z,q,h):=h;have Q:=sub_zip;have P:=z;have K:a6 (ϋ.heap (hp.push {cls:=.type (itc t1),data:=.fields #[.ref l1,.int 0 0]},g,d,tk,os)) t2 l2 ys:=q.at λo e=>ft _ e
  wp_walk using jE P,jE K
  exact(_,U,h)
def ji{h:Do}(e:h.get? it=Z {cls:=.type (itc tp),data:=.fields #[.ref l,.int 0 0]}):aQ h tp it l 0:=by
 cases tp with
 |true=>exact((_,e,U,U))
 |false=>exact((_,e,U,U))
theorem xf{prog:Da}{w:Cl}{A:Db}{E:B->ϋ->Prop}{s:ϋ}(P:a6 s.heap t1 l1 xs)(K:a6 s.heap t2 l2 ys)
  (h:∀h',IsZip h' (s.heap.objs.size+4) (s.heap.objs.size+2) (s.heap.objs.size+3) .none->IsPair h' (s.heap.objs.size+2) (.ref s.heap.objs.size) (.ref (s.heap.objs.size+1)) ->
   IsPair h' (s.heap.objs.size+3) .none .none->aQ h' t1 s.heap.objs.size l1 0->aQ h' t2 (s.heap.objs.size+1) l2 0 ->
   (∀c o,s.heap.get? c=Z o->h'.get? c=Z o)->Q (.ref (s.heap.objs.size+4)) {s with heap:=h'}):
  wpAny (model prog w) A (call (.type "zip") [.ref l1,.ref l2]) Q E s:=by
 refine callType_new F.called_zip (by decide) (F.typeCall_zip_2 _ _) (F.newCall_zip_2 _ _) (λobj=>F.args_object_init_3 obj _ _) F.entry_zip_new
  (uc t1 t2 l1 l2 xs ys) (P,K,?_)
 have z:(zH1 t1 s.heap l1).objs.size=s.heap.objs.size+1:=v3 ..;have q:(zH2 t1 t2 s.heap l1 l2).objs.size=s.heap.objs.size+2:=by rw[v3,z]
 have g:(zH3 t1 t2 s.heap l1 l2).objs.size=s.heap.objs.size+3:=by rw[v3,q]
 have z4:(zH4 t1 t2 s.heap l1 l2).objs.size=s.heap.objs.size+4:=by rw[v3,g]
 have V:(zH5 t1 t2 s.heap l1 l2).get? (zH4 t1 t2 s.heap l1 l2).objs.size=Z _:=px _ U;have g4:(zH5 t1 t2 s.heap l1 l2).get? (zH3 t1 t2 s.heap l1 l2).objs.size=Z _:=ft _ (px _ U);have g3:(zH5 t1 t2 s.heap l1 l2).get? (zH2 t1 t2 s.heap l1 l2).objs.size=Z _:=ft _ (ft _ (px _ U));have g2:(zH5 t1 t2 s.heap l1 l2).get? (zH1 t1 s.heap l1).objs.size=Z _:=ft _ (ft _ (ft _ (px _ U)));have g1:(zH5 t1 t2 s.heap l1 l2).get? s.heap.objs.size=Z _:=ft _ (ft _ (ft _ (ft _ (px _ U))));rw[q,g,z4]at V;rw[z,q]at g3;rw[g]at g4;rw[z]at g2;rw[z4];exact((_,V,U),h _ V g3 g4 (ji g1) (ji g2) λc o x =>
  ft _ (ft _ (ft _ (ft _ (ft _ x)))))
def a6.obj{h:Do}(x:a6 h tp l xs):∃o,h.get? l=Z o:=by
 cases tp with
 |true=>let(o,ho,_):=(x);exact(o,ho)
 |false=>let(o,ho,_):=(x);exact(o,ho)
variable{n:Nat}
def xx{l1 l2:Nat}(h1:l1<n)(h2:l2<n):ZipApart (n+4) (n+2) (n+3) n (n+1) l1 l2:=by
 constructor <;>(intro z;refine absurd (show @Eq Nat _ _ from z) ?_;lia)
def DT{t:Nat}(h:ws.Nodup):(ws.drop t++ws.take t).Nodup :=
 (List.perm_append_comm).nodup_iff.mp (by rw[List.take_append_drop];exact h)
variable{d:J}{o:HO}
def m7.other{q:J}(D:m7 H d l)(h1:q≠d)(h2:q≠l):m7 (upd H q o) d l:=by
 let(s,n,ls,D):=D;exact(s,n,ls,by rw[aj h1.symm];exact D.hd,by rw[aj h2.symm];exact D.hl,D.s0,D.s1,D.n0,D.l0)
def names(ks:List Kd):List Str:=ks.flatMap λk=>k.2.map (·.1)
variable{x:Str}
def take_one{xs:List Str}{i:Nat}(h:xs[i]?=Z x):xs.take i ++ [x]=xs.take (i+1):=by rw[ro,h];rfl
variable{es:List Ev}
theorem pR{K:BT}{k:Nat}{pos:Pos}{t:TGs}(z:X.K=K)(q:X.calm=O)(h:PGs X es t)
  (hn:‹(assignEach es X.env).length=n›) (g:‹(assignEach es X.env).findIdx? (·.1)=none›):PG X (.Tuple es k pos) (M6 K n t):=z▸Qh q h hn g
abbrev nW(h:Do)(z TI TO:J)(a:J)(f:Bool):Prop :=
 h.get? z=Z {cls:=.type "zip",dict:=Y,data:=.fields #[rawInt a,.bool f,.bool ϊ,.ref TI,.ref TO],slots:=#[]}
variable{oa:Obj}
section
variable{w:Cl}{s:ϋ}
theorem yo{TI TO:J}{f:Bool}{Q:Bool->ϋ->Prop}(K:nW s.heap z TI TO a f)(ha:s.heap.get? a=Z oa)
  (V:∀h',nW h' z TI TO a O->WV z s.heap h'->Q ϊ {s with heap:=h'}):wpAny (model prog w) A (Builtin.SmallTypes.ownedTupleIsFree (.ref z)) Q E s:=by
 refine cZ (wpAny_field K U U ?_);show wpAny _ _ (loadIfAlive ((a:Int).toNat) >>= _) _ _ _;refine cZ (W.kdx_alive ha ?_);refine cZ (wpAny_field K U (x:=.bool f) U ?_);cases f with
 |true =>
  exact kq (V _ K (Heap.SameBut.refl _ _))
 |false =>
  exact cZ (wpAny_setField_rec K (by simp) λP q g=>(kq (V _ q g)))
theorem Kr{TI TO:J}{f:Bool}{x y:B}{Q:Option B->ϋ->Prop}(D:ZipApart z TI TO i1 i2 l1 l2)
  (hz:nW s.heap z TI TO a f) (ha:s.heap.get? a=Z oa) (aP:IsPair s.heap TI (.ref i1) (.ref i2))
  (h1:aQ s.heap t1 i1 l1 k1) (h2:aQ s.heap t2 i2 l2 k2) (aN:a6 s.heap t1 l1 xs) (aA:a6 s.heap t2 l2 ys) (hx:xs[k1]?=Z x) (hy:ys[k2]?=Z y)
  (hQ:∀h',nW h' z TI TO a O->aQ h' t1 i1 l1 (k1+1)->aQ h' t2 i2 l2 (k2+1)->IsPair h' s.heap.objs.size x y->h'.objs.size=s.heap.objs.size+1 ->
   (∀c o,c≠z->c≠i1->c≠i2->s.heap.get? c=Z o->h'.get? c=Z o)->Q (Z (.ref s.heap.objs.size)) {s with heap:=h'}):
  wpAny (model prog w) A (pyNext (.ref z)) Q E s:=by
 have hT:s.TypeIs (.ref z) "zip":=(_,hz,U);refine cZ (W0 (wpAny_callSpecial?_slot hT F.slot_zip_next
  (So F.slot_zip_next hT F.entry_zip_next ?_ (F.args_zip_next_1 _))))
 show wpAny _ _ (field (.ref z) 2 >>= _) _ _ _;refine cZ (wpAny_field hz U (x:=.bool ϊ) U ?_);refine cZ (wpAny_field hz U U ?_);refine cZ (wpAny_seqItems aP U ?_);refine cZ (yo hz ha λh₁ V g=>?_)
 simp only[W5,if_false];rw[<- Ye];simp only[W3];refine cZ (cZ (cZ (BI ?_)));refine cZ (next_item (h1.at λo e=>g.extBut _ o D.i1z e) (aN.at λo e=>g.extBut _ o D.l1z e) hx λaS ar q=>kq (kq (cZ (cZ (BI ?_)))))
 refine cZ (next_item (h2.at λo e=>q.extBut _ o D.i12.symm (g.extBut _ o D.i2z e)) (aA.at λo e=>q.extBut _ o D.l2i1 (g.extBut _ o D.l2z e)) hy λP ak K=>kq (kq (kq ?_)))
 show wpAny _ _ (newTuple [x,y] >>= _) _ _ _;refine cZ (wpAny_newTuple ?_);have hsz:P.objs.size=s.heap.objs.size:=by rw[K.1,q.1,g.1]
 have up:∀c o,c≠z->c≠i1->c≠i2->s.heap.get? c=Z o->(P.push {cls:=.type "tuple",data:=.seq #[x,y]}).get? c=Z o:=λc o c1 c2 c3 e =>
  ft _ (K.extBut _ _ c3 (q.extBut _ _ c2 (g.extBut _ _ c1 e)))
 refine kq (_,U,kq ?_);rw[hsz];refine hQ _ (ft _ (K.extBut _ _ D.i2z.symm (q.extBut _ _ D.i1z.symm V))) ?_ ?_ ?_ ?_ up
 ·exact ar.at λo e=>ft _ (K.extBut _ o D.i12 e)
 ·exact ak.at λo e=>ft _ e
 ·rw[<- hsz];exact px _ U
 ·rw[v3,hsz]
theorem xv{TI TO:J}{f:Bool}{Q:Option B->ϋ->Prop}(hh:A.handled=Y)(D:ZipApart z TI TO i1 i2 l1 l2)
  (hz:nW s.heap z TI TO a f) (ha:s.heap.get? a=Z oa) (aN:IsPair s.heap TI (.ref i1) (.ref i2))
  (h1:aQ s.heap t1 i1 l1 k1) (h2:aQ s.heap t2 i2 l2 k2) (ak:a6 s.heap t1 l1 xs) (aA:a6 s.heap t2 l2 ys) (wO:xs[k1]?=Y\/ys[k2]?=Y)
  (hQ:∀h',(∀c o,c≠z->c≠i1->c≠i2->s.heap.get? c=Z o->h'.get? c=Z o)->Q Y {s with heap:=h'}):
  wpAny (model prog w) A (pyNext (.ref z)) Q E s:=by
 have hT:s.TypeIs (.ref z) "zip":=(_,hz,U);have fin:∀h' e,(∀c o,c≠z->c≠i1->c≠i2->s.heap.get? c=Z o->h'.get? c=Z o)->(∃o,h'.get? e=Z o/\o.cls=.type "StopIteration") ->
   wpAny (model prog w) A (do if <- isInstance (.ref e) (.type "StopIteration")then pure Y else throw (.ref e)) Q E {s with heap:=h'}:=λh' e hk he=>by
  let(o,ho,hc):=he;refine cZ (WY (o,ho,hc) isSubtype_stop ?_);exact kq (hQ _ hk)
 refine cZ (W0 (wpAny_callSpecial?_slot hT F.slot_zip_next
  (So F.slot_zip_next hT F.entry_zip_next ?_ (F.args_zip_next_1 _))))
 show wpAny _ _ (field (.ref z) 2 >>= _) _ _ _;refine cZ (wpAny_field hz U (x:=.bool ϊ) U ?_);refine cZ (wpAny_field hz U U ?_);refine cZ (wpAny_seqItems aN U ?_);refine cZ (yo hz ha λh₁ ar g=>?_)
 simp only[W5,if_false];rw[<- Ye];simp only[W3];refine cZ (cZ (cZ (BI ?_)));cases hx:xs[k1]? with
 |none =>
  exact cZ (next_end hh (h1.at λo e=>g.extBut _ o D.i1z e) (ak.at λo e=>g.extBut _ o D.l1z e) hx λK e q he=>(fin K e (λc o c1 c2 _ x=>q _ _ c2 (g.extBut _ _ c1 x)) he))
 |some x =>
  have hy:ys[k2]?=none:=by obtain h|h:=wO;rw[hx]at h;cases h;exact h
  refine cZ (next_item (h1.at λo e=>g.extBut _ o D.i1z e) (ak.at λo e=>g.extBut _ o D.l1z e) hx λK aP q=>kq (kq (cZ (cZ (BI ?_)))))
  exact cZ (next_end hh (h2.at λo e=>q.extBut _ o D.i12.symm (g.extBut _ o D.i2z e)) (aA.at λo e=>q.extBut _ o D.l2i1 (g.extBut _ o D.l2z e)) hy λV e P he=>(fin V e (λc o c1 c2 c3 x=>P _ _ c3 (q.extBut _ _ c2 (g.extBut _ _ c1 x))) he))
end
structure ZSt(h:Do)(z TI TO i1 i2 l1 l2 S:J)(t1 t2:Bool)(i:Nat):Prop where
 ti:IsPair h TI (.ref i1) (.ref i2)
 s1:aQ h t1 i1 l1 i
 s2:aQ h t2 i2 l2 i
 st:(IsZip h z TI TO .none/\∃a b,IsPair h TO a b)\/∃(a:J)(f:Bool)(oa:Obj),nW h z TI TO a f/\h.get? a=Z oa/\a≠z/\a≠S/\a≠i1/\a≠i2
variable{S:J}
def ZSt.keep{h:Do}{TI TO:J}{i:Nat}(x:ZSt h z TI TO i1 i2 l1 l2 S t1 t2 i)(k:∀b o,b≠S->h.get? b=Z o->h'.get? b=Z o)(Q:z≠S)(q:TI≠S)(g:TO≠S)(h1:i1≠S)(h2:i2≠S):ZSt h' z TI TO i1 i2 l1 l2 S t1 t2 i :=
 (k _ _ q x.ti,x.s1.at λo e=>k _ o h1 e,x.s2.at λo e=>k _ o h2 e,by
  obtain⟨e,a,b,K⟩|⟨a,f,oa,e,K,n1,P,V⟩:=x.st
  ·exact .inl (k _ _ Q e,a,b,k _ _ g K)
  ·exact .inr (a,f,oa,k _ _ Q e,k _ _ P K,n1,P,V))
structure ZG(xs ys:Array B)(lo:Nat)(h:Do)(as:List J):Prop where
 rise:as.Pairwise (· < ·)
 above:∀a∈as,lo<=a
 pairs:∀(j:Nat)(a:J),as[j]?=Z a->∃x y,xs[j]?=Z x/\ys[j]?=Z y/\IsPair h a x y
def ZG.there{lo:Nat}{h:Do}{as:List J}(g:ZG xs ys lo h as)(ha:a∈as):a<h.objs.size:=by
 let(j,q):=List.mem_iff_getElem?.mp ha;let(_,_,_,_,e):=g.pairs j a q;exact jR e
section
variable{w:Cl}{s:ϋ}
def Kl{E:B->ϋ->Prop}{TI TO:J}{k:Nat}{x y:B}{Q:Option B->ϋ->Prop}(D:ZipApart z TI TO i1 i2 l1 l2)
  (st:ZSt s.heap z TI TO i1 i2 l1 l2 S t1 t2 k) (hS:S<s.heap.objs.size) (K:a6 s.heap t1 l1 xs) (q:a6 s.heap t2 l2 ys) (hx:xs[k]?=Z x) (hy:ys[k]?=Z y)
  (hQ:∀h',ZSt h' z TI TO i1 i2 l1 l2 S t1 t2 (k+1)->IsPair h' s.heap.objs.size x y->h'.objs.size=s.heap.objs.size+1 ->
   (∀c o,c≠z->c≠TO->c≠i1->c≠i2->s.heap.get? c=Z o->h'.get? c=Z o)->Q (Z (.ref s.heap.objs.size)) {s with heap:=h'}):
  wpAny (model prog w) A (pyNext (.ref z)) Q E s:=by
 let(o1,g1,_):=st.s1.obj;let(o2,g2,_):=st.s2.obj;obtain⟨P,a,b,V⟩|⟨a,f,oa,P,ha,n1,n2,n3,n4⟩:=st.st
 ·refine Fl D P st.ti V st.s1 st.s2 K q hx hy λh' g Wb e1 e2 hp hsz hk=>hQ h' (hk _ _ D.TIz D.TITO D.TIi1 D.TIi2 st.ti,e1,e2,.inr (s.heap.objs.size,ϊ,_,g,hp,?_,?_,?_,?_)) hp hsz hk
  ·exact zj (jR P)
  ·exact zj hS
  ·exact zj (jR g1)
  ·exact zj (jR g2)
 ·exact Kr D P ha st.ti st.s1 st.s2 K q hx hy λh' g e1 e2 hp hsz hk=>hQ h' (hk _ _ D.TIz D.TIi1 D.TIi2 st.ti,e1,e2,.inr (a,O,oa,g,hk a oa n1 n3 n4 ha,n1,n2,n3,n4)) hp hsz λc o c1 _ c3 c4 e=>hk c o c1 c3 c4 e
def Km{TI TO:J}{k:Nat}{Q:Option B->ϋ->Prop}(hh:A.handled=Y)(D:ZipApart z TI TO i1 i2 l1 l2)
  (st:ZSt s.heap z TI TO i1 i2 l1 l2 S t1 t2 k) (q:a6 s.heap t1 l1 xs) (g:a6 s.heap t2 l2 ys) (V:xs[k]?=Y\/ys[k]?=Y)
  (hQ:∀h',(∀c o,c≠z->c≠TO->c≠i1->c≠i2->s.heap.get? c=Z o->h'.get? c=Z o)->Q Y {s with heap:=h'}):wpAny (model prog w) A (pyNext (.ref z)) Q E s:=by
 obtain⟨K,a,b,P⟩|⟨a,f,oa,K,ha,n1,n2,n3,n4⟩:=st.st
 ·exact Ks hh D K st.ti P st.s1 st.s2 q g V hQ
 ·exact xv hh D K ha st.ti st.s1 st.s2 q g V λh' hk=>hQ h' λc o c1 _ c3 c4 e=>hk c o c1 c3 c4 e
def Kn{R:Result->ϋ->Prop}{TI TO:J}{t1 t2:Bool}{lo:Nat}(hh:A.handled=Y)(D:ZipApart z TI TO i1 i2 l1 l2)(ar:z≠S)(Bj:TI≠S)(wQ:TO≠S)(aS:i1≠S)(aP:i2≠S)(Bg:l1≠S)(Bf:l2≠S)
  (oS:S<lo) (oz:z<lo) (aT:TO<lo) (o1:i1<lo) (o2:i2<lo) (en:n=min xs.size ys.size) (hn:n<=pq) (res:B) {h₁:Do}
  (hR:∀h' tk acc c as,(∀b o,b≠S->b≠z->b≠TO->b≠i1->b≠i2->h₁.get? b=Z o->h'.get? b=Z o)->h'.get? S=Z {cls:=.type "list",dict:=Y,data:=.seq acc c,slots:=#[]}->as.length=n->ZG xs ys lo h' as ->
   acc.toList=as.map B.ref->R (.ok (.ret res)) {s with heap:=h',toks:=tk}):
  ∀(k i:Nat)(h:Do)(tk c:Nat)(acc:Array B)(as:List J),n - i=k->i<=n->ZSt h z TI TO i1 i2 l1 l2 S t1 t2 i->a6 h t1 l1 xs->a6 h t2 l2 ys->(∀b o,b≠S->b≠z->b≠TO->b≠i1->b≠i2->h₁.get? b=Z o->h.get? b=Z o) ->
   h.get? S=Z {cls:=.type "list",dict:=Y,data:=.seq acc c,slots:=#[]}->acc.toList=as.map B.ref->as.length=i->ZG xs ys lo h as->lo<=h.objs.size ->
   codeAny (model prog w) A (.builtin "list.extend.loop" ([.ref S,.ref z,res],[])) R {s with heap:=h,toks:=tk}:=by
 have ne:∀{a b:Nat},a<lo->lo<=b->b≠a:=λh1 h2=>by omega
 intro k
 induction k with
 |zero =>
  intro i h tk c acc as hk hi aA ak V I0 hS jc K P aN;refine Uw PySem.F.entry_extend_loop ?_;refine cZ (Km (A:=A.in1) hh D aA ak V ?_ λh' he=>?_)
  ·by_cases q:xs.size<=i
   ·exact .inl (Xa q)
   ·exact .inr (Xa (by omega))
  refine kq (hR h' tk acc c as (λb o b1 b2 b3 b4 b5 e=>he b o b2 b3 b4 b5 (I0 b o b1 b2 b3 b4 b5 e)) (he S _ ar.symm wQ.symm aS.symm aP.symm hS) (by omega) (P.rise,P.above,λj a Q=>?_) jc)
  let(x,y,e1,e2,e3):=P.pairs j a Q;have ab:=P.above a (mu Q);exact(x,y,e1,e2,he a _ (ne oz ab) (ne aT ab) (ne o1 ab) (ne o2 ab) e3)
 |succ k ih =>
  intro i h tk c acc as hk hi aA ak V I0 hS jc K P aN;have a0:=WN hk;have hm:=Nat.lt_min.mp (en▸a0);have hx:=Xq hm.1;have hy:=Xq hm.2;have hsz:acc.size=i:=by rw[<- WD,jc,dN,K]
  refine Uw PySem.F.entry_extend_loop ?_;refine cZ (Kl (S:=S) D aA (jR hS) ak V hx hy λh' uo ht hz g=>?_)
  have a7:=g S _ ar.symm wQ.symm aS.symm aP.symm hS;have up:∀b o,b≠S->h'.get? b=Z o->(h'.update S (QG (·.push (B.ref h.objs.size)))).get? b=Z o:=λb o hb e=>(sT _ _ (Ne.symm hb)).trans e
  have a3:=jR hS;refine cZ ?_;refine Ul a7 U (kq (R3 PySem.F.plain_extend_loop _,ih (i+1) _ tk _ (acc.push (B.ref h.objs.size)) (as ++ [h.objs.size]) (by rw[Xm,hk];rfl) a0 (uo.keep up ar Bj wQ aS aP)
   (ak.at λo e=>up _ o Bg (g _ o D.l1z D.l1TO D.l1i1 D.l1i2 e)) (V.at λo e=>up _ o Bf (g _ o D.l2z D.l2TO D.l2i1 D.l2i2 e))
   (λb o b1 b2 b3 b4 b5 e=>up b o b1 (g b o b2 b3 b4 b5 (I0 b o b1 b2 b3 b4 b5 e))) (ui _ a7 U) (by rw[Array.toList_push,jc,pz];rfl) (by rw[iQ,K];rfl) (?_,?_,?_) ?_)) (by rw[hsz];omega) (by rw[Array.size_push,hsz];omega)
  ·refine List.pairwise_append.mpr (P.rise,List.pairwise_singleton _ _,λa ha b hb=>?_)
   rw[fy.mp hb];exact P.there ha
  ·intro a ha;obtain ha|ha:=nZ.mp ha
   ·exact P.above a ha
   ·rw[fy.mp ha];exact aN
  ·intro j b Q;obtain h1|h1|h1:=Nat.lt_trichotomy j as.length
   ·rw[vr h1]at Q;let(x',y',e1,e2,e3):=P.pairs j b Q;have ab:=P.above b (mu Q);exact(x',y',e1,e2,up b _ (ne oS ab) (g b _ (ne oz ab) (ne aT ab) (ne o1 ab) (ne o2 ab) e3))
   ·subst h1;have hb:=by simpa using Q
    subst hb;exact(_,_,by rw[K];exact hx,by rw[K];exact hy,up _ _ (zj a3) ht)
   ·have Ue:(as ++ [h.objs.size])[j]?=none:=Uk (by rw[iQ,v5];omega)
    rw[Ue]at Q;cases Q
  ·have e:=up _ _ (zj a3) ht
   have:=jR e
   have VO:=aN;exact sR VO (sV this)
end
def zv:typeLookup (.type "zip") "__len__"=pure none:=by kernel_rfl
def xw:typeLookup (.type "zip") "__length_hint__"=pure none:=by kernel_rfl
section
variable{w:Cl}{s:ϋ}
theorem Dh{R:Result->ϋ->Prop}{TI TO:J}(hh:A.handled=Y)(D:ZipApart z TI TO i1 i2 l1 l2)(q:z≠S)(Bj:TI≠S)(wQ:TO≠S)(ar:i1≠S)(ak:i2≠S)(Bg:l1≠S)(Bf:l2≠S)
  (hz:IsZip s.heap z TI TO .none) {ta tb:B} (V:IsPair s.heap TO ta tb) (aA:IsPair s.heap TI (.ref i1) (.ref i2)) (Q:aQ s.heap t1 i1 l1 0) (P:aQ s.heap t2 i2 l2 0) (aP:a6 s.heap t1 l1 xs) (aN:a6 s.heap t2 l2 ys)
  (en:n=min xs.size ys.size) (hn:n<=pq) (res:B) (c₀:Nat) (hS:s.heap.get? S=Z {cls:=.type "list",data:=.seq #[] c₀})
  (hR:∀h' tk acc c as,(∀b o,b≠S->b≠z->b≠TO->b≠i1->b≠i2->s.heap.get? b=Z o->h'.get? b=Z o)->h'.get? S=Z {cls:=.type "list",dict:=Y,data:=.seq acc c,slots:=#[]}->as.length=n->ZG xs ys s.heap.objs.size h' as ->
   acc.toList=as.map B.ref->R (.ok (.ret res)) {s with heap:=h',toks:=tk}):
  wpAny (model prog w) A.in1 (Builtin.List.listExtendWith (.ref S) (.ref z) res)
   (λfin s'=>match fin with|.done f=>R (.ok f) s' |.again c'=>c'.quiet=O/\codeAny (model prog w) A c' R s') (λe s'=>R (.error e) s') s:=by
 have hT:s.TypeIs (.ref z) "zip":=(_,hz,U);let(aT,g1,_):=Q.obj;let(aS,g2,_):=P.obj;refine cZ (VD hT ?_);have e1:Builtin.List.listSameRef (.ref S) (.ref z)=false:=by simp[Builtin.List.listSameRef,q.symm]
 have e2:(B.type "zip" == B.type "list")=false:=by decide
 have e3:(B.type "zip" == B.type "tuple")=false:=by decide
 simp only[e1,e2,e3,if_false];refine cZ (wpAny_pyIter_zip hz (cZ (BI ?_)));refine cZ (WL hT zv ?_);refine cZ (WL hT xw (kq ?_));refine cZ (Wo (cZ ?_));refine cZ (Ul hS U ?_);have g:=ui (QG (·.push B.none)) hS U;refine Ul g U ?_;have K:=ui (QG (·.pop)) g U;have oth:∀b o,b≠S->s.heap.get? b=Z o->((s.heap.update S (QG (·.push B.none))).update S (QG (·.pop))).get? b=Z o :=
  λb o hb e=>(sT _ _ (Ne.symm hb)).trans ((sT _ _ (Ne.symm hb)).trans e)
 have hsz:((s.heap.update S (QG (·.push B.none))).update S (QG (·.pop))).objs.size=s.heap.objs.size:=by
  rw[(Heap.SameBut.update (a:=S) ..).1,(Heap.SameBut.update (a:=S) ..).1]
 refine kq (R3 F.plain_extend_loop _,Kn (s:=s) (n:=n) hh D q Bj wQ ar ak Bg Bf (jR hS) (jR hz) (jR V) (jR g1) (jR g2) en hn res hR n 0 _ _ _ _ [] (by omega) (wh _)
  (oth _ _ Bj aA,Q.at λo e=>oth _ o ar e,P.at λo e=>oth _ o ak e,.inl (oth _ _ q hz,ta,tb,oth _ _ wQ V)) (aP.at λo e=>oth _ o Bg e) (aN.at λo e=>oth _ o Bf e) (λb o b1 _ _ _ _ e=>oth b o b1 e) K U U (List.Pairwise.nil,λ_ z=>(nomatch z),λj a hj=>by simp at hj) (by rw[hsz];exact nY _))
def Ko{R:Result->ϋ->Prop}{TI TO:J}(hh:A.handled=Y)(D:ZipApart z TI TO i1 i2 l1 l2)(q:z≠S)(Bj:TI≠S)(wQ:TO≠S)(P:i1≠S)(K:i2≠S)(Bg:l1≠S)(Bf:l2≠S)
  (hz:IsZip s.heap z TI TO .none) {ta tb:B} (ak:IsPair s.heap TO ta tb) (ar:IsPair s.heap TI (.ref i1) (.ref i2)) (V:aQ s.heap t1 i1 l1 0) (Q:aQ s.heap t2 i2 l2 0) (aP:a6 s.heap t1 l1 xs) (aN:a6 s.heap t2 l2 ys)
  (en:n=min xs.size ys.size) (hn:n<=pq) (hS:s.heap.get? S=Z {cls:=.type "list",data:=.seq #[]})
  (hR:∀h' tk acc c as,(∀b o,b≠S->b≠z->b≠TO->b≠i1->b≠i2->s.heap.get? b=Z o->h'.get? b=Z o)->h'.get? S=Z {cls:=.type "list",dict:=Y,data:=.seq acc c,slots:=#[]}->as.length=n->ZG xs ys s.heap.objs.size h' as ->
   acc.toList=as.map B.ref->R (.ok (.ret .none)) {s with heap:=h',toks:=tk}):
  wpAny (model prog w) A.in1 (Builtin.«list.__init__» ([.ref S,.ref z],[]))
   (λfin s'=>match fin with|.done f=>R (.ok f) s' |.again c'=>c'.quiet=O/\codeAny (model prog w) A c' R s') (λe s'=>R (.error e) s') s:=by
 refine cZ ?_;refine cZ (wpAny_seqItems hS U (kq ?_));refine cZ (Ul hS U ?_);have g:=ui (QG (λ_=>(#[]))) hS U
 have oth:∀b o,b≠S->s.heap.get? b=Z o->(s.heap.update S (QG (λ_=>(#[])))).get? b=Z o :=
  λb o hb e=>(sT _ _ (Ne.symm hb)).trans e
 have hsz:(s.heap.update S (QG (λ_=>(#[])))).objs.size=s.heap.objs.size:=(Heap.SameBut.update (a:=S) ..).1
 refine Dh (xs:=xs) (ys:=ys) (n:=n) hh D q Bj wQ P K Bg Bf (oth _ _ q hz) (oth _ _ wQ ak) (oth _ _ Bj ar) (V.at λo e=>oth _ o P e) (Q.at λo e=>oth _ o K e) (aP.at λo e=>oth _ o Bg e) (aN.at λo e=>oth _ o Bf e) en hn .none _ g (λh' tk acc c as hk aA hl hG jc=>?_)
 rw[hsz]at hG;exact hR h' tk acc c as (λb o b1 b2 b3 b4 b5 e=>hk b o b1 b2 b3 b4 b5 (oth b o b1 e)) aA hl hG jc
def Kq{E:B->ϋ->Prop}{Q:B->ϋ->Prop}{TI TO:J}(hh:A.handled=Y)(D:ZipApart z TI TO i1 i2 l1 l2)
  (hz:IsZip s.heap z TI TO .none) {ta tb:B} (P:IsPair s.heap TO ta tb) (V:IsPair s.heap TI (.ref i1) (.ref i2)) (K:aQ s.heap t1 i1 l1 0) (q:aQ s.heap t2 i2 l2 0) (ar:a6 s.heap t1 l1 xs) (ak:a6 s.heap t2 l2 ys)
  (en:n=min xs.size ys.size) (hn:n<=pq)
  (hQ:∀h' tk acc c as,(∀b o,b≠z->b≠TO->b≠i1->b≠i2->s.heap.get? b=Z o->h'.get? b=Z o)->h'.get? s.heap.objs.size=Z {cls:=.type "list",dict:=Y,data:=.seq acc c,slots:=#[]}->as.length=n->ZG xs ys (s.heap.objs.size+1) h' as ->
   acc.toList=as.map B.ref->Q (.ref s.heap.objs.size) {s with heap:=h',toks:=tk}):
  wpAny (model prog w) A (call (.type "list") [.ref z]) Q E s:=by
 refine callType_codes (Q₁:=λobj g=>obj=.ref s.heap.objs.size/\g={s with heap:=s.heap.push {cls:=.type "list",data:=.seq #[]}}) PySem.F.called_list (PySem.F.typeCall_list_1 _) PySem.F.entry_list_init
  (code_list_new _ (U,U)) λobj g h₁=>?_
 let(U,U):=h₁;have hS:(s.heap.push {cls:=.type "list",data:=.seq #[]}).get? s.heap.objs.size=Z {cls:=.type "list",data:=.seq #[]}:=px _ U;let(aT,g1,_):=K.obj;let(aS,g2,_):=q.obj;let(aP,g3):=ar.obj;let(aN,g4):=ak.obj;have up:∀b o,s.heap.get? b=Z o->(s.heap.push {cls:=.type "list",data:=.seq #[]}).get? b=Z o:=λb o e=>ft _ e
 refine((_,hS,U),PySem.F.args_list_init_2 _ _,Ko hh D (rz (jR hz)) (rz (jR V)) (rz (jR P)) (rz (jR g1)) (rz (jR g2)) (rz (jR g3)) (rz (jR g4))
  (up _ _ hz) (up _ _ P) (up _ _ V) (K.at λo e=>up _ o e) (q.at λo e=>up _ o e) (ar.at λo e=>up _ o e) (ak.at λo e=>up _ o e) en hn hS (λh' tk acc c as hk aA hl hG jc=>?_))
 rw[v3]at hG;exact(U,hQ h' tk acc c as (λb o b2 b3 b4 b5 e=>hk b o (rz (jR e)) b2 b3 b4 b5 (up b o e)) aA hl hG jc)
end
def EU(h:Do)(m:Nat):Do:={h with objs:=h.objs.extract 0 m}
def mQ{h:Do}{m b:Nat}(g:b<m):(EU h m).get? b=h.get? b:=by
 unfold EU Heap.get?;have e:(h.objs.extract 0 m)[b]?=h.objs[b]?:=by
  rw[Array.getElem?_extract];by_cases q:b<h.objs.size
  ·rw[if_pos (by lia),Fq]
  ·rw[if_neg (by lia),Xa (by lia)]
 simp only[e]
def sD{h:Do}{m:Nat}(hm:m<=h.objs.size):(EU h m).objs.size=m:=by
 unfold EU;rw[Array.size_extract]
 lia
def Nh{h:Do}{m:Nat}{b:J}{u:Obj}(hm:m<=h.objs.size)(e:(EU h m).get? b=Z u):h.get? b=Z u:=by
 have:=jR e
 rw[sD hm]at this;rw[<- mQ this];exact e
def nh(H:Hp):List (J×HO)->Hp
 |[]=>H
 |p::r=>nh (upd H p.1 p.2) r
theorem nc:∀{os:List (J×HO)}{H:Hp}{c:J},c ∉ os.map (·.1)->nh H os c=H c
 |[],_,_,_=>rfl
 |p::r,H,c,h=>by
  show nh (upd H p.1 p.2) r c=H c;rw[nc (λz=>h (g5 _ z)),aj λz=>h (by rw[z];exact lD)]
theorem ng:∀{os:List (J×HO)}{H:Hp}{p:J×HO},(os.map (·.1)).Nodup->p∈os->nh H os p.1=Z p.2
 |q::r,H,p,hn,hp=>by
  have h':=u6.mp hn;show nh (upd H q.1 q.2) r p.1=Z p.2;obtain rfl|hp:=ot.mp hp
  ·rw[nc h'.1,au]
  ·exact ng h'.2 hp
theorem xB:∀as:List J,Vals (as.map V.ref) (as.map B.ref)
 |[]=>.nil
 |a::r=>.cons U (xB r)
theorem Inv.IE{X:Cx}{gd:List (J×Obj)}{σ:St}{s:ϋ}{h':Do}:∀{os:List (J×HO)}{H:Hp}{m:Nat},Inv X gd σ H {s with heap:=EU h' m}->m<=h'.objs.size->(os.map (·.1)).Pairwise (· < ·)->(∀p∈os,m<=p.1/\p.1<h'.objs.size) ->
  (∀p∈os,∀(H2:Hp)(P:Do),P.get? p.1=h'.get? p.1->bJ X.prog X.w H2 P p.1 p.2)->Inv X gd σ (nh H os) {s with heap:=h'}
 |[],H,m,I,hm,_,_,_=>I.kept λb u e=>Nh hm e
 |p::r,H,m,I,hm,hp,Q,ho=>by
  have g:=Yf.mp hp;let(b1,b2):=Q p lD;have K:=b2;have V:=by
   refine I.laid (t':=s.toks) (λb u e=>?_) ?_ (ho p lD _ _ (mQ (Wl _)))
   ·have lt:=jR e;rw[sD hm]at lt;have z:=rE lt (sR b1 (Yq _));rw[mQ z,<- mQ lt];exact e
   ·rw[sD hm];exact b1
  exact Inv.IE (os:=r) V K g.2 (λq hq=>(g.1 q.1 (oG.mpr (q,hq,U)),(Q q (g5 _ hq)).2)) λq hq=>ho q (g5 _ hq)
def qw(K:BT)(tl:TA):TE:=λσ H R=>tl σ H λvs H1=>∃l1 l2 xs ys,vs=[.ref l1,.ref l2]/\SqT K H1 l1 xs/\SqT K H1 l2 ys/\∀(H2:Hp)(L:J)(ps:List J),H1 L=Y->ps.length=min xs.length ys.length->ps.Nodup->(∀p∈ps,H1 p=Y/\p≠L)->(∀c,c ∉ ps->c≠L->H2 c=H1 c)->H2 L=Z (.lst (ps.map V.ref))->(∀(j:Nat) p x y,ps[j]?=Z p->xs[j]?=Z x->ys[j]?=Z y->H2 p=Z (.tup [x,y]))->R (.ref L) H2
section
variable{a b:Ev}{tl:TA}{pos p fk p2:Pos}
def AA(hg:Gl X "list")(hm:X.mg "list"=Y)(bC:Gl X "zip")(a8:X.mg "zip"=Y)(ha:PA X [a,b] tl)(hs:m4 [a,b] X.env=[(ϊ,eval a X.env),(ϊ,eval b X.env)])(aP:AD X b)
  (aN:m4 [.Call (.Name "zip" p2) [a,b] [] fk] X.env=(ϊ,eval (.Call (.Name "zip" p2) [a,b] [] fk) X.env)::m4 [] X.env) (hc:X.calm=O):
  PE X (.Call (.Name "list" p) [.Call (.Name "zip" p2) [a,b] [] fk] [] pos) (qw X.K tl):=by
 intro gd s σ H R I h;refine Call_ (gE I hg hm (by kernel_rfl) (PyProof.Rows.callWith_type1 (T:="list") ?_ aN (by rfl)))
 rw[aN];refine Calls.spliced_cons ?_;refine Call_ (gE I bC a8 (by kernel_rfl) (PyProof.Rows.callWith_type1 (T:="zip") (thn (ha fk gd s σ H _ I h) λus s1 (vs,H1,P,r1,q1)=>?_) (by rw[hs,aP]) (by rw[aP];rfl)))
 let(l1,l2,xs,ys,e,q2,q3,q):=q1;subst e;let(u1,u2,U,aT,aS):=vals2 r1;cases aT;cases aS;let(Vy,ak,o1,z1):=P.Gz (tp:=O) q2;let(iE,Q,o2,z2):=P.Gz (tp:=O) q3;let(b0,e1):=o1.obj;let(bV,e2):=o2.obj;have g1:l1<s1.heap.objs.size:=jR e1;have g2:l2<s1.heap.objs.size:=jR e2;refine xf o1 o2 λh1 hz bI bE bt bj hk=>?_
 refine Calls.spliced_nil ?_;have nz:s1.heap.objs.size+4<h1.objs.size:=jR hz;have a7:=ak.length;have a0:=Q.length;refine Kq (t1:=O) (t2:=O) (xs:=Vy.toArray) (ys:=iE.toArray) (n:=min xs.length ys.length) (P.ok.hd hc) (xx g1 g2) hz bE bI bt bj (o1.at λo e=>hk _ o e) (o2.at λo e=>hk _ o e) (by simp[a7,a0]) (by omega) λh' tk acc c as bb hS hl g jc=>?_
 have fr:∀b u,s1.heap.get? b=Z u->h'.get? b=Z u:=λb u e=>by
  have lt:b<s1.heap.objs.size:=jR e;have ne:∀m:Nat,s1.heap.objs.size<=m->b≠m:=λm hm z=>absurd (z▸lt:m<s1.heap.objs.size) (by omega)
  exact bb b u (ne _ (by omega)) (ne _ (by omega)) (ne _ (nY _)) (ne _ (by omega)) (hk b u e)
 have I2:=P.kept (t':=tk) λb u e=>by rw[mQ (jR e)];exact fr b u e
 have lS:h1.objs.size<h'.objs.size:=jR hS;have keys:(((Prod.mk h1.objs.size (HO.lst (as.map V.ref))) ::(as.zip (xs.zip ys)).map λp=>(Prod.mk p.1 (HO.tup [p.2.1,p.2.2]))).map (·.1))=h1.objs.size::as:=by
  rw[E3,uk]
  congr 1
  have:((λx:J×HO=>x.1) ∘ λp:J×V×V=>(p.1,HO.tup [p.2.1,p.2.2]))=Prod.fst:=rfl
  rw[this,XG (by rw[Ww];omega)]
 have pw:(h1.objs.size::as).Pairwise (· < ·):=Yf.mpr (λa ha=>g.above a ha,g.rise)
 have at':∀(j:Nat)(p:J×V×V),(as.zip (xs.zip ys))[j]?=Z p->as[j]?=Z p.1/\xs[j]?=Z p.2.1/\ys[j]?=Z p.2.2:=λj p hp=>by
  have h1:=Wk.mp hp;have h2:=Wk.mp h1.2;exact(h1.1,h2.1,h2.2)
 have I3:=Inv.IE (X:=X) (s:={s1 with toks:=tk}) (m:=s1.heap.objs.size) (h':=h') I2 (by omega) (by rw[keys];exact pw) (λp hp=>?_) (λp hp H2 hh e=>?_)
 ·have nd:(h1.objs.size::as).Nodup:=pw.imp λh=>rz h
  have aA:=u6.mp nd;refine(.ref h1.objs.size,_,I3,U,q _ h1.objs.size as (P.hok.fresh (by omega)) hl aA.2 (λp hp=>(P.hok.fresh ?_,λz=>aA.1 (z▸hp))) (λc c1 c2=>?_) ?_ (λj p x y hp hx hy=>?_))
  ·have:=g.above p hp
   exact sR (show s1.heap.objs.size<=h1.objs.size+1 by omega) this
  ·exact nc (by rw[keys];exact λz=>(ot.mp z).elim c2 c1)
  ·exact ng (by rw[keys];exact nd) lD
  ·have hz:(as.zip (xs.zip ys))[j]?=Z (p,x,y):=Wk.mpr (hp,Wk.mpr (hx,hy));exact ng (p:=(p,HO.tup [x,y])) (by rw[keys];exact nd) (g5 _ (oG.mpr (_,mu hz,U)))
 ·have:p.1∈h1.objs.size::as:=by rw[<- keys];exact oG.mpr (p,hp,U)
  obtain z|z:=ot.mp this
  ·rw[z];exact(by omega,lS)
  ·have ab:=g.above p.1 z;exact(sR (show s1.heap.objs.size<=h1.objs.size+1 by omega) ab,g.there z)
 ·obtain rfl|hp:=ot.mp hp
  ·refine(by rw[dN];omega,acc.toList,c,by rw[jc];exact xB as,?_)
   rw[e];exact hS
  ·let(t,ht,U):=oG.mp hp;let(j,hj):=List.getElem?_of_mem ht;let(a1,a2,a3):=at' j t hj;let(x,y,x1,y1,pr):=g.pairs j t.1 a1;let(u1,w1,r1):=ak.get a2;let(u2,w2,r2):=Q.get a3;rw[WO,w1]at x1;cases x1;rw[WO,w2]at y1;cases y1;have ar:hh.get? t.1=_:=e.trans pr;exact(by show 2<=pq;decide,[x,y],.cons r1 (.cons r2 .nil),((_,ar,U,_,U),_,ar,U))
end
section
variable{w:Cl}{s:ϋ}
theorem EL{e:J}{i:Nat}{x old:B}{Q:Option B->ϋ->Prop}
  (he:IsEnum s.heap e it i old) (hit:aQ s.heap tp it l i) (hl:a6 s.heap tp l items) (hx:items[i]?=Z x) (K:e≠it)
  (hQ:∀h',IsEnumOut h' e it ((i:Int)+1) x s.heap.objs.size->aQ h' tp it l (i+1)->h'.get? s.heap.objs.size=Z {cls:=.type "tuple",data:=.seq #[.int i s.toks,x]}->h'.objs.size=s.heap.objs.size+1 ->
   (∀b o,b≠e->b≠it->s.heap.get? b=Z o->h'.get? b=Z o)->Q (Z (.ref s.heap.objs.size)) {s with heap:=h',toks:=s.toks+1}):wpAny (model prog w) A (pyNext (.ref e)) Q E s:=by
 have hT:s.TypeIs (.ref e) "enumerate":=(_,he,U);let(hp,g,d,tk,os):=s;refine cZ (W0 (wpAny_callSpecial?_slot hT F.slot_enumerate_next (So F.slot_enumerate_next hT F.entry_enumerate_next ?_ (F.args_enumerate_next_1 _))));show wpAny _ _ (field (.ref e) 2 >>= _) _ _ _;refine cZ (wpAny_field he U U ?_);refine cZ (next_item hit hl hx λh1 VJ ar=>?_)
 have aA:=(ar.2 e K).trans he;refine cZ (wpAny_field aA U U ?_);refine cZ (wpAny_field aA U U ?_);refine cZ (wpAny_mkInt ?_);refine cZ (wpAny_setField_rec aA (by simp) λh2 bE ak=>?_)
 refine cZ (wpAny_setField_rec bE (by simp) λh3 bC V=>?_)
 show wpAny _ _ (newTuple [.int i tk,x] >>= _) _ _ (h3,g,d,tk+1,os);refine cZ (wpAny_newTuple ?_);have P:IsEnum (h3.push {cls:=.type "tuple",data:=.seq #[.int i tk,x]}) e it ((i)+1) old:=ft _ bC;have hsz:h3.objs.size=hp.objs.size:=by rw[V.1,ak.1,ar.1]
 have a8:=jR he;have aS:(h3.push {cls:=.type "tuple",data:=.seq #[.int i tk,x]}).get? hp.objs.size=Z {cls:=.type "tuple",data:=.seq #[.int i tk,x]}:=by rw[<- hsz];exact px _ U
 have aP:(h3.push {cls:=.type "tuple",data:=.seq #[.int i tk,x]}).objs.size=hp.objs.size+1:=by rw[v3,hsz]
 have a7:∀b o,b≠e->b≠it->hp.get? b=Z o->(h3.push {cls:=.type "tuple",data:=.seq #[.int i tk,x]}).get? b=Z o:=λb o q aN hb=>ft _ (V.extBut b o q (ak.extBut b o q (ar.extBut b o aN hb)))
 have Uh:aQ (h3.push {cls:=.type "tuple",data:=.seq #[.int i tk,x]}) tp it l (i+1):=VJ.at λo eo=>ft _ (V.extBut _ o K.symm (ak.extBut _ o K.symm eo))
 generalize h3.push {cls:=.type "tuple",data:=.seq #[.int i tk,x]}=h4 at P aS aP a7 Uh
 rw[hsz];refine cZ ?_;refine cZ (wpAny_field P U U (kq ?_));refine cZ (Wo (cZ (wpAny_field P U (x:=old) U (cZ (wpAny_setField_rec P (by simp) λh5 bt a3=>?_)))))
 refine cZ ?_;refine cZ (wpAny_setField_rec bt (by simp) λh6 bj a0=>?_)
 refine wpAny_setField_rec bj (by simp) λh7 bb aT=>?_
 have up:∀c o,c≠e->h4.get? c=Z o->h7.get? c=Z o:=λc o hc z=>aT.extBut _ _ hc (a0.extBut _ _ hc (a3.extBut _ _ hc z))
 refine cZ (wpAny_letGo (kq (_,U,kq (hQ h7 bb (Uh.at λo eo=>up _ o K.symm eo) (up _ _ (zj a8) aS) ?_ λb o q aN hb=>up b o q (a7 b o q aN hb)))))
 rw[aT.1,a0.1,a3.1,aP]
theorem Jp{e:J}{i:Nat}{old:B}{Q:Option B->ϋ->Prop}(z:A.handled=Y)
  (he:IsEnum s.heap e it i old) (hit:aQ s.heap tp it l i) (hl:a6 s.heap tp l items) (hx:items[i]?=Y) (P:∀h',Yr it s.heap h'->Q Y {s with heap:=h'}):wpAny (model prog w) A (pyNext (.ref e)) Q E s:=by
 have hT:s.TypeIs (.ref e) "enumerate":=(_,he,U);refine cZ (W0 (wpAny_callSpecial?_slot hT F.slot_enumerate_next (So F.slot_enumerate_next hT F.entry_enumerate_next ?_ (F.args_enumerate_next_1 _))));show wpAny _ _ (field (.ref e) 2 >>= _) _ _ _;refine cZ (wpAny_field he U U ?_);refine cZ (next_end z hit hl hx λh' x q g=>?_)
 let(o,ho,K):=g;refine cZ (WY (o,ho,K) isSubtype_stop ?_);exact kq (P _ q)
abbrev eH1(tp:Bool)(h:Do)(l:J):Do:=h.push {cls:=.type (itc tp),data:=.fields #[.ref l,.int 0 0]}
abbrev eH2(tp:Bool)(h:Do)(l:J):Do:=(eH1 tp h l).push {cls:=.type "enumerate",data:=.fields #[.none,.bool ϊ,.ref h.objs.size,rawInt 0,.none,.none]}
def rJ(tp:Bool)(l:J)(xs:Array B):
  Meets (Builtin.«enumerate.__new__» ([.type "enumerate",.ref l],[])) (λ_ R s=>a6 s.heap tp l xs/\R (.ok (.ret (.ref (eH1 tp s.heap l).objs.size))) {s with heap:=eH2 tp s.heap l}) :=
 .of_wp λprog w A R s h=>by
  let(hl,h):=h;have q:=sub_enumerate;have g:=hl
  wp_walk
  refine wpAny_stack_any λst=>kq ?_
  split
  ·rename_i c _ _ _ _ _
   cases(c==B.type "enumerate")
   ·wp_walk using jE g
    exact(_,U,h)
   ·wp_walk using jE g
    exact(_,U,h)
  ·wp_walk using jE g
   exact(_,U,h)
theorem uu(hl:a6 s.heap tp l xs)
  (h:∀h',IsEnum h' (s.heap.objs.size+1) s.heap.objs.size 0 .none->aQ h' tp s.heap.objs.size l 0->(∀b o,s.heap.get? b=Z o->h'.get? b=Z o)->Q (.ref (s.heap.objs.size+1)) {s with heap:=h'}):
  wpAny (model prog w) A (call (.type "enumerate") [.ref l]) Q E s:=by
 refine callType_new F.called_enumerate (by decide) (F.typeCall_enumerate_1 _) (F.newCall_enumerate_1 _) (λobj=>F.args_object_init_2 obj _) F.entry_enumerate_new (rJ tp l xs) (hl,?_)
 have g:(eH1 tp s.heap l).objs.size=s.heap.objs.size+1:=v3 ..;have g2:(eH2 tp s.heap l).get? (eH1 tp s.heap l).objs.size=Z _:=px _ U;have g1:(eH2 tp s.heap l).get? s.heap.objs.size=Z _:=ft _ (px _ U);rw[g]at g2 ⊢;exact((_,g2,U),h _ g2 (ji g1) λc o x=>ft _ (ft _ x))
end
def Ite(K:BT)(tp:Bool)(l:J):It :=
 (λi H=>∃xs x,SqB K tp H l xs/\xs[i]?=Z x,
   λi H v H'=>∃(p:J)(x:V),H p=Y/\v=.ref p/\H'=upd H p (.tup [.int i,x])/\∀xs,SqB K tp H l xs->xs[i]?=Z x,
   λi H=>∃xs,SqB K tp H l xs/\xs.length<=i)
variable{P:Da}{elts:List Ev}
theorem DH{w:Cl}{K:BT}{x1}{pos:Pos}(e it l:J)(Q:e≠it):
  Turn P w K (.Tuple elts x1 pos) (Ite K tp l) [e,it] e (λi h=>(∃old,IsEnum h e it i old)/\aQ h tp it l i) where
 mem:=by simp
 obj:=by
  rintro i h ⟨⟨old,h1⟩,h2⟩ c q
  simp only[ot,x2,or_false]at q;obtain rfl|rfl:=q
  ·exact(_,h1,λv e=>by cases e)
  ·exact h2.obj
 keep:=by
  rintro i h h' ⟨⟨old,h1⟩,h2⟩ k
  exact((old,k e (by simp) _ h1),h2.at λo z=>k it (by simp) o z)
 item:=by
  intro X hP hw hK q i gd s σ H E I hf st hg;subst hP hw hK;let((old,h1),h2):=st;let(xs,x,q1,e1):=hg;let(its,rv,o1,z1):=I.Gz q1;let(u1,aA,ar):=rv.get e1;refine EL h1 h2 o1 (x:=u1) (by simpa using aA) Q λh' aN aS aT VB aP=>(_,U,(wpAny_letOwnedTupleGo_enum aN λak MX Rq=>?_))
  have hn:=I.hok.fresh (nY s.heap.objs.size);have le:=jR h1;let(oi,a0,_):=h2.obj;have li:=jR a0;have Vv:∀b ∈ [e,it],b≠s.heap.objs.size:=λb g=>by
   simp only[ot,x2,or_false]at g;obtain rfl|rfl:=g
   ·exact rz le
   ·exact rz li
  have up:∀c o,c≠e->h'.get? c=Z o->ak.get? c=Z o:=λc o q z=>Rq.extBut _ _ q z
  have I1:Inv X gd σ (upd H s.heap.objs.size (.tup [.int i,x])) {s with heap:=s.heap.push {cls:=.type "tuple",data:=.seq #[.int i s.toks,u1]},toks:=s.toks+1} :=
   I.laid (λb u z=>ft _ z) (nY _) (by show 2<=pq;decide,[.int i s.toks,u1],.cons (_,U) (.cons ar .nil),((_,px _ U,U,_,U),_,px _ U,U))
  have V:∀b ∈ [e,it],sW X gd (upd H s.heap.objs.size (.tup [.int i,x])) b:=λb g=>by
   let(f0,r):=hf b g;exact(by rw[aj (Vv b g)];exact f0,r)
  have I2:=by
   refine I1.pB (h':=ak) (t':=s.toks+1) (λb o g z=>?_) V
   simp only[ot,x2,or_false,not_or]at g;let(b1,b2):=g;obtain⟨rfl,rfl⟩|z':=XX z
   ·exact up _ _ b1 aT
   ·exact up _ _ b1 (aP b o b1 b2 z')
  exact(.ref s.heap.objs.size,upd H s.heap.objs.size (.tup [.int i,x]),I2,U,(_,x,hn,U,U,λzs hz=>by rw[I.Gy hz q1];exact e1),(((_,by simpa using MX),aS.at λo z=>up _ _ Q.symm z)),λb g=>(V b g).1)
 done:=by
  intro X hP hw hK q i gd s σ H E I hf st hg;subst hP hw hK;let((old,h1),h2):=st;let(xs,q1,wO):=hg;let(its,rv,o1,z1):=I.Gz q1;have g1:=rv.length;refine Jp (I.ok.hd q) h1 h2 o1 (by simp;lia) λh' k=>(U,I.pB (λb o g z=>?_) hf)
  simp only[ot,x2,or_false,not_or]at g;exact k b o g.2 z
 self:=λ_ _ _ _ _ st h=>let((_,z),_):=st;wpAny_pyIter_enum z h
def rT(K:BT)(tp:Bool)(ta:TA):TI:=λσ H R=>ta σ H λvs H1=>∃l,vs=[.ref l]/\(∃xs,SqB K tp H1 l xs)/\R (Ite K tp l) H1
variable{pos':Pos}
def L5{x1}{a:Ev}{ta:TA}{p pos:Pos}(hg:Gl X "enumerate")(hm:X.mg "enumerate"=Y)(jG:bootBuiltins "enumerate"=Z (.type "enumerate"))(ha:PA X [a] ta)(hs:‹AD X a›):
  PI X (.Tuple elts x1 pos') (.Call (.Name "enumerate" p) [a] [] pos) (rT X.K tp ta):=by
 intro gd s σ H R I h;refine Call_ (gE I hg hm jG (PyProof.Rows.callWith_type1 (thn (ha pos gd s σ H _ I h) λus s1 (vs,H1,P,r1,q1)=>?_) hs U))
 let(l,e,(xs,q2),q):=q1;subst e;let(u1,U,Q):=vals1 r1;cases Q;let(its,rv,o1,z1):=P.Gz q2;refine uu o1 λh' he hi hk=>wpAny_pyIter_enum he ?_
 refine(_,[s1.heap.objs.size+1,s1.heap.objs.size],_,_,H1,U,P.kept hk,DH _ _ l (λz=>absurd (show @Eq Nat _ _ from z) (by lia)),((_,he),hi),λc V=>?_,q)
 have g:s1.heap.objs.size<=c:=by
  simp only[ot,x2,or_false]at V;obtain rfl|rfl:=V <;> first|exact Nat.le_add_right _ _|exact nY _
 exact P.Jj g (P.hok.fresh g)
end L2
namespace PySem
open Sem (wp)
end PySem
namespace L2
open PySem PySem.Spec PyProof.Rows
def Paired.at_{α β:Type}{r:α->β->Prop}{xs:List α}{ys:List β}(h:Paired r xs ys):∀{i:Nat}{y:β},ys[i]?=Z y->∃x,xs[i]?=Z x/\r x y:=by
 induction h with
 |nil=>intro i y h;simp at h
 |cons h1 _ q =>
  intro i y g;cases i with
  |zero=>simp at g;subst g;exact(_,U,h1)
  |succ i=>simpa using q (by simpa using g)
section
variable{X:Cx}{gd:List (J×Obj)}{σ:St}{H:Hp}{s:ϋ}{a:J}{u u':HO}
def Inv.B0(I:Inv X gd σ H s)(ha:H a=Z u)(h1:∀xs,u ≠ .tup xs)(h2:∀c,u ≠ .own c)(h3:∀ps,u ≠ .tbl ps)(K:∀o v,X.H₀ a≠Z (.frz o v))(new:bJ X.prog X.w (upd H a u') s.heap a u'):Inv X gd σ (upd H a u') s:=by
 have ne:∀{b:J},H b=Y->b≠a:=λ{b} e z=>by rw[z,ha]at e;cases e
 refine(I.ok,I.os,I.bare,(I.base.keep,I.base.slot,λb o e n hx=>?_,I.base.there,λb xs e=>?_,λb o v e=>?_,λb ps e=>?_),I.loc,I.cell,?_,λx c e=>?_,λp hp=>?_,λb o e=>?_,I.len)
 ·have:=I.base.free b o e n hx
  rw[aj (ne this)];exact this
 ·have:=I.base.lL b xs e
  rw[aj λz=>by rw[z,ha]at this;exact h1 xs (Option.some.inj this)]
  exact this
 ·have:=I.base.jd b o v e
  rw[aj λz=>by rw[z]at e;exact K o v e]
  exact this
 ·let(more,this):=I.base.lN b ps e;refine(more,?_);rw[aj λz=>by rw[z,ha]at this;exact h3 _ (Option.some.inj this)]
  exact this
 ·rw[aj (ne I.free)];exact I.free
 ·rw[aj (ne (I.dO x c e))];exact I.dO x c e
 ·let(p1,p2,p3):=I.pin p hp;exact(p1,by rw[aj (ne p2)];exact p2,p3)
 ·by_cases g:b=a
  ·subst g;rw[au]at e;cases e;exact new
  ·rw[aj g]at e;refine(I.hok b o e).dj (λ_ _ _ q=>q) (λc q=>?_) λc xs q=>?_
   ·rw[aj λz=>by rw[z,ha]at q;exact h2 _ (Option.some.inj q)];exact q
   ·rw[aj λz=>by rw[z,ha]at q;exact h1 _ (Option.some.inj q)];exact q
def Inv.freeze{kvs:List (Key×V)}(I:Inv X gd σ H s)(ha:H a=Z (.dK kvs)):(∀o v,X.H₀ a≠Z (.frz o v))/\∃o,Inv X gd σ (upd H a (.frz o (.dK kvs))) s:=by
 have g:∀o v,X.H₀ a≠Z (.frz o v):=λo v e=>by
  have:=I.base.jd a o v e
  rw[ha]at this;cases this
 let(z,hs,vs,r,o,es,q,e,c):=(I.hok a _ ha);exact(g,o,I.B0 ha (λ_ z=>nomatch z) (λ_ z=>nomatch z) (λ_ z=>nomatch z) g (e,z,hs,vs,r,o,es,q,e,c))
end
variable{P:Da}
def Q8{w:Cl}{k:Key}{v:B}(h:(bq P w).is k v=O):RelV (kV k) v:=by
 obtain⟨i,t,rfl,rfl⟩|⟨x,t,rfl,rfl⟩:=bT (k:=k) (v:=v) h
 ·exact(t,U)
 ·exact(t,U)
variable{X:Cx}{gd:List (J×Obj)}{H:Hp}{d:J}
def Bm{σ:St}{s:ϋ}{o:Obj}{kvs:List (Key×V)}{es:Array DictEntry}{q:Nat}(I:Inv X gd σ H s)(hd:H d=Z (.frz o (.dK kvs)))(ho:o.data=.dict es q):
  (d==sysModules)=ϊ/\∃vs,KV kvs vs/\s.heap.DictAt (bq X.prog X.w) d vs q:=by
 let(e,z,hs,vs,r,o',P,Q,K,c,g,rest):=(show bJ X.prog X.w H s.heap d (.frz o (.dK kvs))from I.hok d _ hd);rw[e]at K;cases K;rw[ho]at g;cases g;exact(hs,vs,r,o,es,e,c,ho,rest)
end L2
namespace PySem
open Sem (wp)
section
variable{prog:Da}{w:Cl}{A:Db}{E:B->ϋ->Prop}{h:Do}{g:Array X5}{d:Drawn}{t:Nat}{os:OsState}
variable{nm q:Str}{C N:J}{bs bm bmB:List B}{lb:Bool}{sn:List Str}{sub:List B}{ab:Bool}{col:Option Bool}{dd:Option J}{k0 k1 k2 k3 k5:Option B}{Yx newId IT:String}
theorem oM(F:ExcBaseFacts Yx newId IT bmB)(T:OwnTail h bmB bm){mN:Str->Option B}{rest:List B}{fI:J}{oI:Obj}{Q:Fin->ϋ->Prop}
  (K:h.get? C=Z (excClassObj nm q C N bs bm lb sn sub ab col dd k0 k1 k2 k3 k5 newId)) (hn:h.Ns N mN) (hi:mN "__init__"=Z (.ref fI)) (ak:h.get? fI=Z oI) (V:oI.cls=.type "function")
  (hq:∀h' e,WS h h' e (.ref C) rest->wpAny (model prog w) A (call (.ref fI) (.ref e::rest)) (λr s'=>r=.none/\Q (.done (.ret (.ref e))) s') E (h',g,d,t,os)) (rV:rest.length<=pq):
  wpAny (model prog w) A (Builtin.«type.__call__» (.ref C::rest,[])) Q E (h,g,d,t,os):=by
 repeat (first|with_reducible refine wpAny_loadPart_at K ?_|with_reducible refine wpAny_madeBy_exc K ?_|wp_step)
 refine codeAny_call_builtin_code (Code.quiet_builtin _ F.quiet) (wpAny_check_new_subT F T K ?_);refine codeAny_exc_new_subT F T K ?_ rV;show wpAny _ _ _ _ _ _;have z:=ft {cls:=.ref C,data:=.fields #[.ref h.objs.size,.none,.none,.none,.bool ϊ,.none]} (ft {cls:=.type "tuple",data:=.seq rest.toArray} K);have VL:=ft {cls:=.ref C,data:=.fields #[.ref h.objs.size,.none,.none,.none,.bool ϊ,.none]} (ft {cls:=.type "tuple",data:=.seq rest.toArray} ak);have P:((h.push {cls:=.type "tuple",data:=.seq rest.toArray}).push {cls:=.ref C,data:=.fields #[.ref h.objs.size,.none,.none,.none,.bool ϊ,.none]}).Ns N mN :=
  let(o,es,ep,e,r):=hn;(o,es,ep,ft _ (ft _ e),r)
 have Uj:((h.push {cls:=.type "tuple",data:=.seq rest.toArray}).push {cls:=.ref C,data:=.fields #[.ref h.objs.size,.none,.none,.none,.bool ϊ,.none]}).get? (h.objs.size+1)=Z {cls:=.ref C,data:=.fields #[.ref h.objs.size,.none,.none,.none,.bool ϊ,.none]}:=by heap_get
 have ar:(B.ref C::bm).contains (.ref C)=true:=by simp
 have T1:=T.keeps (h':=(h.push {cls:=.type "tuple",data:=.seq rest.toArray}).push {cls:=.ref C,data:=.fields #[.ref h.objs.size,.none,.none,.none,.bool ϊ,.none]}) λb o e=>ft _ (ft _ e)
 unfold isInstance
 repeat (first|with_reducible refine wpAny_loadPart_at Uj ?_|(with_reducible refine wpAny_isSubtype_exc z ?_;rw[ar])|wp_step)
 show wpAny _ _ (typeLookup (.ref C) _) _ _ _;refine wpAny_typeLookup_tail z P T1 F.mroIs F.init.lookup ?_;rw[hi];refine BI (cZ ?_);unfold bindSpecial;refine cZ (VD (T:="function") (_,VL,V) ?_);rw[if_pos (by decide)]
 refine kq (cZ (Nz (hq _ (h.objs.size+1) (λb o hb=>ft _ (ft _ hb),OW (Yq _),h.objs.size,Uj,OW (nY _),?_)) (λr s' hr=>?_) λ_ _ x=>x))
 ·exact ft _ (Yj U U)
 ·let(U,hQ):=hr
  wp_walk
  exact hQ
def Bw(F:ExcBaseFacts Yx newId IT bmB)(T:OwnTail h bmB bm){mN:Str->Option B}{rest:List B}{V:J}{oI:Obj}{Q:B->ϋ->Prop}
  (z:h.get? C=Z (excClassObj nm q C N bs bm lb sn sub ab col dd k0 k1 k2 k3 k5 newId)) (hn:h.Ns N mN) (hi:mN "__init__"=Z (.ref V)) (P:h.get? V=Z oI) (K:oI.cls=.type "function")
  (hq:∀h' e,WS h h' e (.ref C) rest->wpAny (model prog w) (A.under (.builtin "type.__call__" (.ref C::rest,[]))) (call (.ref V) (.ref e::rest)) (λr s'=>r=.none/\Q (.ref e) s') E (h',g,d,t,os)) (rV:rest.length<=pq):
  wpAny (model prog w) A (call (.ref C) rest) Q E (h,g,d,t,os):=by
 have f1:=tc_lookup;have f2:=tc_bind (.ref C);have hT:((h,g,d,t,os):ϋ).TypeIs (.ref C) "type":=(_,z,U);refine wpAny_call (codeAny_of_tree ?_);show wpAny _ _ (callAny (.ref C) _) _ _ _
 repeat (any_goals (first|assumption|with_reducible refine wpAny_loadPart_at z ?_|wp_step))
 refine(U,?_);refine codeAny_call_builtin_at (Code.quiet_builtin _ (by decide +kernel)) entry_typeCall (wpAny_check_type_call_sub z (oM F T z hn hi P K (λh' e hm=>?_) rV))
 exact hq h' e hm
end
end PySem
namespace PySem
open Sem (wp)
open Builtin Builtin.ObjectAttr
inductive cv(h:Do)(S:List Str)(bmB:List B):List B->Prop
 |base:cv h S bmB bmB
 |own{A:J}{c0:B}{dd:Option J}{cd:ClassData}{sl:Array (Option B)}{mA:Str->Option B}{tl:List B} :
   h.get? A=Z {cls:=c0,dict:=dd,data:=.cls cd,slots:=sl}->h.Ns cd.ns mA->(∀n∈S,mA n=Y)->cv h S bmB tl->cv h S bmB (.ref A::tl)
def cv.tail{h:Do}{S:List Str}{bmB tl:List B}(q:("__init__":Str)∈S)(T:cv h S bmB tl):OwnTail h bmB tl:=by
 induction T with
 |base=>exact .base
 |own K z hn _ g=>exact .own K z (hn _ q) g
def cv.hasType{h:Do}{S:List Str}{bmB tl:List B}(T:cv h S bmB tl){X:String}{b:Bool}(q:bmB.contains (.type X)=b):tl.contains (.type X)=b:=by
 induction T with
 |base=>exact q
 |own _ _ _ _ g=>rw[vb,g];rfl
def cv.refuse{h:Do}{S:List Str}{bmB tl:List B}(T:cv h S bmB tl)(self:B)(g:Str):refuseLoop self g tl=refuseLoop self g bmB:=by
 induction T with
 |base=>rfl
 |own _ _ _ _ q=>rw[refuseLoop_ref,q]
section
variable{M:Model}{prog:Da}{w:Cl}{A:Db}{E:B->ϋ->Prop}{h:Do}{g:Array X5}{d:Drawn}{t:Nat}{os:OsState}
variable{nm q:Str}{C N x:J}{bs bm bmB:List B}{sn:List Str}{sub:List B}{ab lb:Bool}{col:Option Bool}{dd:Option J}{k0 k1 k2 k3 k5:Option B}{Yx newId sa owner:String}
 {mN mA:Str->Option B} {name:Str} {v:B} {S:List Str}
def zf{y:Option B}{Q:Option B->ϋ->Prop}(hs:name∈S)(T:cv h S bmB bm)(q:lookupAlong bmB name=pure y)(hq:Q y (h,g,d,t,os)):wpAny M A (lookupAlong bm name) Q E (h,g,d,t,os):=by
 induction T with
 |base=>rw[q];exact kq hq
 |own P K hn _ z =>
  rw[lookupAlong_cons];refine cZ (wpAny_classOwn_cls P K ?_);rw[hn _ hs];exact z
def b8{y:Option B}{Q:Option B->ϋ->Prop}(hs:name∈S)(K:h.get? C=Z (excClassObj nm q C N bs bm lb sn sub ab col dd k0 k1 k2 k3 k5 newId))(hn:h.Ns N mN)(T:cv h S bmB bm)(z:mroOf (.type Yx)=pure bmB)
  (P:typeLookup (.type Yx) name=pure y) (hq:Q (match mN name with|some v=>Z v|none=>y) (h,g,d,t,os)):wpAny M A (typeLookup (.ref C) name) Q E (h,g,d,t,os):=by
 have V:lookupAlong bmB name=pure y:=by rw[typeLookup_eq,z]at P;exact P
 rw[typeLookup_eq];refine cZ (wpAny_mroOf_exc K ?_);rw[lookupAlong_cons];refine cZ (wpAny_classOwn_exc K hn ?_);cases hv:mN name with
 |some v=>rw[hv]at hq;exact kq hq
 |none=>rw[hv]at hq;exact zf hs T V hq
def EY{o:Obj}{z:B}{Q:Unit->ϋ->Prop}(K:StoreFacts Yx bmB sa owner)(T:cv h S bmB bm)
  (hC:h.get? C=Z (excClassObj nm q C N bs bm O sn sub ab col dd k0 k1 k2 k3 k5 newId)) (hx:h.get? x=Z o) (V:o.cls=.ref C) (hq:Q () (h,g,d,t,os)):wpAny M A (checkBuiltinCall sa ([.ref x,z,v],[])) Q E (h,g,d,t,os):=by
 have P:(B.ref C::bm).contains (.type owner)=true:=by rw[vb,T.hasType K.hasOwner,Xb]
 have ha:=K.args (.ref x) z v;simp only[checkBuiltinCall,K.kind,K.split];refine cZ ?_;unfold isInstance
 repeat (first|(with_reducible refine wpAny_loadPart_at hx ?_;rw[V])|(with_reducible refine wpAny_isSubtype_exc hC ?_;rw[P])|wp_step)
 cases Ro:Manifest.signature? sa with
 |none=>exact kq hq
 |some sig =>
  simp only[argsOk,Ro]at ha;have h2:Bind.checkArgs sa sig ([.ref x,z,v],[])=pure ():=ha;show wpAny M A (Bind.checkArgs sa sig ([.ref x,z,v],[])) Q E _;rw[h2];exact kq hq
def vL{tk:Tok}{Q:Fin->ϋ->Prop}{ns:List Str}(SF:StoreFacts Yx bmB sa owner)(T:cv h S bmB bm)(hs:name∈S)
  (hC:h.get? C=Z (excClassObj nm q C N bs bm O sn sub ab col dd k0 k1 k2 k3 k5 newId)) (hn:h.Ns N mN) (bE:mN name=Y) (hB:typeLookup (.type Yx) name=pure Y) (ct:x≠C) (I:h.Inst x C mA)
  (hq:∀h' bb,h'.Inst x C (λy=>if y=name then Z v else mA y)->(∀b o,b≠x->(∀z dx,h.get? x=Z z->z.dict=Z dx->b≠dx)->h.get? b=Z o->h'.get? b=Z o) ->
   (∀z,h.get? x=Z z->∃K,h'.get? x=Z K/\K.cls=z.cls/\K.data=z.data/\K.slots=z.slots/\(∀dx,z.dict=Z dx->K.dict=Z dx)/\(z.dict=Y->K.dict=Z h.objs.size))->Q (.done (.ret .none)) (h',g,d,bb,os)) (hw:Within mA ns) (hsz:ns.length+1<=pq):
  wpAny (model prog w) A (Builtin.«object.__setattr__» ([.ref x,.str name tk,v],[])) Q E (h,g,d,t,os):=by
 let(o,hx,hc,aP,hd):=I;have Ud:=(T.refuse (.ref x) "__setattr__").trans (SF.passes (.ref x));unfold Builtin.«object.__setattr__»
 repeat (first|rw[refuse_eq]|(rw[refuseLoop_ref,Ud])|(with_reducible refine wpAny_loadPart_at hx ?_;rw[hc])|with_reducible refine wpAny_mroOf_exc hC ?_|(with_reducible refine b8 hs hC hn T SF.mro hB ?_;rw[bE])|wp_step)
 obtain⟨a8,bI⟩|⟨dx,ak,aN,bt⟩:=hd
 ·rw[a8,if_neg (by simp[typeHasDict])]
  split
  ·rename_i aT;cases aT
  split
  ·rename_i c aT;exact absurd aT (aP c)
  ·have a3:(h.push {cls:=.type "dict",data:=.dict #[]}).get? x=Z o:=ft _ hx;have ar:x≠h.objs.size:=rz (jR hx);refine cZ (wpAny_alloc' ?_);refine cZ (wpAny_update' a3 ?_);refine kq ?_;have bV:((h.push {cls:=.type "dict",data:=.dict #[]}).update x λo=>{cls:=o.cls,dict:=Z h.objs.size,data:=o.data,slots:=o.slots}).get? h.objs.size=Z {cls:=.type "dict",data:=.dict #[]} :=
    (X8 _ _ _ _ ar.symm).trans (Yj U U)
   have bC:((h.push {cls:=.type "dict",data:=.dict #[]}).update x λo=>{cls:=o.cls,dict:=Z h.objs.size,data:=o.data,slots:=o.slots}).Ns h.objs.size (λ_=>Y) :=
    (_,#[],_,bV,U,λe he=>absurd he (by simp),λ_=>rfl)
   show wpAny _ _ (storeInDict h.objs.size (.str name tk) name v) _ _ _;unfold storeInDict newKeyGuard;refine cZ (kq (cZ (wpAny_nsSet1 (Heap.Ns1.of_empty bC) λh' V P=>?_)))
   let(oD,cf,cq,aA,aS,a0):=V.count (Within.cons name v Within.nil);refine cZ (wpAny_lookBehind aA (by rw[aS];exact pastItsLine_dict (sR a0 (by rw[qf,Wv,WA];omega))) ?_)
   wp_walk
   have a7:h'.get? x=Z {cls:=o.cls,dict:=Z h.objs.size,data:=o.data,slots:=o.slots}:=?_;refine hq h' _ ({cls:=o.cls,dict:=Z h.objs.size,data:=o.data,slots:=o.slots},a7,hc,aP,.inr (h.objs.size,U,ar.symm,?_)) (λb ob b9 _ hb=>?_)
    (λz h₀=>by obtain rfl:o=z:=Option.some.inj (hx.symm.trans h₀);exact(_,a7,U,U,U,λdx e=>(by rw[a8]at e;cases e),λ_=>rfl))
   ·let(o',es,ep,e1,e2,e3,eu,e4):=V;exact(o',es,ep,e1,e2,e3,eu,λy=>by rw[e4 y];by_cases hy:y=name <;> simp[hy,bI])
   ·exact(P.2 b (rz (jR hb))).trans ((X8 _ _ _ _ b9).trans (ft _ hb))
   ·refine(P.2 x ar).trans (ui _ a3 ?_);have b0:=(Heap.get?_some_iff.mp hx).2;let(oc,od,bj,osl):=o;cases bj <;> first|rfl|exact b0
 ·rw[ak];refine kq ?_;show wpAny _ _ (storeInDict dx (.str name tk) name v) _ _ _;unfold storeInDict newKeyGuard;refine cZ (kq (cZ (wpAny_nsSet1 bt λh' V P=>?_)))
  let(oD,cf,cq,aA,aS,a0):=V.count (Within.cons name v hw);refine cZ (wpAny_lookBehind aA (by rw[aS];exact pastItsLine_dict (sR a0 (by rw[qf];omega))) ?_)
  wp_walk
  refine hq h' _ (o,(P.2 x aN.symm).trans hx,hc,aP,.inr (dx,ak,aN,V)) (λb ob _ cc hb=>?_) (λz h₀=>(z,(P.2 x aN.symm).trans h₀,U,U,U,λ_ e=>e,λe=>(by obtain rfl:o=z:=Option.some.inj (hx.symm.trans h₀);rw[ak]at e;cases e)))
  exact(P.2 b (cc o dx hx ak)).trans hb
def oj{Q:Unit->ϋ->Prop}{ns:List Str}(V:StoreFacts Yx bmB sa owner)(T:cv h S bmB bm)(hs:name∈S)(ar:("__setattr__":Str)∈S)
  (hC:h.get? C=Z (excClassObj nm q C N bs bm O sn sub ab col dd k0 k1 k2 k3 k5 newId)) (hn:h.Ns N mN) (aA:mN "__setattr__"=Y) (aN:mN name=Y) (hB:typeLookup (.type Yx) name=pure Y) (ak:x≠C) (I:h.Inst x C mA)
  (hq:∀h' P,h'.Inst x C (λy=>if y=name then Z v else mA y)->(∀b o,b≠x->(∀z dx,h.get? x=Z z->z.dict=Z dx->b≠dx)->h.get? b=Z o->h'.get? b=Z o) ->
   (∀z,h.get? x=Z z->∃K,h'.get? x=Z K/\K.cls=z.cls/\K.data=z.data/\K.slots=z.slots/\(∀dx,z.dict=Z dx->K.dict=Z dx)/\(z.dict=Y->K.dict=Z h.objs.size))->Q () (h',g,d,P,os)) (hw:Within mA ns) (hsz:ns.length+1<=pq):
  wpAny (model prog w) A (setAttr (.ref x) name v) Q E (h,g,d,t,os):=by
 let(o,hx,hc,_):=id I;have f3:=V.slot.bind (.ref x);unfold setAttr callSpecial? specialOf
 repeat (any_goals (first|assumption|(with_reducible refine wpAny_loadPart_at hx ?_;rw[hc])|(with_reducible refine b8 ar hC hn T V.mro V.slot.lookup ?_;rw[aA])|wp_step))
 refine codeAny_call_builtin V.slot.plain V.entry (EY V T hC hx hc (vL V T hs hC hn aN hB ak I (λh' P I' hk Uc=>?_) hw hsz))
 repeat (any_goals (first|assumption|wp_step))
 exact hq h' P I' hk Uc
end
end PySem
namespace PySem
open Sem (wp)
open Builtin Builtin.ObjectAttr
section
variable{prog:Da}{w:Cl}{A:Db}{E:B->ϋ->Prop}{h:Do}{g:Array X5}{d:Drawn}{t:Nat}{os:OsState}
variable{nm q:Str}{C N x:J}{bs bm bmB:List B}{sn:List Str}{sub:List B}{ab lb:Bool}{col:Option Bool}{dd:Option J}{k0 k1 k2 k3 k5:Option B}{Yx newId:String}
 {mN mA:Str->Option B} {name:Str} {v:B} {S:List Str} {o:Obj}
theorem vf{M:Model}{z:B}{Q:Unit->ϋ->Prop}(FB:ExcAttrBase Yx bmB)(T:cv h S bmB bm)(P:h.get? C=Z (excClassObj nm q C N bs bm lb sn sub ab col dd k0 k1 k2 k3 k5 newId))
  (hx:h.get? x=Z o) (K:o.cls=.ref C) (hq:Q () (h,g,d,t,os)):wpAny M A (checkBuiltinCall "BaseException.__getattribute__" ([.ref x,z],[])) Q E (h,g,d,t,os):=by
 have e1:builtinKind "BaseException.__getattribute__"=Z .slot:=by decide +kernel
 have e2:splitId "BaseException.__getattribute__"=Z ("BaseException","__getattribute__"):=by decide +kernel
 have V:(B.ref C::bm).contains (.type "BaseException")=true:=by rw[vb,T.hasType FB.hasBase,Xb]
 have ha:=F.args_bexc_ga (.ref x) z;simp only[checkBuiltinCall,e1,e2];refine cZ ?_;unfold isInstance
 repeat (first|(with_reducible refine wpAny_loadPart_at hx ?_;rw[K])|(with_reducible refine wpAny_isSubtype_exc P ?_;rw[V])|wp_step)
 exact hq
def AX{tk:Tok}{Q:Fin->ϋ->Prop}(FB:ExcAttrBase Yx bmB)(T:cv h S bmB bm)(hs:name∈S)(hC:h.get? C=Z (excClassObj nm q C N bs bm O sn sub ab col dd k0 k1 k2 k3 k5 newId))(hn:h.Ns N mN)
  (P:mN name=Y) (hB:typeLookup (.type Yx) name=pure Y) (I:h.Inst x C mA) (hv:mA name=Z v) (hh:handedOut v=pure v) (hq:Q (.done (.ret v)) (h,g,d,t,os)):
  wpAny (model prog w) A (Builtin.«object.__getattribute__» ([.ref x,.str name tk],[])) Q E (h,g,d,t,os):=by
 let(o,hx,hc,K,hd):=I;obtain⟨_,V⟩|⟨dx,ak,aA,z⟩:=hd
 ·rw[V name]at hv;cases hv
 unfold Builtin.«object.__getattribute__»
 repeat (first|(with_reducible refine wpAny_loadPart_at hx ?_;rw[hc])|(with_reducible refine b8 hs hC hn T FB.mro hB ?_;rw[P])|wp_step)
 split
 ·rename_i c ar;exact absurd ar (K c)
 unfold instanceDict
 repeat (first|(with_reducible refine wpAny_loadPart_at hx ?_;rw[hc])|with_reducible refine wpAny_loadPart_at hC ?_|wp_step)
 rw[ak]
 repeat (first|(with_reducible refine wpAny_nsGet z.ns ?_;rw[hv])|wp_step)
 exact hq
theorem AY{expr:Bool}{Q:B->ϋ->Prop}(FB:ExcAttrBase Yx bmB)(T:cv h S bmB bm)(hs:name∈S)(P:("__getattribute__":Str)∈S)(K:("__getattr__":Str)∈S)
  (V:h.get? C=Z (excClassObj nm q C N bs bm O sn sub ab col dd k0 k1 k2 k3 k5 newId)) (hn:h.Ns N mN) (z:∀n∈S,mN n=Y)
  (hB:typeLookup (.type Yx) name=pure Y) (I:h.Inst x C mA) (hv:mA name=Z v) (hh:handedOut v=pure v) (hq:Q v (h,g,d,t+1,os)):
  wpAny (model prog w) A (getAttr (.ref x) name expr) Q E (h,g,d,t,os):=by
 let(o,hx,hc,_):=id I;have f3:=FB.ga.bind (.ref x);have b0:(expr&&onTheHeap (B.builtin "BaseException.__getattribute__"))=false:=by cases expr <;> rfl
 have b2:(B.builtin "BaseException.__getattribute__" == B.builtin "object.__getattribute__")=false:=by decide +kernel
 have b1:(onTheHeap (B.ref C)&&B.builtin "BaseException.__getattribute__" == B.builtin "object.__getattribute__")=false:=by rw[b2];rfl
 have n1:=z _ P;have n2:=z _ K;unfold getAttr getAttrBy
 repeat (any_goals (first|assumption|(with_reducible refine wpAny_loadPart_at hx ?_;rw[hc])|(with_reducible refine b8 P V hn T FB.mro FB.ga.lookup ?_;rw[n1])|(with_reducible refine b8 K V hn T FB.mro FB.noGetattr ?_;rw[n2])|wp_step))
 refine codeAny_call_builtin FB.ga.plain F.entry_bexc_ga (vf FB T V hx hc (AX FB T hs V hn (z _ hs) hB I hv hh ?_))
 repeat (any_goals (first|assumption|wp_step))
theorem Bt{R:Result->ϋ->Prop}(z:bmB.contains (.type "object")=O)(T:cv h S bmB bm)(Q:h.get? C=Z (excClassObj nm q C N bs bm lb sn sub ab col dd k0 k1 k2 k3 k5 newId))
  (hx:h.get? x=Z o) (P:o.cls=.ref C) (hq:R (.ok (.ret (.ref C))) (h,g,d,t,os)):
  codeAny (model prog w) A (.call (.builtin "getset_descriptor.__get__") ([.builtin "object.__class__",.ref x,.ref C],[])) R (h,g,d,t,os):=by
 have K:((h,g,d,t,os):ϋ).TypeIs (.builtin "object.__class__") "getset_descriptor":=F.typeOf_object_class;have V:(B.ref C::bm).contains (.type (".".intercalate ("object.__class__".cutAt '.').dropLast))=true:=by
  rw[F.owner_object_class,vb,T.hasType z,Xb]
 refine codeAny_call_builtin F.slot_gs_get.plain F.entry_gs_get (F.slot_gs_get.check _ _ _ _ _ _ _ _ K (F.args_gs_get _ _ _) ?_)
 repeat (any_goals (first|assumption|(with_reducible refine wpAny_loadPart_at hx ?_;rw[P])|(with_reducible refine wpAny_isSubtype_exc Q ?_;rw[V])|wp_step))
 refine(Code.quiet_builtin _ (by decide +kernel),Uw F.entry_object_class ?_)
 repeat (any_goals (first|assumption|(with_reducible refine wpAny_loadPart_at hx ?_;rw[P])|wp_step))
theorem y7{tk:Tok}{Q:Fin->ϋ->Prop}(P:typeLookup (.type Yx) "__class__"=pure (Z (.builtin "object.__class__")))(z:bmB.contains (.type "object")=O)(hs:("__class__":Str)∈S)(FB:ExcAttrBase Yx bmB)(T:cv h S bmB bm)
  (hC:h.get? C=Z (excClassObj nm q C N bs bm lb sn sub ab col dd k0 k1 k2 k3 k5 newId)) (hn:h.Ns N mN) (K:∀n∈S,mN n=Y) (hx:h.get? x=Z o) (V:o.cls=.ref C) (hq:Q (.done (.ret (.ref C))) (h,g,d,t,os)):
  wpAny (model prog w) A (Builtin.«object.__getattribute__» ([.ref x,.str "__class__" tk],[])) Q E (h,g,d,t,os):=by
 have ak:((h,g,d,t,os):ϋ).TypeIs (.builtin "object.__class__") "getset_descriptor":=F.typeOf_object_class;have f5:=F.typeOf_object_class;have f6:=F.slot_gs_get.lookup;have f7:=F.slot_gs_set.lookup;have n1:=K _ hs
 repeat (any_goals (first|assumption|(with_reducible refine wpAny_loadPart_at hx ?_;rw[V])|(with_reducible refine b8 hs hC hn T FB.mro P ?_;rw[n1])|wp_step))
 refine Bt z T hC hx V ?_
 repeat (any_goals (first|assumption|wp_step))
theorem EX{tk:Tok}{Q:B->ϋ->Prop}(ar:typeLookup (.type Yx) "__class__"=pure (Z (.builtin "object.__class__")))(ak:bmB.contains (.type "object")=O)(hs:("__class__":Str)∈S)(P:("__getattribute__":Str)∈S)(K:("__getattr__":Str)∈S)(FB:ExcAttrBase Yx bmB)(T:cv h S bmB bm)
  (V:h.get? C=Z (excClassObj nm q C N bs bm lb sn sub ab col dd k0 k1 k2 k3 k5 newId)) (hn:h.Ns N mN) (z:∀n∈S,mN n=Y) (hx:h.get? x=Z o) (hc:o.cls=.ref C) (hq:Q (.ref C) (h,g,d,t,os)):
  wpAny (model prog w) A (getAttrBy (.ref x) (.str "__class__" tk) ϊ) Q E (h,g,d,t,os):=by
 have f3:=FB.ga.bind (.ref x);have b2:(B.builtin "BaseException.__getattribute__" == B.builtin "object.__getattribute__")=false:=by decide +kernel
 have b1:(onTheHeap (B.ref C)&&B.builtin "BaseException.__getattribute__" == B.builtin "object.__getattribute__")=false:=by rw[b2];rfl
 have n1:=z _ P;have n2:=z _ K
 repeat (any_goals (first|assumption|(with_reducible refine wpAny_loadPart_at hx ?_;rw[hc])|(with_reducible refine b8 P V hn T FB.mro FB.ga.lookup ?_;rw[n1])|(with_reducible refine b8 K V hn T FB.mro FB.noGetattr ?_;rw[n2])|wp_step))
 refine codeAny_call_builtin FB.ga.plain F.entry_bexc_ga (vf FB T V hx hc (y7 ar ak hs FB T V hn z hx hc ?_))
 repeat (any_goals (first|assumption|wp_step))
def y8{Q:Option B->ϋ->Prop}(ak:typeLookup (.type Yx) "__class__"=pure (Z (.builtin "object.__class__")))(P:bmB.contains (.type "object")=O)(hs:("__class__":Str)∈S)(K:("__getattribute__":Str)∈S)(z:("__getattr__":Str)∈S)(FB:ExcAttrBase Yx bmB)(T:cv h S bmB bm)
  (hC:h.get? C=Z (excClassObj nm q C N bs bm lb sn sub ab col dd k0 k1 k2 k3 k5 newId)) (hn:h.Ns N mN) (V:∀n∈S,mN n=Y) (hx:h.get? x=Z o) (hc:o.cls=.ref C) (hq:Q (Z (.ref C)) (h,g,d,t+1,os)):
  wpAny (model prog w) A (getAttr? (.ref x) "__class__") Q E (h,g,d,t,os):=by
 unfold getAttr? getAttrBy?
 repeat (any_goals (first|assumption|with_reducible apply EX ak P hs K z FB T hC hn V hx hc|wp_step))
end
end PySem
namespace PySem
open Sem (wp)
def tu(h:Do)(e:J)(cls:B)(dx:Option J)(y:B):Prop :=
 ∃o vs g,h.get? e=Z o/\o.cls=cls/\o.dict=dx/\o.data=.fields vs/\vs[0]?=Z g/\vs[1]?=Z y
def gv(h:Do)(e:J)(cls:B)(dx:Option J)(T:J)(fl:B):Prop :=
 T≠e/\tu h e cls dx (.ref T)/\∃g ts,h.get? T=Z g/\g.data=.fields ts/\ts[3]?=Z fl
structure dR(fr ex:List J)(h h':Do):Prop where
 keep:∀b o,h.get? b=Z o->b ∉ fr->b ∉ ex->h'.get? b=Z o
 slot:∀b o,h.get? b=Z o->b ∉ ex->∃sl,h'.get? b=Z {o with slots:=sl}
 there:∀b o,h.get? b=Z o->∃o',h'.get? b=Z o'
def dR.trans{fr ex g:List J}{h h1 h2:Do}(a:dR fr ex h h1)(b:dR fr g h1 h2)(hs:∀b o,h.get? b=Z o->b∈g->b∈ex):dR fr ex h h2 where
 keep:=λc o e hf hx=>b.keep c o (a.keep c o e hf hx) hf λz=>hx (hs c o e z)
 slot:=λc o e hx=>by
  let(sl,K):=a.slot c o e hx;let(q,P):=b.slot c _ K λz=>hx (hs c o e z)
  exact(q,P)
 there:=λc o e=>let(o',K):=a.there c o e;b.there c o' K
def dR.mono{fr fr' ex ex':List J}{h h1:Do}(a:dR fr ex h h1)(hf:∀b∈fr,b∈fr')(hx:∀b∈ex,b∈ex'):dR fr' ex' h h1 :=
 (λb o e n m=>a.keep b o e (λz=>n (hf b z)) λz=>m (hx b z),λb o e m=>a.slot b o e λz=>m (hx b z),a.there)
def dR.kn{fr ex:List J}{h h1 base:Do}{l:List Env}(a:dR fr ex h h1)(hx:∀b o,b∈ex->h.get? b=Z o->∃vs,o.data=.fields vs)(hl:h.FunFrames base l):h1.FunFrames base l :=
 hl.of_keeps λb o e hn=>by
  let(sl,q):=a.slot b o e λz=>by let(vs,q):=hx b o z e;exact hn vs q
  exact(_,q,U)
def jh{h:Do}{T i:Nat}{x:B}{K:Obj}{ts:Array B}(hT:h.get? T=Z K)(hd:K.data=.fields ts):dR [] [T] h (h.update T (Xg (·.setIfInBounds i x))):=by
 have q:∀b,b≠T->(h.update T (Xg (·.setIfInBounds i x))).get? b=h.get? b:=λb g=>sT _ _ (Ne.symm g)
 refine(λb o e _ n=>(q b λz=>n (by simp[z])).trans e,λb o e n=>(o.slots,(q b λz=>n (by simp[z])).trans e),λb o e=>?_)
 by_cases g:b=T
 ·rw[g];exact(_,ui _ hT (WM (Wu hd _)))
 ·exact(o,(q b g).trans e)
section
variable{M:Model}{A:Db}{E:B->ϋ->Prop}{s:ϋ}
variable{base:Do}{env:Env}{outer:List Env}{L e T:J}{cls:B}{dx:Option J}{Q:Unit->ϋ->Prop}
def Jq{y head:B}{MY:Bool}(aA:A.frames=Z (env::outer))(hl:s.heap.FunFrames base (env::outer))(hf:env.frame=Z L)(hx:tu s.heap e cls dx y)
  (hq:∀h' T',s.heap.objs.size<=T'->gv h' e cls dx T' (rawInt L)->dR ((env::outer).filterMap (·.frame)) [e] s.heap h'->Q () {s with heap:=h'}):
  wpAny M A (do let a <- frameOf env;let K <- entryPlaceOf L MY;let b <- EntryCells.newEntry head a .none (rawInt L) .none K;setField (.ref e) 1 b) Q E s:=by
 let(o,vs,a0,ho,hc,aN,hd,h0,h1):=hx;have hsz:1<vs.size:=(WT.mp h1).1;have ar:e ∉ (env::outer).filterMap (·.frame):=λz=>by
  let(_,o',V,hn):=hl.mem z;rw[ho]at V;cases V;exact hn vs hd
 refine cZ (wpAny_frameOf_fun aA hl hf λg hg=>?_)
 refine cZ (wpAny_entryPlaceOf λK P=>?_)
 unfold EntryCells.newEntry newFields;refine cZ (Wz ?_ (P.sizeOk5 _ _ _ _ _));have e1:g.get? e=Z o:=(hg.2.1 e ar).trans ho;have e2:=ft (h:=g) {cls:=.type "traceback",dict:=Y,data:=.fields ([head,.ref L,.none,rawInt L,.none]++(if K.isEmpty then Fi 6 B.none else K)).toArray} e1
 have ak:g.objs.size≠e:=zj (jR e1);have d3:=Wu hd (·.setIfInBounds 1 (B.ref g.objs.size));have e3:=ui (Xg (·.setIfInBounds 1 (B.ref g.objs.size))) e2 (WM d3);refine Xe e2 hd hsz (hq _ g.objs.size (XJ hg.1.symm) (ak,(_,_,a0,e3,(Yi _ _).trans hc,?_,d3,by rw[Array.getElem?_setIfInBounds_ne (by decide)];exact h0,by simp[hsz]),?_) ?_)
 ·rw[<- aN];let(_,_,dt,_):=o;cases dt <;> rfl
 ·exact(_,_,(sT _ _ (Ne.symm ak)).trans (px g U),U,by first|(simp;done)|(obtain rfl |⟨_,_,_,_,_,_,_,rfl⟩:=P <;> simp))
 ·have kp:∀b ob,b≠e->g.get? b=Z ob->((g.push {cls:=.type "traceback",dict:=Y,data:=.fields ([head,.ref L,.none,rawInt L,.none]++(if K.isEmpty then Fi 6 B.none else K)).toArray}).update e (Xg (·.setIfInBounds 1 (B.ref g.objs.size)))).get? b=Z ob :=
   λb ob hb q=>(sT _ _ (Ne.symm hb)).trans (ft _ q)
  refine(λb ob q n m=>kp b ob (λz=>m (by simp[z])) ((hg.2.1 b n).trans q),λb ob q m=>?_,λb ob q=>?_)
  ·let(sl,q2):=hg.2.2 b ob q;exact(sl,kp b _ (λz=>m (by simp[z])) q2)
  ·by_cases hb:b=e
   ·rw[hb];exact(_,e3)
   ·let(sl,q2):=hg.2.2 b ob q;exact(_,kp b _ hb q2)
def fO{fl:B}(hx:gv s.heap e cls dx T fl)(hq:∀h',gv h' e cls dx T .none->dR [] [T] s.heap h'->Q () {s with heap:=h'}):wpAny M A (setFlight (.ref e) Y) Q E s:=by
 let(z,(o,vs,V,ho,P,K,hd,h0,h1),oT,ts,hT,g,h3):=hx;have q:3<ts.size:=(WT.mp h3).1;unfold setFlight;refine cZ (wpAny_field ho hd h1 ?_);rw[if_pos (show(B.ref T != B.none)=O from by simp)]
 refine Xe hT g q (hq _ (z,(o,vs,V,(sT _ _ z).trans ho,P,K,hd,h0,h1),_,_,ui _ hT (WM (Wu g _)),Wu g _,by simp[q]) (jh hT g))
def ox(g:A.frames=Z (env::outer))(hl:s.heap.FunFrames base (env::outer))(hf:env.frame=Z L)(hx:tu s.heap e cls dx .none)
  (hq:∀h' q,s.heap.objs.size<=q->gv h' e cls dx q (rawInt L)->dR ((env::outer).filterMap (·.frame)) [e] s.heap h'->Q () {s with heap:=h'}):wpAny M A (noteFrame (.ref e) env) Q E s:=by
 let(o,vs,P,ho,K,z,hd,h0,h1):=id hx;unfold noteFrame;simp only[hf];refine cZ (wpAny_field ho hd h1 ?_);rw[if_neg (by decide)]
 exact Jq g hl hf hx hq
def rB(V:A.frames=Z (env::outer))(hl:s.heap.FunFrames base (env::outer))(hf:env.frame=Z L)(hx:gv s.heap e cls dx T .none)
  (hq:∀h' K,s.heap.objs.size<=K->gv h' e cls dx K (rawInt L)->dR ((env::outer).filterMap (·.frame)) [e,T] s.heap h'->Q () {s with heap:=h'}):wpAny M A (noteFrame (.ref e) env) Q E s:=by
 let(aA,(o,vs,a0,ho,hc,ak,hd,h0,h1),oT,ts,hT,g,h3):=hx;unfold noteFrame;simp only[hf];refine cZ (wpAny_field ho hd h1 ?_);rw[if_pos (show(B.ref T != B.none)=O from by simp)]
 refine cZ (wpAny_field hT g h3 ?_);rw[if_neg (show ¬((B.none==rawInt L)=O)from by simp[rawInt])]
 refine cZ (Xe hT g (WT.mp h3).1 ?_);have k1:=jh (i:=3) (x:=B.none) hT g;have P:∀b ob,b ∈ [T]->s.heap.get? b=Z ob->∃ws,ob.data=.fields ws:=λb ob hb q=>by
  have ar:b=T:=by simpa using hb
  subst ar;rw[hT]at q;cases q;exact(ts,g)
 refine Jq (y:=.ref T) V (k1.kn P hl) hf (o,vs,a0,(sT _ _ aA).trans ho,hc,ak,hd,h0,h1) λh' K sz al k2=>hq h' K ?_ al ?_
 ·have:(s.heap.update T (Xg (·.setIfInBounds 3 B.none))).objs.size=s.heap.objs.size:=by simp[Heap.update]
  exact sR (XJ this.symm) sz
 ·exact(k1.mono (fr':=(env::outer).filterMap (·.frame)) (ex':=[e,T]) (λ_ z=>nomatch z) (λb z=>by simp at z;simp[z])).trans k2 λb ob _ z=>by simp at z;simp[z]
def rL(g:A.frames=Z (env::outer))(hl:s.heap.FunFrames base (env::outer))(hf:env.frame=Z L)(hx:tu s.heap e cls dx .none)
  (hq:∀h' T',s.heap.objs.size<=T'->gv h' e cls dx T' .none->dR ((env::outer).filterMap (·.frame)) [e] s.heap h'->Q () {s with heap:=h'}):wpAny M A (leaving env (.ref e)) Q E s:=by
 unfold leaving;refine cZ (ox g hl hf hx λh1 V sz al k1=>fO al λh2 P k2=>hq h2 V sz P ?_)
 exact k1.trans (k2.mono (λ_ z=>nomatch z) λb z=>z) λb ob q z=>by
  have K:b=V:=by simpa using z
  subst K;exact absurd (rE (jR q) sz) (BH _)
def uf(g:A.frames=Z (env::outer))(hl:s.heap.FunFrames base (env::outer))(hf:env.frame=Z L)(hx:gv s.heap e cls dx T .none)
  (hq:∀h' T',s.heap.objs.size<=T'->gv h' e cls dx T' .none->dR ((env::outer).filterMap (·.frame)) [e,T] s.heap h'->Q () {s with heap:=h'}):wpAny M A (leaving env (.ref e)) Q E s:=by
 unfold leaving;refine cZ (rB g hl hf hx λh1 V sz al k1=>fO al λh2 P k2=>hq h2 V sz P ?_)
 exact k1.trans (k2.mono (λ_ z=>nomatch z) λb z=>z) λb ob q z=>by
  have K:b=V:=by simpa using z
  subst K;exact absurd (rE (jR q) sz) (BH _)
end
end PySem
namespace L2
open PySem PySem.Spec PyProof.Rows
abbrev bmV:List Value:=[.type "ValueError",.type "Exception",.type "BaseException",.type "object"]
abbrev xS(fn:List Str):List Str:="__setattr__" :: "__getattribute__" :: "__getattr__" :: "__class__" :: fn
structure bX(K:BT)(fn:List Str)(C:J)(bm:List B)(ini:Option J):Prop where
 all:∀h:Do,K.In h->∃nm q N bs sn sub ab col dd k0 k1 k2 k3 k5 mN,h.get? C=Z (excClassObj nm q C N bs bm O sn sub ab col dd k0 k1 k2 k3 k5 "ValueError.__new__")/\h.Ns N mN /\
  (∀n∈xS fn,mN n=Y)/\mN "__init__"=ini.map B.ref/\cv h ("__init__" :: xS fn) bmV bm
 cl:∃cd,W.clsIn K C=Z cd/\cd.mro=.ref C::bm
 ty:W.typeIn K (.ref C)=Z (.type "type")
def pC(K:BT)(S:List Str)(bmB:List B):List B->Bool
 |[]=>bmB == []
 |v::r=>(v::r)==bmB||match v with
  |.ref A=>(match K.lookup A with
   |some (_,_,.cls cd,_)=>W.nsOkIn K cd.ns&&S.all (λn=>W.nsIn K cd.ns n==Z Y)&&pC K S bmB r
   |_=>ϊ)
  |_=>ϊ
theorem xG{K:BT}{h:Do}{S:List Str}{bmB:List B}(X:K.In h):∀{l:List B},pC K S bmB l=O->cv h S bmB l
 |[],e=>by rw[<- beq_iff_eq.mp e];exact .base
 |v::r,e=>by
  unfold pC at e;obtain q|q:=Bool.or_eq_true_iff.mp e
  ·rw[beq_iff_eq.mp q];exact .base
  ·split at q
   ·split at q
    ·rename_i ho;rw[sU,sU]at q;exact .own (X _ _ ho) (.of_isNs (W.isNs_of_in X q.1.1)) (λn hn=>W.nsMap_none_of_in X q.1.1 (beq_iff_eq.mp (R4.mp q.1.2 n hn))) (xG X q.2)
    ·cases q
   ·cases q
def UD:Data->Option ClassData
 |.cls cd=>Z cd
 |_=>Y
def EW{d:Data}{cd:ClassData}(h:UD d=Z cd):d=.cls cd:=by
 cases d <;> first|exact congrArg Data.cls (Option.some.inj h)|cases h
def Fu(K:BT)(fn:List Str)(C:J)(bm:List B)(ini:Option J)(sl:Array (Option B))(cd:ClassData):Bool :=
 cd.mro == .ref C::bm&&sl.size==6&&sl[4]? == Z (Z (.builtin "ValueError.__new__")) && !cd.hasDel&&cd.hasDict&&pC K ("__init__" :: xS fn) bmV bm&&W.nsOkIn K cd.ns &&
  (xS fn).all (λn=>W.nsIn K cd.ns n==Z Y)&&W.nsIn K cd.ns "__init__" == Z (ini.map B.ref)
def gw(K:BT)(fn:List Str)(C:J)(bm:List B)(ini:Option J):Bool:=(K.lookup C).any λo=>o.cls == .type "type" && (UD o.data).any (Fu K fn C bm ini o.slots)
def any_some{α:Type}{o:Option α}{f:α->Bool}(h:o.any f=O):∃a,o=Z a/\f a=true:=by
 cases o with
 |none=>cases h
 |some a=>exact(a,U,h)
def six{α:Type}{l:List α}(h:l.length=6):∃a b c d e f,l=[a,b,c,d,e,f]:=by
 cases l with
 |nil=>cases h
 |cons a l=>cases l with
  |nil=>cases h
  |cons b l=>cases l with
   |nil=>cases h
   |cons c l=>cases l with
    |nil=>cases h
    |cons d l=>cases l with
     |nil=>cases h
     |cons e l=>cases l with
      |nil=>cases h
      |cons f l=>exact(a,b,c,d,e,f,by rw[uy.mp (show l.length=0 by simpa using h)])
variable{mg:Str->Option B}
theorem AK{K:BT}{h:Do}{N:J}{n:Str}{v:B}(X:K.In h)(G:h.Ns N mg)(e:W.nsIn K N n=Z (Z v)):mg n=Z v:=by
 let(o,es,P,ho,hd,_,hf):=G;unfold W.nsIn at e
 split at e
 ·rename_i c d g z sl q
  have:=X _ _ q
  rw[ho]at this;cases this;cases hd
  split at e
  ·rename_i Q he;cases e;rw[<- hf];unfold nsFind findBy;rw[<- Yb,he];rfl
  ·split at e <;> cases e
 ·cases e
variable{C:J}{bm:List B}{ini:Option J}
theorem gb{K:BT}{fn:List Str}(q:gw K fn C bm ini=O):bX K fn C bm ini:=by
 unfold gw at q;let((cl,dd,da,sl),ho,q):=any_some q;rw[sU]at q;let(q0,q):=q;let(cd,z,q):=any_some q;have e0:cl=.type "type":=eq_of_beq q0;have e1:da=.cls cd:=EW z;subst e0 e1;unfold Fu at q;simp only[sU,beq_iff_eq,Bool.not_eq_true']at q;let((((((((hm,h6),h4),Q),V),ht),hok),P),g):=q;let(nm,bs,mro,ns,qn,hd,sn,sub,ab,col,del):=cd;dsimp only at hm Q hok g V P;subst hm Q V;let⟨l⟩:=sl;let(k0,k1,k2,k3,k4,k5,U):=six (l:=l) h6;obtain rfl:k4=Z (.builtin "ValueError.__new__"):=Option.some.inj h4;refine(λh X=>?_,(_,by unfold W.clsIn;rw[ho],U),by show(K.lookup _).map (·.cls)=_;rw[ho];rfl)
 refine(nm,qn,ns,bs,sn,sub,ab,col,dd,k0,k1,k2,k3,k5,_,X _ _ ho,.of_isNs (W.isNs_of_in X hok),λn hn=>W.nsMap_none_of_in X hok (by simpa using R4.mp P n hn),?_,xG X ht)
 cases ini with
 |none=>exact W.nsMap_none_of_in X hok g
 |some f=>exact AK X (.of_isNs (W.isNs_of_in X hok)) g
def _root_.PySem.cv.sub{h:Do}{S S':List Str}{bmB tl:List B}(T:cv h S bmB tl)(hs:∀n∈S',n∈S):cv h S' bmB tl:=by
 induction T with
 |base=>exact .base
 |own a b c _ g=>exact .own a b (λn hn=>c n (hs n hn)) g
def XAt(a C:J)(dx:Option J)(b:Bool)(h:Do):Prop:=∃y,tu h a (.ref C) dx y/\(b=O->y=.none)
def XD(dx:J)(fs:List (Str×V))(h:Do):Prop:=∃mA,h.Ns1 dx mA/\(∀f,iO (fs.lookup f) (mA f))/\PySem.Within mA (fs.map (·.1))
def ExH(H:Hp)(a C:J)(b:Bool)(fs:List (Str×V)):Prop:=(fs=[]/\H a=Z (.ext (XAt a C Y b)))\/∃dx,dx≠a/\H a=Z (.ext (XAt a C (Z dx) b))/\H dx=Z (.ext (XD dx fs))
variable{o:HO}{ex:List J}{φ:Do->Prop}{o1:HO}{o2:HO}
section
variable{P:Da}{w:Cl}{H:Hp}{h h':Do}{a d:J}{dx:Option J}{b:Bool}{fs:List (Str×V)}
def XAt.ok(x:XAt a C dx b h):bJ P w H h a (.ext (XAt a C dx b)):=by
 refine(x,?_,λh1 h2 (y,(o,vs,g,e,r),z) k=>(y,(o,vs,g,k o e,r),z))
 let(y,(o,vs,g,e,r),z):=x;exact(o,e)
def XD.ok(x:XD d fs h):bJ P w H h d (.ext (XD d fs)):=by
 refine(x,?_,λh1 h2 (mA,(o,es,g,e,r),z) k=>(mA,(o,es,g,k o e,r),z))
 let(mA,(o,es,g,e,r),z):=x;exact(o,e)
def bJ.at(x:bJ P w H h a o):∃u,h.get? a=Z u:=by
 cases o with
 |lst xs=>let(_,_,_,_,e):=x;exact(_,e)
 |tup xs=>let(_,_,_,p):=x;let(o,e,_):=p.1;exact(o,e)
 |dK kvs=>let(_,_,_,_,o,_,_,e,_):=x;exact(o,e)
 |dT kvs=>let(_,_,_,_,o,_,_,e,_):=x;exact(o,e)
 |set S n=>let(o,_,_,_,e,_):=x;exact(o,e)
 |ins C dx fs=>let(_,_,_,e,_):=x;exact(_,e)
 |own y=>exact x
 |xd fs=>let(_,(o,_,_,e,_),_):=x;exact(o,e)
 |room g=>let(_,_,_,e):=x;exact(_,e)
 |rng lo hi=>let(_,_,_,e):=x;exact(_,e)
 |frz ob u=>let(e,_):=x;exact(_,e)
 |tbl ps=>exact(_,(show h.get? a=Z _ from x))
 |met f y=>exact(_,(show h.get? a=Z _ from x))
 |ext φ=>exact x.2.1
def HOk.no(x:HOk P w H h)(e:h.get? a=Y):H a=none:=by
 cases q:H a with
 |none=>rfl
 |some u =>
  let(v,z):=(x a u q).at;rw[e]at z;cases z
def HOk.yy(x:HOk P w H h)(k:∀b u,h.get? b=Z u->h'.get? b=Z u)(hp:h.get? a=Y)(new:bJ P w (upd H a o) h' a o):HOk P w (upd H a o) h':=λb u e=>by
 have hn:=x.no hp;by_cases g:b=a
 ·subst g;rw[au]at e;cases e;exact new
 ·rw[aj g]at e;exact(x b u e).dj (λc v _ q=>k c v q) (λc q=>by rw[aj (aL q hn)];exact q) λc xs q=>by rw[aj (aL q hn)];exact q
def Un.yy{fs:List J}(k:∀b u,h.get? b=Z u->h'.get? b=Z u)(hp:h.get? a=Y)(hn:H a=Y):Un fs ex H (upd H a o) h h' where
 keep:=λb u q _ _ _=>k b u q
 slot:=λb u q _ _ _=>(u.slots,k b u q)
 free:=λb u q n _=>by rw[aj (λz=>by rw[z,hp]at q;cases q)];exact n
 there:=λb u q _=>(u,k b u q)
 lL:=λb xs q=>by rw[aj (aL q hn)];exact q
 jd:=λb u xs q=>by rw[aj (aL q hn)];exact q
 lN:=λb ps q=>(#[],by rw[aj (aL q hn),q];simp)
theorem Inv.yy{X:Cx}{gd:List (J×Obj)}{σ:St}{s:ϋ}{o:HO}{t':Nat}(I:Inv X gd σ H s)(k:∀b u,s.heap.get? b=Z u->h'.get? b=Z u)(hp:s.heap.get? a=Y)(new:bJ X.prog X.w (upd H a o) h' a o):
  Inv X gd σ (upd H a o) {s with heap:=h',toks:=t'}:=I.un (Un.yy k hp (I.hok.no hp)) (I.hok.yy k hp new)
def OT(x:HOk P w H h)(ha:H a=Z (.ext φ))(hd:h.get? d=Y)(k:∀b u,b≠a->h.get? b=Z u->h'.get? b=Z u)
  (V:bJ P w (upd (upd H d o1) a o2) h' d o1) (Q:bJ P w (upd (upd H d o1) a o2) h' a o2):HOk P w (upd (upd H d o1) a o2) h':=λb u e=>by
 have hn:=x.no hd;have st:∀c v,H c=Z v->v ≠ .ext φ->upd (upd H d o1) a o2 c=Z v:=λc v q nv=>by
  rw[aj (λz=>by rw[z,ha]at q;cases q;exact nv U),aj (aL q hn)];exact q
 by_cases K:b=a
 ·subst K;rw[au]at e;cases e;exact Q
 ·rw[aj K]at e;by_cases g:b=d
  ·subst g;rw[au]at e;cases e;exact V
  ·rw[aj g]at e;refine(x b u e).dj (λc v hc q=>k c v ?_ q) (λc q=>st c _ q λz=>nomatch z) λc xs q=>st c _ q λz=>nomatch z
   obtain z|z:=hc
   ·rw[z];exact K
   ·exact gT z ha λz=>nomatch z
def OS{l:List J}(x:HOk P w H h)(ha:H a=Z (.ext φ))(hd:h.get? d=Y)(k:∀b u,b≠a->h.get? b=Z u->h'.get? b=Z u)(g:∃u,h'.get? a=Z u):Un l ex H (upd (upd H d o1) a o2) h h':=by
 have hn:=x.no hd;have na:∀b,H b=Y->b≠a:=λb n z=>by rw[z,ha]at n;cases n
 have st:∀c v,H c=Z v->v ≠ .ext φ->upd (upd H d o1) a o2 c=Z v:=λc v q nv=>by
  rw[aj (λz=>by rw[z,ha]at q;cases q;exact nv U),aj (aL q hn)];exact q
 refine(λb u q n _ _=>k b u (na b n) q,λb u q n _ _=>(u.slots,k b u (na b n) q),λb u q n _=>?_,λb u q _=>?_,λb xs q=>st b _ q (λz=>nomatch z),λb u xs q=>st b _ q (λz=>nomatch z),λb ps q=>(#[],by rw[st b _ q (λz=>nomatch z)];simp))
 ·rw[aj (na b n),aj (λz=>by rw[z,hd]at q;cases q)];exact n
 ·by_cases K:b=a
  ·rw[K];exact g
  ·exact(u,k b u K q)
end
variable{mA:Str->Option B}{y:V}{u:B}{Q:B->ϋ->Prop}
section
variable{X:Cx}{gd:List (J×Obj)}{σ:St}{H:Hp}{s:ϋ}{a d:J}{fn:List Str}{dx:Option J}{b:Bool}{fs:List (Str×V)}{f:Str}{v:V}{A:Db}{E:B->ϋ->Prop}
def XAt.T7{h:Do}(x:XAt a C Y b h):h.Inst a C (λ_=>Y):=by
 let(y,(o,vs,K,e,q,hd,g,_),_):=x;exact(o,e,q,λc z=>(by rw[g]at z;cases z),.inl (hd,λ_=>rfl))
def XAt.Oe{h:Do}(x:XAt a C (Z d) b h)(ne:d≠a)(n:h.Ns1 d mA):h.Inst a C mA:=by
 let(y,(o,vs,K,e,q,hd,g,_),_):=x;exact(o,e,q,λc z=>(by rw[g]at z;cases z),.inr (d,hd,ne,n))
def FOk(f:Str):Prop:=typeLookup (.type "ValueError") f=pure Y
def bX.ne{h:Do}(c:bX X.K fn C bm ini)(I:Inv X gd σ H s)(e:H a=Z (.ext φ))(P:∀h,φ h->∃o vs,h.get? a=Z o/\o.data=.fields vs):a≠C:=by
 intro z;let(nm,q,N,bs,sn,sub,ab,col,dd,k0,k1,k2,k3,k5,mN,Q,_):=c.all s.heap I.kIn;let(o,vs,g,V):=P _ (I.hok a _ e).1;rw[z,Q]at g;cases g;cases V
def XAt.rec{h:Do}(x:XAt a C dx b h):∃o vs,h.get? a=Z o/\o.data=.fields vs:=let(_,(o,vs,_,e,_,_,hd,_),_):=x;(o,vs,e,hd)
def xV{fs:List (Str×V)}(r:∀g,iO (fs.lookup g) (mA g))(z:RelV y u)(g:Str):iO ((gP f y fs).lookup g) (if g=f then Z u else mA g):=by
 rw[jB];by_cases q:g=f
 ·rw[if_pos q,if_pos q];exact z
 ·rw[if_neg q,if_neg q];exact r g
def qm{fs:List (Str×V)}(wi:PySem.Within mA (fs.map (·.1))):PySem.Within (λg=>if g=f then Z u else mA g) ((gP f y fs).map (·.1)):=λg hg=>by
 by_cases q:g=f
 ·rw[q];exact(gX f y fs).1
 ·refine(gX f y fs).2 g (wi g λz=>hg ?_)
  show(if g=f then Z u else mA g)=Y
  rw[if_neg q];exact z
theorem Gv{Q:Unit->ϋ->Prop}(I:Inv X gd σ H s)(e:H a=Z (.ext (XAt a C Y b)))(c:bX X.K fn C bm ini)(hf:f∈fn)(fo:FOk f)(ry:RelV y u)
  (h:∀s' d,H d=Y->d≠a->Inv X gd σ (upd (upd H d (.ext (XD d [(f,y)]))) a (.ext (XAt a C (Z d) b))) s'->Q () s'):wpAny (model X.prog X.w) A (setAttr (.ref a) f u) Q E s:=by
 have hx:XAt a C Y b s.heap:=(I.hok a _ e).1;have ak:=c.ne (h:=s.heap) I e λh x=>x.rec
 let(nm,q,N,bs,sn,sub,ab,col,dd,k0,k1,k2,k3,k5,mN,hC,hN,hS,_,T):=c.all s.heap I.kIn;let(P,g,dr,t,os):=s;have hp:P.get? P.objs.size=none:=OW (nY _);have mem:∀n∈xS fn,n∈("__init__":Str)::xS fn:=λn hn=>g5 _ hn
 refine oj (ns:=[]) F.store_ValueError (T.sub mem) (by simp[hf]) (by simp) hC hN (hS _ (by simp)) (hS f (by simp[hf])) fo ak hx.T7 (λh' aS I' kp same=>?_) (λy hy=>absurd U hy) (by decide)
 let(y0,(o,vs,a0,e0,hc,hd,aA,z0,z1),zb):=hx;let(o1,e1,c1,aN,_,_,d1):=same o e0;have d1:=d1 hd;let(o',e',_,_,Jd):=I'
 have:o'=o1:=Option.some.inj (e'.symm.trans e1)
 subst this;have ar:h'.Ns1 P.objs.size (λy=>if y=f then Z u else Y):=by
  obtain⟨z,_⟩|⟨d2,z,_,n2⟩:=Jd
  ·rw[d1]at z;cases z
  ·rw[d1]at z;cases z;exact n2
 have VM:P.objs.size≠a:=λz=>by rw[<- z,hp]at e0;cases e0
 have V:∀b ob,b≠a->P.get? b=Z ob->h'.get? b=Z ob:=λb ob hb q=>kp b ob hb (λaP dx h1 h2=>by rw[e0]at h1;cases h1;rw[hd]at h2;cases h2) q
 have wi:=qm (f:=f) (y:=y) (u:=u) (fs:=[]) (mA:=λ_=>Y) (λg hg=>absurd U hg)
 have nX:XAt a C (Z P.objs.size) b h':=(y0,(o',vs,a0,e1,c1.trans hc,d1,aN.trans aA,z0,z1),zb);have nD:XD P.objs.size [(f,y)] h':=(_,ar,xV (fs:=[]) (λ_=>True.intro) ry,wi)
 exact h _ P.objs.size (I.hok.no hp) VM (I.un (OS I.hok e hp V (_,e1)) (OT I.hok e hp V nD.ok nX.ok))
theorem Gu{Q:Unit->ϋ->Prop}(I:Inv X gd σ H s)(e:H a=Z (.ext (XAt a C (Z d) b)))(ne:d≠a)(ed:H d=Z (.ext (XD d fs)))(c:bX X.K fn C bm ini)(hf:f∈fn)(fo:FOk f)(hl:fs.length<1000)(ry:RelV y u)
  (h:∀s',Inv X gd σ (upd H d (.ext (XD d (gP f y fs)))) s'->Q () s'):wpAny (model X.prog X.w) A (setAttr (.ref a) f u) Q E s:=by
 have hx:XAt a C (Z d) b s.heap:=(I.hok a _ e).1;obtain⟨mA,hn,r,wi⟩:XD d fs s.heap:=(I.hok d _ ed).1;have aN:=c.ne (h:=s.heap) I e λh x=>x.rec
 let(nm,q,N,bs,sn,sub,ab,col,dd,k0,k1,k2,k3,k5,mN,hC,hN,hS,_,T):=c.all s.heap I.kIn;let(hh,g,dr,t,os):=s;have mem:∀n∈xS fn,n∈("__init__":Str)::xS fn:=λn hn=>g5 _ hn
 refine oj (ns:=fs.map (·.1)) F.store_ValueError (T.sub mem) (by simp[hf]) (by simp) hC hN (hS _ (by simp)) (hS f (by simp[hf])) fo aN (hx.Oe ne hn) (λh' ar I' kp same=>?_) wi (by rw[dN,WA];omega)
 let(y0,(o,vs,a0,e0,hc,hd,aT,z0,z1),zb):=hx;let(o1,e1,c1,ak,P,d0,_):=same o e0;have d1:=d0 d hd;clear d0;have oe:o1=o:=by
  let(q1,q2,q3,q4):=o1;let(p1,p2,p3,p4):=o;dsimp only at c1 ak P d1 hd;subst c1 ak P d1 hd;rfl
 subst oe;let(o',e',_,_,Jd):=I'
 have:o'=o1:=Option.some.inj (e'.symm.trans e1)
 subst this;have aP:h'.Ns1 d (λy=>if y=f then Z u else mA y):=by
  obtain⟨z,_⟩|⟨d2,z,_,n2⟩:=Jd
  ·rw[d1]at z;cases z
  ·rw[d1]at z;cases z;exact n2
 have aA:∀b ob,b≠d->hh.get? b=Z ob->h'.get? b=Z ob:=λb ob hb q=>by
  by_cases V:b=a
  ·subst V;have q':hh.get? b=Z ob:=q;rw[e0]at q';cases q';exact e1
  ·exact kp b ob V (λaS dx h1 h2=>by rw[e0]at h1;cases h1;rw[hd]at h2;cases h2;exact hb) q
 have nD:XD d (gP f y fs) h':=(_,aP,xV r ry,qm wi);exact h _ (I.write (x:=d) (e:=d) (t':=ar) (by rw[ed];exact True.intro) (.inl U) aA (let(_,(o,_,_,e,_),_):=nD;(o,e)) nD.ok)
theorem M3{bb:Bool}(I:Inv X gd σ H s)(e:ExH H a C b fs)(c:bX X.K fn C bm ini)(hf:f∈fn)(fo:FOk f)(l:fs.lookup f=Z v)
  (h:∀u s',Inv X gd σ H s'->RelV v u->Q u s'):wpAny (model X.prog X.w) A (getAttr (.ref a) f bb) Q E s:=by
 obtain⟨z,_⟩|⟨d,ne,e,ed⟩:=e
 ·rw[z]at l;cases l
 have hx:XAt a C (Z d) b s.heap:=(I.hok a _ e).1;obtain⟨mA,hn,r,wi⟩:XD d fs s.heap:=(I.hok d _ ed).1;let(nm,q,N,bs,sn,sub,ab,col,dd,k0,k1,k2,k3,k5,mN,hC,hN,V,_,T):=c.all s.heap I.kIn;let(u,P,ru):=iO.some_of (v:=v) (o:=mA f) (by rw[<- l];exact r f)
 have I':=I.tok (s.toks+1);let(hh,g,dr,t,os):=s;have mem:∀n∈xS fn,n∈("__init__":Str)::xS fn:=λn hn=>g5 _ hn
 exact AY F.attrBase_ValueError (T.sub mem) (by simp[hf]) (by simp) (by simp) hC hN V fo (hx.Oe ne hn) P (W.handedOut_of (uY ru)) (h u _ I' ru)
end
def SA(K:BT)(fn:List Str)(ta tv:TE)(f:Str):TS:=λD σ H=>tv σ H λy H1=>ta σ H1 λx H2=>∃a C b bm ini,x=.ref a/\bX K fn C bm ini/\f∈fn/\FOk f /\
 ((H2 a=Z (.ext (XAt a C Y b))/\∀d,H2 d=Y->d≠a->D.nx σ (upd (upd H2 d (.ext (XD d [(f,y)]))) a (.ext (XAt a C (Z d) b)))) \/
  ∃d fs,d≠a/\H2 a=Z (.ext (XAt a C (Z d) b))/\H2 d=Z (.ext (XD d fs))/\fs.length<1000/\D.nx σ (upd H2 d (.ext (XD d (gP f y fs)))))
def FW(K:BT)(fn:List Str)(ta:TE)(f:Str):TE:=λσ H Q=>ta σ H λx H1=>∃a C b bm ini fs v,x=.ref a/\ExH H1 a C b fs/\bX K fn C bm ini/\f∈fn/\FOk f/\fs.lookup f=Z v/\Q v H1
section
variable{X:Cx}{o e value:Ev}{f:Str}{pos pos':Pos}{ta tv:TE}{fn:List Str}
def LR(ha:PE X o ta)(hv:PE X value tv)(hs:‹swapsWith value (Z (.Attribute o f pos')) pos.line X.env=pure false›):PS X (.Assign [.Attribute o f pos'] value pos) (SA X.K fn ta tv f):=by
 right;refine plainObj_wpAny_Assign_Attribute (thn (hv gd s σ H _ I h) λu s1 (y,H1,I1,ry,q)=>thn (ha gd s1 σ H1 _ I1 q) λov s2 P=>?_) hs
 let(x,H2,I2,rx,a,C,b,bm,ini,ex,c,hf,fo,g):=P;subst ex;obtain rfl:ov=B.ref a:=rx;obtain⟨Q,g⟩|⟨d,fs,ne,Q,e1,hl,g⟩:=g
 ·exact Gv I2 Q c hf fo ry λs3 d z ne V=>(σ,_,V,g d z ne)
 ·exact Gu I2 Q ne e1 c hf fo hl ry λs3 V=>(σ,_,V,g)
def Mb(he:PE X e ta)(P:‹attributeBase e f X.env (eval e X.env)=eval e X.env›):PE X (.Attribute e f pos) (FW X.K fn ta f):=by
 left;refine C2 P (thn (he gd s σ H _ I h) λu s1 g=>?_)
 let(x,H1,I1,z,a,C,b,bm,ini,fs,v,ex,V,c,hf,fo,l,q):=g;subst ex;obtain rfl:u=B.ref a:=z;exact M3 I1 V c hf fo l λu' s2 I2 ru=>(v,H1,I2,ru,q)
end
inductive xJ(C:J)(fsN:List Str)(vs:List V)(H:Hp)(Q:VK)(_:XK):Prop
 |mk(a ys:_)(h1:vs=.ref a::ys)(h2:ys.length=fsN.length)(h3:H a=Z (.ext (XAt a C Y O)))(h4:∀d,H d=Y->d≠a->Q .non (upd (upd H d (.ext (XD d (fsN.zip ys)))) a (.ext (XAt a C (Z d) O))))
def zY(C:J)(fsN:List Str)(t:TA):TE:=λσ H Q=>t σ H λvs H1=>vs.length=fsN.length/\vs.length<=1000/\∀a d,H1 a=Y->H1 d=Y->d≠a->Q (.ref a) (upd (upd H1 d (.ext (XD d (fsN.zip vs)))) a (.ext (XAt a C (Z d) O)))
variable{h':Do}{a:J}{d:J}{us:List B}
section
variable{X:Cx}{gd:List (J×Obj)}{σ:St}{H:Hp}{s:ϋ}{f:J}{k:Nat}{fd:Ch}{ps fn fsN:List Str}{x:Str}{p pos:Pos}{e:Ev}{es:List Ev}{t:TA}
def MF{args:List B}{h:Do}{e:J}(m:WS h h' e (.ref C) args):XAt e C Y O h':=by
 let(t,he,_,_):=m.there;exact(.none,(_,_,_,he,U,U,U,U,U),λ_=>rfl)
def UX(ne:d≠a):upd (upd (upd H a o) d o1) a o2=upd (upd H d o1) a o2:=by
 funext b
 by_cases h1:b=a
 ·rw[h1,au,au]
 ·rw[aj h1,aj h1];by_cases h2:b=d
  ·rw[h2,au,au]
  ·rw[aj h2,aj h2,aj h1]
theorem DS{Q:VK}{vs:List V}(M:bX X.K fn C bm (Z f))(aS:W.isFn X.K (.ref f)=O)(F:bf X.prog X.w X.K X.mg X.base CX0 k f fd ps (xJ C fsN))(hr:cK (k+1) X.A)(hb:Binds X.K fd ps [])
  (I:Inv X gd σ H s) (r:Vals vs us) (hl:vs.length=fsN.length) (hz:vs.length<=1000) (h:∀a d,H a=Y->H d=Y->d≠a->Q (.ref a) (upd (upd H d (.ext (XD d (fsN.zip vs)))) a (.ext (XAt a C (Z d) O)))):
  Zc X (call (.ref C) us) (EP X gd σ Q) X.xe s:=by
 let(nm,q,N,bs,sn,sub,ab,col,dd,k0,k1,k2,k3,k5,mN,hC,hN,hS,hi,T):=M.all s.heap I.kIn;let(oI,aN,a0):=gV.mp (show(X.K.lookup f).map (·.cls)=Z (.type "function")from beq_iff_eq.mp aS);have aT:=I.kIn f oI aN;have a3:us.length<=1000:=by rw[<- r.length];exact hz
 have mk:∀h' e,WS s.heap h' e (.ref C) us->Inv X gd σ (upd H e (.ext (XAt e C Y O))) {s with heap:=h'}:=λh' e m=>I.yy (t':=s.toks) m.keeps m.new (MF m).ok
 have hn:∀h' e,WS s.heap h' e (.ref C) us->H e=none:=λh' e m=>I.hok.no m.new
 have aA:=hr.make C us [];have e1:∀h' e,WS s.heap h' e (.ref C) us->zr X.prog X.w X.K X.mg X.base (X.A.under (.builtin "type.__call__" (.ref C::us,[]))) X.stack {s with heap:=h'} (upd H e (.ext (XAt e C Y O))):=λh' e m=>(mk h' e m).Na.make C us []
 let(hh,g,dr,tk,os):=s;refine Bw PySem.F.excBase_ValueError (cv.tail (by simp) T) hC hN hi aT a0 (λh' e m=>?_) (by rw[WA];omega)
 have ak:xJ C fsN (.ref e::vs) (upd H e (.ext (XAt e C Y O))) (λv H2=>v=.non/\Q (.ref e) H2) E0:=(e,vs,U,hl,au,λd z ne=>(U,by
  rw[UX ne];have z':H d=none:=by rw[aj ne]at z;exact z
  exact h e d (hn h' e m) z' ne))
 have r2:Vals (V.ref e::vs) (B.ref e::us):=.cons U r;have aP:(B.ref e::us ++ []).length=ps.length:=by
  rw[qg,<- r2.length];exact F.len _ _ _ _ ak
 have ar:=hb (h',g,dr,tk,os) (B.ref e::us) (mk h' e m).kIn aP;rw[qg]at ar;refine wpAny_call (codeAny_mono (F.run _ X.stack _ _ (B.ref e::us,[]) (B.ref e::us) _ _ E0 aA (e1 h' e m) ar r2 ak) λr s' P=>?_)
 cases r with
 |error e=>exact False.elim P
 |ok fl =>
  cases fl with
  |ret u =>
   let(v,H',I3,rv,ev,q3):=(mk h' e m).after P;subst ev;exact(rv,(V.ref e,H',I3,U,q3))
  |next=>exact False.elim P
  |brk=>exact False.elim P
  |cont=>exact False.elim P
theorem HM(M:bX X.K fn C bm (Z f))(z:W.isFn X.K (.ref f)=O)(kp:W.keepIn X.K (.ref C)=O)(F:bf X.prog X.w X.K X.mg X.base CX0 k f fd ps (xJ C fsN))(hr:cK (k+1) X.A)(hg:Gl X x)(hm:X.mg x=Z (.ref C))(hb:Binds X.K fd ps [])
  (ha:PA X (e::es) t) (P:autoParam (AS x) zdc._auto_1) (he:‹AC X e es›) (g:‹AM X pos es›):
  PE X (.Call (.Name x p) (e::es) [] pos) (zY C fsN t):=by
 left;refine RZ (ka I hg hm ?_ P);refine W.callWith_K (h₀:=X.base) I.ok.mod.kin kp (thn (ha pos gd s σ H _ I h) λus s1 (vs,H1,V,r,hl,hz,q)=>(V.kIn,?_)) he g
 exact DS M z F hr hb V r hl hz q
end
section
variable{X:Cx}{gd:List (J×Obj)}{σ:St}{H:Hp}{s:ϋ}{C':J}{fn:List Str}{bm':List B}{wM:Option J}{fs:List (Str×V)}{b:Bool}{A:Db}{E:B->ϋ->Prop}
def EF:typeLookup (.type "ValueError") "__class__"=pure (Z (.builtin "object.__class__")):=by rw[typeLookup_type,builtinLookup_eq_fast];kernel_rfl
theorem yC{K:BT}(c:bX K fn C bm ini):W.KitX K (.ref a) (.ref C) (λh=>∃o,h.get? a=Z o/\o.cls=.ref C) where
 ty:=λM h X (o,e,V)=>by
  intro A' Q' E' s' k q;unfold typeOf;refine cZ (wpAny_loadPart (k _ _ e) (kq ?_))
  first
   | (rw[V];exact q)
   | (show Q' o.cls s';rw[V];exact q)
 it:=λM h X _=>by
  let(nm,q,N,bs,sn,sub,ab,col,dd,k0,k1,k2,k3,k5,mN,P,_):=c.all h X;intro A' Q' E' s' k q;unfold isType loadHead;exact cZ (wpAny_loadPart (k _ _ P) (kq q))
 ne:=λh tp dd its n sl X ak=>by
  let(nm,q,N,bs,sn,sub,ab,col,dd',k0,k1,k2,k3,k5,mN,P,_):=c.all h X;refine Xu.mpr λq=>?_
  have e:C=tp:=B.ref.inj (beq_iff_eq.mp q);subst e;have z:B.type "type"=B.type "tuple":=congrArg Obj.cls (Option.some.inj (P.symm.trans ak));exact absurd z (by decide)
 ca:=λ{prog w A E Q s} X (o,e,V) hq=>by
  let(nm,q,N,bs,sn,sub,ab,col,dd,k0,k1,k2,k3,k5,mN,P,hN,hS,hi,T):=c.all s.heap X;let(hh,g,dr,tk,os):=s;have mem:∀n∈xS fn,n∈("__init__":Str)::xS fn:=λn hn=>g5 _ hn
  exact y8 EF (by decide) (by simp) (by simp) (by simp) F.attrBase_ValueError (T.sub mem) P hN hS e V hq
theorem Cu{K:BT}(c:bX K fn C bm ini)(q:bX K fn C' bm' wM):W.kitOne K (.ref C) (.ref C')=Z ((B.ref C::bm).contains (.ref C')):=by
 unfold W.kitOne;let(cd,h1,h2):=c.cl;let(P,g,_):=q.cl
 split
 ·rename_i z;rw[beq_iff_eq.mp z];simp
 ·unfold W.kitCls W.subIn W.mroIn;simp[h1,g,q.ty,h2]
theorem IM{K:BT}{T:String}(c:bX K fn C bm ini)(hT:W.kitMeta T=O):W.kitOne K (.ref C) (.type T)=Z (bm.contains (.type T)):=by
 unfold W.kitOne;let(cd,h1,h2):=c.cl;rw[if_neg (by intro z;exact nomatch(beq_iff_eq.mp z))]
 unfold W.kitCls W.subIn W.mroIn;simp only[hT,if_true,h1,Option.bind_some,h2,List.isEmpty_cons,W5,if_false,vb];rfl
theorem ExH.cls{h:Do}{P:Da}{w:Cl}(e:ExH H a C b fs)(ok:HOk P w H h):∃o,h.get? a=Z o/\o.cls=.ref C:=by
 have go:∀dx,H a=Z (.ext (XAt a C dx b))->∃o,h.get? a=Z o/\o.cls=.ref C:=λdx e=>by
  let(y,(o,vs,z,q,g,_),_):=(ok a _ e).1;exact(o,q,g)
 obtain⟨_,e⟩|⟨d,_,e,_⟩:=e
 ·exact go _ e
 ·exact go _ e
theorem Rc{c:B}{r:Bool}(I:Inv X gd σ H s)(e:ExH H a C b fs)(g:bX X.K fn C bm ini)(ek:W.kitOne X.K (.ref C) c=Z r)(h:∀tk,Q (.bool r) {s with toks:=tk}):wpAny (model X.prog X.w) A (call (.builtin "isinstance") [.ref a,c]) Q E s :=
 W.kia_one (yC g) I.kIn (e.cls I.hok) ek (λz=>nomatch z) h
end
end L2
namespace PySem
open Sem (wp)
section
variable{M:Model}{A:Db}{E:B->ϋ->Prop}{env:Env}
variable{nm q nm' q':Str}{C N C' N':J}{bs bm bs' bm':List B}{lb Um:Bool}{sn sn':List Str}{sub KU:List B}{ab ab':Bool}{col UB:Option Bool}{dd dd':Option J}{k0 k1 k2 k3 k5 j0 j1 j2 j3 j5:Option B}{newId Qw:String}
def Pn{s:ϋ}{x:Sem B}{Q:Flow->ϋ->Prop}(hh:A.handled=Y)
  (h:wpAny M A x (λv z=>∃e K C nm q N bs bm lb sn sub ab col dd k0 k1 k2 k3 k5 newId,v=.ref e/\z.heap.get? C=Z (excClassObj nm q C N bs bm lb sn sub ab col dd k0 k1 k2 k3 k5 newId)/\bm.contains (.type "BaseException")=O /\
   z.heap.get? e=Z K/\K.cls=.ref C/\(∃vs,K.data=.fields vs/\vs[1]?=Z .none)/\E (.ref e) z) E s):wpAny M A (raiseStmt env (Z x) Y) Q E s:=by
 unfold raiseStmt;refine cZ (Nz h (λv z h₁=>?_) λ_ _ x=>x)
 let(e,K,C,nm,q,N,bs,bm,lb,sn,sub,ab,col,dd,k0,k1,k2,k3,k5,newId,U,hC,hb,he,V,(vs,hd,h1),hE):=h₁;have P:(B.ref C::bm).contains (.type "BaseException")=true:=by rw[vb,hb,Xb]
 let(hp,g,d,tk,os):=z;let(c0,d0,da,sl):=K;dsimp only at V hd;subst V hd
 repeat (first|with_reducible refine wpAny_loadPart_at he ?_|with_reducible refine wpAny_loadPart_at hC ?_|(with_reducible refine wpAny_isSubtype_exc hC ?_;rw[P])|wp_step)
 rw[h1]
 repeat (first|with_reducible refine wpAny_raiseNew_none hh hE|wp_step)
def Qx{h:Do}{g:Array X5}{d:Drawn}{t:Nat}{os:OsState}{e:J}{V:Obj}{Q:Bool->ϋ->Prop}
  (hC:h.get? C=Z (excClassObj nm q C N bs bm lb sn sub ab col dd k0 k1 k2 k3 k5 newId)) (z:h.get? C'=Z (excClassObj nm' q' C' N' bs' bm' Um sn' KU ab' UB dd' j0 j1 j2 j3 j5 Qw)) (he:h.get? e=Z V) (yL:V.cls=.ref C)
  (hb:bm'.contains (.type "BaseException")=O) (hq:Q ((B.ref C::bm).contains (.ref C')) (h,g,d,t,os)):wpAny M A (excMatches (.ref e) (.ref C')) Q E (h,g,d,t,os):=by
 have P:(B.ref C'::bm').contains (.type "BaseException")=true:=by rw[vb,hb,Xb]
 have f:=tc_notTuple;unfold excMatches
 repeat (first|(with_reducible refine wpAny_loadPart_at he ?_;rw[yL])|with_reducible refine wpAny_loadPart_at z ?_|(with_reducible refine wpAny_isSubtype_exc z ?_;rw[P])|wp_step)
 all_goals(cases K:(B.ref C::bm).contains (.ref C') <;>(rw[K]at hq;first|exact wpAny_isSubtype_exc hC (by rw[K];exact hq)|(refine wpAny_isSubtype_exc hC ?_;rw[K];repeat (first|exact hq|wp_step))))
end
end PySem
namespace L2
open PySem PySem.Spec PyProof.Rows
def CX1(P:Da)(w:Cl):CXT:=λouter H s E e s'=>∃a C dx T H',e=.ref a/\s'.os=s.os/\AllBare s'.gens/\Un (frs outer) [] H H' s.heap s'.heap/\HOk P w H' s'.heap /\
 H' a=Z (.ext (XAt a C dx ϊ))/\gv s'.heap a (.ref C) dx T .none/\H' T=Y/\s.heap.get? T=Y/\E (.ref C) (Z a) H'
variable{φ:Do->Prop}
section
variable{P:Da}{w:Cl}{H₀ H H':Hp}{h₀ h h':Do}{fs fr ex:List J}{a C T:J}{dx:Option J}{fl:B}
def Un.mq(u:Un fs [] H₀ H h₀ h)(k:dR fr ex h h')(hex:∀b∈ex,(∃φ,H b=Z (.ext φ))\/h₀.get? b=Y)(Q:∀b∈fr,b∈fs\/h₀.get? b=Y)(hH:∀b,H' b=H b\/∃φ K,H b=Z (.ext φ)/\H' b=Z (.ext K)):Un fs [] H₀ H' h₀ h':=by
 have nx:∀b o,h₀.get? b=Z o->H b=Y->b ∉ ex:=λb o e n z=>by
  obtain⟨φ,y⟩|y:=hex b z
  ·rw[n]at y;cases y
  ·rw[e]at y;cases y
 have st:∀b o,H b=Z o->(∀φ,o ≠ .ext φ)->H' b=Z o:=λb o e n=>by
  obtain z |⟨φ,K,z,_⟩:=hH b
  ·rw[z];exact e
  ·rw[e]at z;cases z;exact absurd U (n φ)
 refine(λb o e n q hx=>?_,λb o e n q hx=>?_,λb o e n hx=>?_,λb o e hx=>?_,λb xs e=>st b _ (u.lL b xs e) (λ_ z=>nomatch z),λb o xs e=>st b _ (u.jd b o xs e) (λ_ z=>nomatch z),λb ps e=>?_)
 ·refine k.keep b o (u.keep b o e n q hx) (λz=>?_) (nx b o e (u.free b o e n hx))
  obtain y|y:=Q b z
  ·exact q y
  ·rw[e]at y;cases y
 ·let(sl,g):=u.slot b o e n q hx;let(P,e2):=k.slot b _ g (nx b o e (u.free b o e n hx));exact(P,e2)
 ·have V:=u.free b o e n hx;obtain z |⟨φ,K,z,_⟩:=hH b
  ·rw[z];exact V
  ·rw[V]at z;cases z
 ·let(o',g):=u.there b o e hx;exact k.there b o' g
 ·let(more,g):=u.lN b ps e;exact(more,st b _ g (λ_ z=>nomatch z))
def HOk.mq(ok:HOk P w H h)(k:dR fr ex h h')(g:∀b∈fr,H b=Y)(hex:∀b∈ex,b=a\/H b=Y)(ha:H a=Z (.ext φ))(Q:∀b,b≠a->H' b=H b)(new:∀o,H' a=Z o->bJ P w H' h' a o)
  (ak:∃V,H' a=Z (.ext V)):HOk P w H' h':=λc o e=>by
 by_cases K:c=a
 ·subst K;exact new o e
 ·rw[Q c K]at e;have st:∀b v,H b=Z v->(∀φ,v ≠ .ext φ)->H' b=Z v:=λb v q n=>by
   rw[Q b (λz=>by rw[z,ha]at q;cases q;exact n φ U)];exact q
  have go:∀b u v,H b=Z v->b≠a->h.get? b=Z u->h'.get? b=Z u:=λb u v q na r=>k.keep b u r (λz=>by rw[g b z]at q;cases q) λz=>by
   obtain y|y:=hex b z
   ·exact na y
   ·rw[y]at q;cases q
  refine(ok c o e).dj (λb u hb r=>?_) (λb q=>st b _ q (λ_ z=>nomatch z)) λb xs q=>st b _ q (λ_ z=>nomatch z)
  obtain y|y:=hb
  ·rw[y]at r ⊢;exact go c u o e K r
  ·exact go b u _ y (gT y ha λz=>nomatch z) r
def _root_.PySem.gv.at(x:gv h a (.ref C) dx T fl):XAt a C dx ϊ h:=(_,x.2.1,λz=>nomatch z)
end
variable{P:Da}{mg:Str->Option B}{base:Do}{N:List Str}{qual:Str}{scope:Scope}{cd:B}{A:Db}{outer:List Env}{H₀:Hp}{e:Ev}{te:TE}
section
variable{X:Cx}{gd:List (J×Obj)}{σ:St}{H:Hp}{s:ϋ}{a C T:J}{dx:Option J}{E:XK}{fn:List Str}
def mY(X:Cx)(Es:St->XK):Prop:=∀(gd:List (J×Obj))(σ:St)(H:Hp)(s:ϋ)(a C:J)(dx:Option J),Inv X gd σ H s->H a=Z (.ext (XAt a C dx O))->Es σ (.ref C) (Z a) (upd H a (.ext (XAt a C dx ϊ)))->X.xe (.ref a) s
def kl(CX:CXT)(X:Cx)(Es:St->XK):Prop:=∀(gd:List (J×Obj))(σ:St)(H:Hp)(s:ϋ)(e:B)(s':ϋ),Inv X gd σ H s->CX X.stack H s (Es σ) e s'->X.xe e s'
def FI{q:Do->Prop}(e:H a=Z (.ext φ))(b:J):upd H a (.ext q) b=H b\/∃φ g,H b=Z (.ext φ)/\upd H a (.ext q) b=Z (.ext g):=by
 by_cases z:b=a
 ·rw[z];exact .inr (φ,q,e,au)
 ·exact .inl (aj z)
theorem Al{w:Cl}{K:BT}{f:J}{s₀:ϋ}:mY (nS (CX1 P w) P w K mg base N qual scope f cd A outer s₀ H₀ E) (λ_=>E):=by
 intro gd σ H s a C dx I e hE;obtain⟨y,hx,V⟩:XAt a C dx O s.heap:=(I.hok a _ e).1;rw[V rfl]at hx;refine rL (A:=A.deeper (envOfC qual scope s₀.heap.objs.size f cd)) (env:=envOfC qual scope s₀.heap.objs.size f cd) (outer:=outer) (base:=base) I.ok.frames I.stack U hx λh' T sz al Q=>?_
 have lt:∀b o,s₀.heap.get? b=Z o->b<s₀.heap.objs.size:=λb o q=>jR q
 refine(a,C,dx,T,upd H a (.ext (XAt a C dx ϊ)),U,I.os,I.bare,?_,?_,au,al,?_,OW (sR I.sz sz),hE)
 ·refine Un.mq (fr:=frs (envOfC qual scope s₀.heap.objs.size f cd::outer)) I.base Q (λb g=>?_) (λb g=>?_) (FI e)
  ·rw[fy.mp g];exact .inl (_,e)
  ·obtain z|z:=ot.mp (I.ny b g)
   ·exact .inr (by rw[z];exact OW (nY _))
   ·exact .inl z
 ·exact HOk.mq (a:=a) I.hok Q (λb g=>I.jX b g) (λb g=>.inl (fy.mp g)) e (λb g=>aj g) (λo q=>by rw[au]at q;cases q;exact al.at.ok) (_,au)
 ·rw[aj al.1];exact I.hok.fresh sz
theorem AB{w:Cl}{K:BT}{f:J}{s₀:ϋ}:kl (CX1 P w) (nS (CX1 P w) P w K mg base N qual scope f cd A outer s₀ H₀ E) (λ_=>E):=by
 intro gd σ H s e s' I hx;let(a,C,dx,T,H',U,ar,hg,un,hok,V,al,hT,aA,hE):=hx;have g:=I.zc (ch:=[]) ar un hok hg (λb z=>nomatch z)
 refine uf (A:=A.deeper (envOfC qual scope s₀.heap.objs.size f cd)) (env:=envOfC qual scope s₀.heap.objs.size f cd) (outer:=outer) (base:=base) g.ok.frames g.stack U al λh' T' sz ak kx=>?_
 have aN:s₀.heap.get? T=none:=by
  cases q:s₀.heap.get? T with
  |none=>rfl
  |some o =>
   let(o',z):=I.base.there T o q (λz=>nomatch z)
   rw[aA]at z;cases z
 refine(a,C,dx,T',H',U,g.os,g.bare,?_,?_,V,ak,g.hok.fresh sz,OW (sR g.sz sz),hE)
 ·refine Un.mq (fr:=frs (envOfC qual scope s₀.heap.objs.size f cd::outer)) g.base kx (λb Q=>?_) (λb Q=>?_) (λb=>.inl U)
  ·obtain z|z:=ot.mp Q
   ·rw[z];exact .inl (_,V)
   ·rw[fy.mp z];exact .inr aN
  ·obtain z|z:=ot.mp (g.ny b Q)
   ·exact .inr (by rw[z];exact OW (nY _))
   ·exact .inl z
 ·refine HOk.mq (a:=a) g.hok kx (λb Q=>g.jX b Q) (λb Q=>?_) V (λb Q=>rfl) (λo q=>by rw[V]at q;cases q;exact ak.at.ok) (_,V)
  obtain z|z:=ot.mp Q
  ·exact .inl z
  ·rw[fy.mp z];exact .inr hT
def zW(K:BT)(fn:List Str)(Es:St->XK)(te:TE):TS:=λ_ σ H=>te σ H λv H1=>∃a C bm ini dx,v=.ref a/\bX K fn C bm ini/\H1 a=Z (.ext (XAt a C dx O))/\Es σ (.ref C) (Z a) (upd H1 a (.ext (XAt a C dx ϊ)))
def Hw{Es:St->XK}{pos:Pos}(hc:X.calm=O)(hx:mY X Es)(he:PE X e te):PS X (.Raise (Z e) Y pos) (zW X.K fn Es te):=by
 right;rw[arm_exec_Raise];refine cZ (wpAny_standAt (Pn (I.ok.hd hc) (cZ (thn (he gd s σ H _ I h) λv s1 Q=>?_))))
 let(x,H1,V,rx,a,C,bm,ini,dx,ex,c,ea,q):=Q;refine cZ (wpAny_standAt (kq ?_));subst ex;obtain rfl:v=B.ref a:=rx;let(nm,q',N,bs,sn,sub,ab,col,dd,k0,k1,k2,k3,k5,mN,hC,hN,hS,hi,T):=c.all s1.heap V.kIn;let(y,(o,vs,a0,e1,P,ak,z,_,hy),g):=(V.hok a _ ea).1;rw[g rfl]at hy;exact(a,o,C,nm,q',N,bs,bm,O,sn,sub,ab,col,dd,k0,k1,k2,k3,k5,_,U,hC,T.hasType (by decide),e1,P,(vs,z,hy),hx gd σ H1 s1 a C dx V ea q)
end
abbrev Cx.inX(X:Cx)(a:J):Cx:={X with A:=X.A.mark (Z (.ref a)),calm:=ϊ,xe:=λ_ _=>False}
theorem Cx.Ok.inX{X:Cx}(ok:X.Ok)(a:J):(X.inX a).Ok :=
 (ok.mod,ok.kind,ok.glob,ok.blt,ok.above,ok.inj,ok.has,ok.cab,(λz=>nomatch z),ok.frames,ok.stk,ok.exf,ok.bs,ok.bsz,ok.AL,ok.EK,ok.kn,ok.frf)
variable{M:Model}{E:B->ϋ->Prop}{x:Str}
section
variable{X:Cx}{gd:List (J×Obj)}{σ:St}{H:Hp}{s:ϋ}{a:J}
theorem Inv.inX(I:Inv X gd σ H s)(a:J):Inv (X.inX a) gd σ H s:=(I.ok.inX a,I.os,I.bare,I.base,I.loc,I.cell,I.free,I.dO,I.pin,I.hok,I.len)
def Inv.Ea(ok:X.Ok)(I:Inv (X.inX a) gd σ H s):Inv X gd σ H s:=(ok,I.os,I.bare,I.base,I.loc,I.cell,I.free,I.dO,I.pin,I.hok,I.len)
theorem SP.Ea(ok:X.Ok){D:Ends}{f:Flow}{s':ϋ}(h:SP (X.inX a) gd D f s'):SP X gd D f s':=by
 cases f with
 |next=>let(g,H',I,q):=h;exact(g,H',I.Ea ok,q)
 |brk=>let(g,H',I,q):=h;exact(g,H',I.Ea ok,q)
 |cont=>let(g,H',I,q):=h;exact(g,H',I.Ea ok,q)
 |ret u=>let(v,g,H',I,r,q):=h;exact(v,g,H',I.Ea ok,r,q)
abbrev Cx.oN(X:Cx)(pn:List (J×Obj))(xe:B->ϋ->Prop):Cx:={X with pn:=pn,xe:=xe}
theorem Cx.Ok.oN{X:Cx}(ok:X.Ok)(pn:List (J×Obj))(xe:B->ϋ->Prop):(X.oN pn xe).Ok :=
 (ok.mod,ok.kind,ok.glob,ok.blt,ok.above,ok.inj,ok.has,ok.cab,ok.hd,ok.frames,ok.stk,ok.exf,ok.bs,ok.bsz,ok.AL,ok.EK,ok.kn,ok.frf)
theorem Inv.oN(I:Inv X gd σ H s)(xe:B->ϋ->Prop):Inv (X.oN (X.pn++gd) xe) [] σ H s:=(I.ok.oN _ _,I.os,I.bare,I.base,I.loc,I.cell,I.free,I.dO,λp hp=>I.pin p (by rw[qg]at hp;exact hp),I.hok,I.len)
def Inv.oh{xe:B->ϋ->Prop}{pins':List (J×Obj)}(ok:X.Ok)(I:Inv (X.oN (X.pn++gd) xe) pins' σ H s):Inv X gd σ H s:=(ok,I.os,I.bare,I.base,I.loc,I.cell,I.free,I.dO,λp hp=>I.pin p (p7 _ hp),I.hok,I.len)
theorem SP.oh{xe:B->ϋ->Prop}(ok:X.Ok){D:Ends}{f:Flow}{s':ϋ}(h:SP (X.oN (X.pn++gd) xe) [] D f s'):SP X gd D f s':=by
 cases f with
 |next=>let(g,H',I,q):=h;exact(g,H',I.oh ok,q)
 |brk=>let(g,H',I,q):=h;exact(g,H',I.oh ok,q)
 |cont=>let(g,H',I,q):=h;exact(g,H',I.oh ok,q)
 |ret u=>let(v,g,H',I,r,q):=h;exact(v,g,H',I.oh ok,r,q)
structure Tb(X:Cx)(gd:List (J×Obj))(H:Hp)(T:J):Prop where
 n:H T=Y
 l:T≠X.env.locals
 z:X.s₀.heap.objs.size<=T
 c:∀x c,X.env.cells.lookup x=Z c->c≠T
 p:∀p∈X.pn++gd,p.1≠T
def Tb.of{T:J}(I:Inv X gd σ H s)(h:s.heap.objs.size<=T):Tb X gd H T where
 n:=I.hok.fresh h
 l:=zj (rE I.lt h)
 z:=sR I.sz h
 c:=λx c e z=>by
  let(v,o,ho,_):=I.cell x c e;rw[z]at ho;exact absurd (rE (jR ho) h) (BH _)
 p:=λp hp z=>by
  have e:=(I.pin p hp).1;rw[z]at e;exact absurd (rE (jR e) h) (BH _)
def j9{i:Nat}{pos:Pos}{Q:Unit->ϋ->Prop}(I:Inv X gd σ H s)(hN:X.N.Nodup)(hi:X.N[i]?=Z x)(hk:BC X x)
  (h:∀s',Inv X gd (σ.set i Y) H s'->Q () s'):wpAny M A (do bindName X.env x .none;unbindBehindTheSuite X.env x pos) Q E s:=by
 let(m,hn,hl):=id I.loc;have yL:(X.env.scope.kind == .class ||(X.env.scope.kind == .module&&X.env.locals != X.env.globals))=false:=by rw[I.ok.kind];rfl
 have cne:=I.cne;refine wpAny_nameGoes_keeps hk hn yL λh' v P hs=>?_
 have sb:∀b o,X.s₀.heap.get? b=Z o->h'.get? b=s.heap.get? b:=λb o e=>hs.2 b (rz (rE (jR e) I.ok.above))
 let(oL,_,_,ak,_):=id hn;refine h _ (I.ok,I.os,I.bare,(λb o e n hb hx=>(sb b o e).trans (I.base.keep b o e n hb hx),λb o e n hb hx=>?_,I.base.free,λb o e hx=>?_,I.base.lL,I.base.jd,I.base.lN),(_,P,λj y v' K g e3=>?_),λy c e=>?_,I.free,I.dO,λp hp=>?_,λb ob e=>?_,by simpa using I.len)
 ·let(sl,K):=I.base.slot b o e n hb hx;exact(sl,(sb b o e).trans K)
 ·let(o',K):=I.base.there b o e hx;exact(o',(sb b o e).trans K)
 ·by_cases V:j=i
  ·subst V;rw[List.getElem?_set]at g
   split at g
   ·split at g <;> cases g
   ·rename_i z;exact absurd U z
  ·rw[M1 (Ne.symm V)]at g;let(u',r',q):=hl j y v' K g e3;refine(u',r',?_);obtain⟨k,e⟩|⟨k,c,e,z⟩:=q
   ·refine .inl (k,?_)
    have:y≠x:=λe=>V (rC hN K (e▸hi))
    simp[this,e]
   ·exact .inr (k,c,e,z.sameBut hs (cne y c e))
 ·let(w',z):=I.cell y c e;exact(w',z.sameBut hs (cne y c e))
 ·let(e,n,ne,nf,d):=I.pin p hp;exact((hs.2 p.1 ne).trans e,n,ne,nf,d)
 ·refine(I.hok b ob e).dj (λc w' hc q=>(hs.2 c ?_).trans q) (λ_ q=>q) λ_ _ q=>q
  intro z;obtain y|y:=hc
  ·rw[<- y,z,I.free]at e;cases e
  ·rw[z,I.free]at y;cases y
end
abbrev TH:=J->J->TS
def PH(X:Cx)(hs:List ExceptHandler)(th:TH):Prop:=∀(gd:List (J×Obj))(s:ϋ)(σ:St)(H:Hp)(D:Ends)(a C T:J)(dx:Option J),Inv X gd σ H s->H a=Z (.ext (XAt a C dx ϊ))->gv s.heap a (.ref C) dx T .none->Tb X gd H T ->
 th a C D σ H->Zc X (handleBy (.ref a) X.env hs) (SP X gd D) X.xe s
def Jf:TH:=λ_ _ _ _ _=>False
def Ends.go(D:Ends)(i:Nat):Ends:={nx:=λσ H=>D.nx (σ.set i Y) H,rt:=D.rt,bk:=λσ H=>D.bk (σ.set i Y) H,ct:=λσ H=>D.ct (σ.set i Y) H}
def hAs(K:BT)(fn:List Str)(C':J)(i:Nat)(ts:TS)(tr:TH):TH:=λa C D σ H=>∃bm ini,bX K fn C bm ini/\((B.ref C::bm).contains (.ref C')=O->ts (D.go i) (σ.set i (Z (.ref a))) H)/\((B.ref C::bm).contains (.ref C')=ϊ->tr a C D σ H)
variable{hs:List ExceptHandler}{gd:List (J×Obj)}{H:Hp}{a:J}{C:J}{dx:Option J}{bm:List B}{ini:Option J}{R:Result->ϋ->Prop}{body:List EQ}
section
variable{X:Cx}{fn:List Str}{C':J}{bm':List B}{wM:Option J}{n:Str}{p pos:Pos}{b0:EQ}{xI:List EQ}{rest:List ExceptHandler}{ts:TS}{tr:TH}{i:Nat}
def HJ:PH X hs Jf:=λ_ _ _ _ _ _ _ _ _ _ _ _ _ h=>h.elim
def L6{s:ϋ}{σ:St}(hg:Gl X x)(hm:X.mg x=Z (.ref C'))(c':bX X.K fn C' bm' wM)(z:AS x)
  (I:Inv X gd σ H s) (ea:H a=Z (.ext (XAt a C dx ϊ))) (c:bX X.K fn C bm ini) (h:R (.ok (if(B.ref C::bm).contains (.ref C')then .brk else .next)) s):
  codeAny (model X.prog X.w) (X.A.mark (Z (.ref a))) (.handlers (.ref a) [.ExceptHandler (Z (.Name x p)) Y [] pos] X.env) R s:=by
 refine codeAny_handlers_test (ka (X:=X.inX a) (I.inX a) hg hm ?_ z);let(nm,q,N,bs,sn,sub,ab,col,dd,k0,k1,k2,k3,k5,mN,hC,_):=c.all s.heap I.kIn;let(nm',q',N',bs',sn',KU,ab',UB,dd',j0,j1,j2,j3,j5,V,Q,_,_,_,T'):=c'.all s.heap I.kIn;let(y,(o,vs,a0,e1,P,_),_):=(I.hok a _ ea).1;let(hh,g,dr,tk,os):=s;exact Qx hC Q e1 P (T'.hasType (by decide)) h
def EI{s:ϋ}{σ:St}{T:J}{Q:Unit->ϋ->Prop}(I:Inv X gd σ H s)(q:H a=Z (.ext (XAt a C dx ϊ)))(al:gv s.heap a (.ref C) dx T .none)(tb:Tb X gd H T)
  (h:∀s',Inv X gd σ H s'->Q () s'):wpAny M A (setFlight (.ref a) Y) Q E s :=
 fO al λh' _ k=>h _ (I.turned (it:=T) (t':=s.toks) (λb o g e=>k.keep b o e (λz=>nomatch z) (λz=>g (fy.mp z))) tb.n tb.l (.inr tb.z) tb.c tb.p)
def Tt(Q:X.N.Nodup)(hi:X.N[i]?=Z n)(hk:BC X n)(hg:Gl X x)(hm:X.mg x=Z (.ref C'))(c':bX X.K fn C' bm' wM)(V:∀a,PSs (X.inX a) (b0::xI) ts)(hr:PH X rest tr)(ak:autoParam (AS x) zdc._auto_1):
  PH X (.ExceptHandler (Z (.Name x p)) (Z n) (b0::xI) pos::rest) (hAs X.K fn C' i ts tr):=by
 intro gd s σ H D a C T dx I ea al tb h;let(bm,ini,c,h1,h2):=h;refine wpAny_handleBy_cons (L6 hg hm c' ak I ea c ?_) (by intro q;cases q)
 cases hz:(B.ref C::bm).contains (.ref C')with
 |true =>
  show codeAny _ _ _ _ _;refine codeAny_handlers_suite_as (EI I ea al tb λs1 I1=>?_)
  refine gJ I1 Q hi (.inl hk) (show RelV (.ref a) (B.ref a)from U) (λs2 I2=>?_) (.inr hk)
  refine Nz (V a gd s2 _ H (D.go i) (I2.inX a) (h1 hz)) (λf s3 q=>?_) λ_ _ z=>False.elim z
  have q:=q.Ea I.ok;cases f with
  |next=>let(g,H',Yy,q):=q;exact j9 Yy Q hi hk λs4 P=>(_,H',P,q)
  |brk=>let(g,H',Yy,q):=q;exact j9 Yy Q hi hk λs4 P=>(_,H',P,q)
  |cont=>let(g,H',Yy,q):=q;exact j9 Yy Q hi hk λs4 P=>(_,H',P,q)
  |ret u=>let(v,g,H',Yy,r,q):=q;exact j9 Yy Q hi hk λs4 P=>(v,_,H',P,r,q)
 |false=>exact hr gd s σ H D a C T dx I ea al tb (h2 hz)
def Sw(th:TH)(tb:(St->XK)->TS):TS:=λD σ H=>tb (λg cls oa H'=>∃a C,cls=.ref C/\oa=Z a/\th a C D g H') D σ H
def P5{th:TH}{tb:(St->XK)->TS}{h0:ExceptHandler}(K:X.stack=X.env::X.outer)(hf:X.env.frame=Z X.env.locals)
  (g:∀(Es:St->XK)(pn:List (J×Obj))(xe:B->ϋ->Prop),kl (CX1 X.prog X.w) (X.oN pn xe) Es->mY (X.oN pn xe) Es->PSs (X.oN pn xe) body (tb Es)) (hh:PH X (h0::hs) th):PS X (.Try body (h0::hs) [] [] pos) (Sw th tb):=by
 right;refine wpAny_Try_except (Nz (g _ (X.pn++gd) (λe aS=>Zc X (noteFrame e X.env) (λ_ s₂=>Zc X (setFlight e Y) (λ_ aP=>Zc X (handleBy e X.env (h0::hs)) (SP X gd D) X.xe aP) X.xe s₂) X.xe aS) ?_ ?_ [] s σ H D (I.oN _) h) (λf s1 q=>?_) λe s1 q=>q)
 ·intro pins' P H1 s1 e s2 I1 hx;let(a,C,dx,T,H',U,a0,hg,un,hok,ea,al,hT,a3,a',C',ec,eo,hE):=hx;cases ec;cases eo;have Yy:=I1.oh I.ok;have J2:=Yy.zc (ch:=[]) a0 un hok hg (λb z=>nomatch z)
  have V:=J2.stack;rw[K]at V;refine rB (base:=X.base) (L:=X.env.locals) (by rw[<- K];exact J2.ok.frames) V hf al λh3 T3 Q ar k3=>?_
  refine fO ar λh4 ak k4=>?_
  have kx:dR ((X.env::X.outer).filterMap (·.frame)) [a,T] s2.heap h4:=k3.trans (k4.mono (λ_ z=>nomatch z) λb z=>z) λb ob q z=>by
   rw[fy.mp z]at q;exact absurd (rE (jR q) Q) (BH _)
  have aA:Un (frs X.stack) [] H1 H' s1.heap h4:=Un.mq un kx (λb g=>by
   obtain z|z:=ot.mp g
   ·rw[z];exact .inl (_,ea)
   ·rw[fy.mp z];exact .inr a3) (λb g=>.inl (by rw[K];exact g)) (λb=>.inl U)
  have aN:HOk X.prog X.w H' h4:=by
   refine HOk.mq (a:=a) J2.hok kx (λb g=>J2.jX b (by rw[K];exact g)) (λb g=>?_) ea (λb g=>rfl) (λo q=>by rw[ea]at q;cases q;exact ak.at.ok) (_,ea)
   obtain z|z:=ot.mp g
   ·exact .inl z
   ·rw[fy.mp z];exact .inr hT
  have J4:Inv X gd P H' {s2 with heap:=h4}:=Yy.zc (s':={s2 with heap:=h4}) (ch:=[]) a0 aA aN hg (λb z=>nomatch z)
  exact hh gd _ P H' D a C T3 dx J4 ea ak (Tb.of J2 Q) hE
 ·intro pins' P H1 s1 a C dx I1 ea hx;let(a',C',ec,eo,hE):=hx;cases ec;cases eo;have Yy:=I1.oh I.ok;obtain⟨y,aT,hy⟩:XAt a C dx O s1.heap:=(Yy.hok a _ ea).1;rw[hy rfl]at aT;have V:=Yy.stack;rw[K]at V;refine ox (base:=X.base) (L:=X.env.locals) (by rw[<- K];exact Yy.ok.frames) V hf aT λh3 T3 Q ar k3=>?_
  refine fO ar λh4 ak k4=>?_
  have kx:dR ((X.env::X.outer).filterMap (·.frame)) [a] s1.heap h4:=k3.trans (k4.mono (λ_ z=>nomatch z) λb z=>z) λb ob q z=>by
   rw[fy.mp z]at q;exact absurd (rE (jR q) Q) (BH _)
  have aA:Un (frs X.stack) [] H1 (upd H1 a (.ext (XAt a C dx ϊ))) s1.heap h4:=Un.mq Un.refl kx (λb g=>by
   rw[fy.mp g];exact .inl (_,ea)) (λb g=>.inl (by rw[K];exact g)) (FI ea)
  have aN:HOk X.prog X.w (upd H1 a (.ext (XAt a C dx ϊ))) h4:=HOk.mq (a:=a) Yy.hok kx (λb g=>Yy.jX b (by rw[K];exact g)) (λb g=>.inl (fy.mp g)) ea (λb g=>aj g) (λo q=>by rw[au]at q;cases q;exact ak.at.ok) (_,au)
  have J4:Inv X gd P (upd H1 a (.ext (XAt a C dx ϊ))) {s1 with heap:=h4}:=Yy.zc (s':={s1 with heap:=h4}) (ch:=[]) U aA aN Yy.bare (λb z=>nomatch z)
  have tb:=Tb.of Yy Q;exact hh gd _ P _ D a C T3 dx J4 au ak (by rw[aj ar.1];exact tb.n,tb.l,tb.z,tb.c,tb.p) hE
 ·have q:=q.oh I.ok;cases f with
  |next=>exact wpAny_execs_nil q
  |brk=>exact q
  |cont=>exact q
  |ret u=>exact q
end
def zZ(sp:Sp)(Es:St->XK)(t:TA):TE:=λσ H Q=>t σ H λvs H1=>sp vs H1 Q (Es σ)
variable{st:EQ}
section
variable{X:Cx}{CX:CXT}{k:Nat}{f:J}{fd:Ch}{ps:List Str}{sp:Sp}{Es:St->XK}{p pos:Pos}{es:List Ev}{t:TA}
theorem HV(F:bf X.prog X.w X.K X.mg X.base CX k f fd ps sp)(hr:cK k X.A)(hg:Gl X x)(hm:X.mg x=Z (.ref f))(hk:W.keepIn X.K (.ref f)=O)(hb:Binds X.K fd ps [])(hx:kl CX X Es)
  (ha:PA X (e::es) t) (V:autoParam (AS x) zdc._auto_1) (he:‹AC X e es›) (P:‹AM X pos es›):
  PE X (.Call (.Name x p) (e::es) [] pos) (zZ sp Es t):=by
 left;refine RZ (ka I hg hm ?_ V);refine W.callWith_K (h₀:=X.base) I.ok.mod.kin hk (thn (ha pos gd s σ H _ I h) λus s1 (vs,H1,z,r,q)=>(z.kIn,?_)) he P
 have hl:(us ++ []).length=ps.length:=by rw[qg,<- r.length];exact F.len _ _ _ _ q
 have g:=hb s1 us z.kIn hl;rw[qg]at g;refine wpAny_call (codeAny_mono (F.run X.A X.stack s1 H1 (us,[]) us vs Q (Es σ) hr z.Na g r q) λr s' hq=>?_)
 cases r with
 |error e=>exact hx gd σ H1 s1 e s' z hq
 |ok fl =>
  cases fl with
  |ret u=>exact z.after hq
  |next=>exact False.elim hq
  |brk=>exact False.elim hq
  |cont=>exact False.elim hq
theorem Fun.okX{w:Cl}{K:BT}{f:J}{k:Nat}(F:Fun K x qual st f fd)(S:aG N ps (aw st))(len:∀vs H Q E,sp vs H Q E->vs.length=ps.length)
  (z:∀(cdv:B)(A:Db)(outer:List Env)(s:ϋ)(H:Hp)(vs:List V)(Q:VK)(E:XK),cK k (A.deeper (envOfC qual (aw st) s.heap.objs.size f cdv))->sp vs H Q E ->
   ∃t,PSs (nS (CX1 P w) P w K mg base N qual (aw st) f cdv A outer s H E) (bP st) t/\t {nx:=λ_ H'=>Q .non H',rt:=Q} (start N vs) H):bf P w K mg base (CX1 P w) (k+1) f fd ps sp:=by
 let(oc,od,kV,doc,pm,an,cdv,ct,osl,U,lk,q):=F.ex;exact Ow lk q S len λA outer s H vs Q E hr g=>z cdv A outer s H vs Q E hr g
end
def len0{P:List B->Prop}(h:P [])(us:List B)(e:us.length=0):P us:=by rw[uy.mp e];exact h
def TX{P:List B->Prop}(h:∀a,P [a])(us:List B)(e:us.length=1):P us:=by
 cases us with
 |nil=>cases e
 |cons a r=>exact len0 (P:=λr=>P (a::r)) (h a) r (Nat.succ.inj e)
def TV{P:List B->Prop}(h:∀a b,P [a,b])(us:List B)(e:us.length=2):P us:=by
 cases us with
 |nil=>cases e
 |cons a r=>exact TX (P:=λr=>P (a::r)) (h a) r (Nat.succ.inj e)
def TU{P:List B->Prop}(h:∀a b c,P [a,b,c])(us:List B)(e:us.length=3):P us:=by
 cases us with
 |nil=>cases e
 |cons a r=>exact TV (P:=λr=>P (a::r)) (h a) r (Nat.succ.inj e)
def TR{P:List B->Prop}(h:∀a b c d,P [a,b,c,d])(us:List B)(e:us.length=4):P us:=by
 cases us with
 |nil=>cases e
 |cons a r=>exact TU (P:=λr=>P (a::r)) (h a) r (Nat.succ.inj e)
def TQ{P:List B->Prop}(h:∀a b c d e,P [a,b,c,d,e])(us:List B)(e:us.length=5):P us:=by
 cases us with
 |nil=>cases e
 |cons a r=>exact TR (P:=λr=>P (a::r)) (h a) r (Nat.succ.inj e)
set_option genInjectivity true in
inductive T where
 |n|b (x:Bool)|i (x:Int)|s (x:Str)|t (xs:List T)|l (xs:List T)|d (ks:List (Key×T))|dw|z (ns:List Int)|ty (x:String)|k (ws:List Str)|q|fd (o:Obj) (vs:List (Key×V)) (ks:List (Key×T))|xc (C:J) (ns:List Str) (ts:List T)|rm (u:Int)|ob (C:J) (ns:List Str) (ts:List T)|dp (a:J) (ks:List (Key×T))|lp (a:J) (xs:List T)|zl (xs:List T)|rf (a:J)|om (a C:J) (ns:List Str) (ts:List T)|fz (u:HO)
abbrev Dl:=List (J×J)
def FzL(K:BT)(H:Hp)(a:J)(xs:List V):Prop:=(∃o,H a=Z (.frz o (.lst xs))) \/
  ∃(o:Obj)(its:Array B)(n:Nat),K.lookup a=Z o/\o.cls=.type "list" /\ o.dict=Y/\o.data=.seq its n/\its.size<=pq/\Vals xs its.toList
theorem FzL.sq{K:BT}{xs:List V}(h:FzL K H a xs):SqL K H a xs:=by
 obtain h|h:=h
 ·exact .inl (.inr h)
 ·exact .inr h
def xo(a C dx:J)(h:Do):Prop:=h.get? a=Z (W.instObj C dx)
inductive ObH(H:Hp)(a C:J)(fs:List (Str×V)):Prop
 |mk(dx:_)(h1:dx≠a)(h2:H a=Z (.ext (xo a C dx)))(h3:H dx=Z (.ext (XD dx fs)))
mutual
inductive aI(K:BT)(dl:Dl)(H:Hp):V->T->List J->Prop where
 |n:aI K dl H .non .n []
 |b(x:Bool):aI K dl H (.bl x) (.b x) []
 |i(x:Int):aI K dl H (.int x) (.i x) []
 |s(x:Str):aI K dl H (.str x) (.s x) []
 |ty(x:String):aI K dl H (.ty x) (.ty x) []
 |t{a:J}{vs:List V}{ts:List T}{F:List J}:H a=Z (.tup vs)->ay K dl H vs ts F->aI K dl H (.ref a) (.t ts) F
 |l{a:J}{vs:List V}{ts:List T}{F:List J}:H a=Z (.lst vs)->ay K dl H vs ts F->aI K dl H (.ref a) (.l ts) (a::F)
 |d{a:J}{vs:List (Key×V)}{ts:List (Key×T)}{F:List J}:H a=Z (.dK vs)->a9 K dl H vs ts F->aI K dl H (.ref a) (.d ts) (a::F)
 |x{a l:J}:(a,l)∈dl->aI K dl H (.ref a) .dw []
 |z{a:J}{ns:List Int}:FzL K H a (ns.map V.int)->aI K dl H (.ref a) (.z ns) []
 |q{a:J}{xs:List V}:H a=Z (.lst xs)->aI K dl H (.ref a) .q []
 |fd{a:J}{o:Obj}{vs:List (Key×V)}{ts:List (Key×T)}:H a=Z (.frz o (.dK vs))->a9 K dl H vs ts []->aI K dl H (.ref a) (.fd o vs ts) []
 |k{a:J}{ws:List Str}:(∀H':Hp,SqT K H' a (ws.map V.str))->aI K dl H (.ref a) (.k ws) []
 |e{a C:J}{b:Bool}{ns:List Str}{vs:List V}{ts:List T}:ExH H a C b (ns.zip vs)->ay K dl H vs ts []->aI K dl H (.ref a) (.xc C ns ts) []
 |rm{a:J}{x u:Int}:H a=Z (.room x)->x<=u->aI K dl H (.ref a) (.rm u) []
 |ob{a C:J}{ns:List Str}{vs:List V}{ts:List T}:ObH H a C (ns.zip vs)->ay K dl H vs ts []->aI K dl H (.ref a) (.ob C ns ts) []
 |dp{a:J}{vs:List (Key×V)}{ts:List (Key×T)}{F:List J}:H a=Z (.dK vs)->a9 K dl H vs ts F->aI K dl H (.ref a) (.dp a ts) (a::F)
 |lp{a:J}{vs:List V}{ts:List T}{F:List J}:H a=Z (.lst vs)->ay K dl H vs ts F->aI K dl H (.ref a) (.lp a ts) (a::F)
 |zl{a:J}{o:Obj}{vs:List V}{ts:List T}:H a=Z (.frz o (.lst vs))->ay K dl H vs ts []->aI K dl H (.ref a) (.zl ts) []
 |rf(a:J):aI K dl H (.ref a) (.rf a) []
 |om{a C dx:J}{ns:List Str}{vs:List V}{ts:List T}{F:List J}:H a=Z (.ins C dx (ns.zip vs))->H dx=Z (.own a)->ns.length=ts.length->ay K dl H vs ts F->aI K dl H (.ref a) (.om a C ns ts) (a::dx::F)
 |fz{a:J}{o:Obj}{u:HO}:H a=Z (.frz o u)->aI K dl H (.ref a) (.fz u) []
inductive ay(K:BT)(dl:Dl)(H:Hp):List V->List T->List J->Prop where
 |nil:ay K dl H [] [] []
 |cons{v:V}{x:T}{vs:List V}{ts:List T}{F G:List J}:aI K dl H v x F->ay K dl H vs ts G->ay K dl H (v::vs) (x::ts) (F++G)
inductive a9(K:BT)(dl:Dl)(H:Hp):List (Key×V)->List (Key×T)->List J->Prop where
 |nil:a9 K dl H [] [] []
 |cons{k:Key}{v:V}{x:T}{vs:List (Key×V)}{ts:List (Key×T)}{F G:List J}:aI K dl H v x F->a9 K dl H vs ts G->a9 K dl H ((k,v)::vs) ((k,x)::ts) (F++G)
end
def HO.mt:HO->Bool
 |.lst _=>O
 |.dK _=>O
 |.ins _ _ _=>O
 |.own _=>O
 |_=>ϊ
inductive gq(H:Hp)(b:J):Prop
 |mk(o:_)(h1:H b=Z o)(h2:o.mt=O)
def gq.no{b:J}(h:gq H b)(e:H b=Y):False:=by
 let(_,h,_):=h;rw[e]at h;cases h
structure TF(H H':Hp):Prop where
 t:∀a vs,H a=Z (.tup vs)->H' a=Z (.tup vs)
 f:∀a o u,H a=Z (.frz o u)->H' a=Z (.frz o u)
 x:∀a φ,H a=Z (.ext φ)->H' a=Z (.ext φ)
 q:∀a xs,H a=Z (.lst xs)->∃ys,H' a=Z (.lst ys)
 r:∀a x,H a=Z (.room x)->∃y,y<=x/\H' a=Z (.room y)
variable{H':Hp}
def ObH.tf{fs:List (Str×V)}(h:ObH H a C fs)(k:TF H H'):ObH H' a C fs:=by
 let(d,h1,h2,h3):=h;exact(d,h1,k.x _ _ h2,k.x _ _ h3)
def ExH.tf{b:Bool}{fs:List (Str×V)}(h:ExH H a C b fs)(k:TF H H'):ExH H' a C b fs:=by
 obtain⟨h1,h2⟩|⟨d,h1,h2,h3⟩:=h
 ·exact .inl (h1,k.x _ _ h2)
 ·exact .inr (d,h1,k.x _ _ h2,k.x _ _ h3)
theorem FzL.tf{K:BT}{vs:List V}(h:FzL K H a vs)(k:TF H H'):FzL K H' a vs:=by
 obtain⟨o,h⟩|h:=h
 ·exact .inl (o,k.f _ _ _ h)
 ·exact .inr h
def bN{α:Type}{p:α->Prop}:∀b∈([]:List α),p b:=λ_ h=>absurd h x2
variable{dl:Dl}{dl':Dl}
theorem aI.dj{K:BT}(k:TF H H')(hd:∀p∈dl,p∈dl'){v:V}{t:T}{F:List J}(h:aI K dl H v t F):(∀b∈F,∀o,H b=Z o->H' b=Z o)->aI K dl' H' v t F :=
 aI.rec (motive_2:=λv t F _=>(∀b∈F,∀o,H b=Z o->H' b=Z o)->ay K dl' H' v t F) (motive_3:=λv t F _=>(∀b∈F,∀o,H b=Z o->H' b=Z o)->a9 K dl' H' v t F)
  (λ_=>.n) (λx _=>.b x) (λx _=>.i x) (λx _=>.s x) (λx _=>.ty x) (λh _ g q=>.t (k.t _ _ h) (g q))
  (λh _ g q=>.l (q _ lD _ h) (g λb P=>q b (g5 _ P))) (λh _ g q=>.d (q _ lD _ h) (g λb P=>q b (g5 _ P)))
  (λh _=>.x (hd _ h)) (λh _=>.z (h.tf k)) (λh _=>Exists.elim (k.q _ _ h) λ_ e=>.q e) (λh _ g _=>.fd (k.f _ _ _ h) (g bN)) (λh _=>.k h) (λh _ g _=>.e (h.tf k) (g bN))
  (λh hx _=>Exists.elim (k.r _ _ h) λ_ e=>.rm e.2 (Yk e.1 hx)) (λh _ g _=>.ob (h.tf k) (g bN)) (λh _ g q=>.dp (q _ lD _ h) (g λb P=>q b (g5 _ P))) (λh _ g q=>.lp (q _ lD _ h) (g λb P=>q b (g5 _ P))) (λh _ g _=>.zl (k.f _ _ _ h) (g bN)) (λa _=>.rf a) (λh1 h2 h3 _ g q=>.om (q _ lD _ h1) (q _ (g5 _ lD) _ h2) h3 (g λb P=>q b (g5 _ (g5 _ P)))) (λh _=>.fz (k.f _ _ _ h))
  (λ_=>.nil) (λ_ _ i1 i2 q=>.cons (i1 λb P=>q b (p7 _ P)) (i2 λb P=>q b (pA _ P)))
  (λ_=>.nil) (λ_ _ i1 i2 q=>.cons (i1 λb P=>q b (p7 _ P)) (i2 λb P=>q b (pA _ P))) h
@[elab_as_elim]
theorem ay.ind{K:BT}{M:List V->List T->List J->Prop}(nil:M [] [] [])(cons:∀v x vs ts F G,aI K dl H v x F->ay K dl H vs ts G->M vs ts G->M (v::vs) (x::ts) (F++G)){vs:List V}{ts:List T}{F:List J}(h:ay K dl H vs ts F):M vs ts F :=
 ay.rec (motive_1:=λ_ _ _ _=>True) (motive_3:=λ_ _ _ _=>True) trivial (λ_=>trivial) (λ_=>trivial) (λ_=>trivial) (λ_=>trivial) (λ_ _ _=>trivial) (λ_ _ _=>trivial) (λ_ _ _=>trivial)
  (λ_=>trivial) (λ_=>trivial) (λ_=>trivial) (λ_ _ _=>trivial) (λ_=>trivial) (λ_ _ _=>trivial) (λ_ _=>trivial) (λ_ _ _=>trivial) (λ_ _ _=>trivial) (λ_ _ _=>trivial) (λ_ _ _=>trivial) (λ_=>trivial) (λ_ _ _ _ _=>trivial) (λ_=>trivial) nil (λh r _ g=>cons _ _ _ _ _ _ h r g) trivial (λ_ _ _ _=>trivial) h
@[elab_as_elim]
theorem a9.ind{K:BT}{M:List (Key×V)->List (Key×T)->List J->Prop}(nil:M [] [] [])(cons:∀k v x vs ts F G,aI K dl H v x F->a9 K dl H vs ts G->M vs ts G->M ((k,v)::vs) ((k,x)::ts) (F++G)){vs:List (Key×V)}{ts:List (Key×T)}{F:List J}(h:a9 K dl H vs ts F):M vs ts F :=
 a9.rec (motive_1:=λ_ _ _ _=>True) (motive_2:=λ_ _ _ _=>True) trivial (λ_=>trivial) (λ_=>trivial) (λ_=>trivial) (λ_=>trivial) (λ_ _ _=>trivial) (λ_ _ _=>trivial) (λ_ _ _=>trivial)
  (λ_=>trivial) (λ_=>trivial) (λ_=>trivial) (λ_ _ _=>trivial) (λ_=>trivial) (λ_ _ _=>trivial) (λ_ _=>trivial) (λ_ _ _=>trivial) (λ_ _ _=>trivial) (λ_ _ _=>trivial) (λ_ _ _=>trivial) (λ_=>trivial) (λ_ _ _ _ _=>trivial) (λ_=>trivial) trivial (λ_ _ _ _=>trivial) nil (λh r _ g=>cons _ _ _ _ _ _ _ h r g) h
theorem ay.dj{K:BT}{dl dl':Dl}{H H':Hp}(k:TF H H')(hd:∀p∈dl,p∈dl'){vs:List V}{ts:List T}{F:List J}(h:ay K dl H vs ts F):(∀b∈F,∀o,H b=Z o->H' b=Z o)->ay K dl' H' vs ts F :=
 h.ind (λ_=>.nil) (λ_ _ _ _ _ _ h _ z q=>.cons (h.dj k hd λb g=>q b (p7 _ g)) (z λb g=>q b (pA _ g)))
theorem a9.dj{K:BT}{dl dl':Dl}{H H':Hp}(k:TF H H')(hd:∀p∈dl,p∈dl'){vs:List (Key×V)}{ts:List (Key×T)}{F:List J}(h:a9 K dl H vs ts F):(∀b∈F,∀o,H b=Z o->H' b=Z o)->a9 K dl' H' vs ts F :=
 h.ind (λ_=>.nil) (λ_ _ _ _ _ _ _ h _ z q=>.cons (h.dj k hd λb g=>q b (p7 _ g)) (z λb g=>q b (pA _ g)))
variable{G:List J}
def nq{F:List J}(h:∀b∈F,gq H b)(r:∀b∈G,gq H b):∀b∈F++G,gq H b:=λb g=>(nZ.mp g).elim (h b) (r b)
theorem aI.there{K:BT}{v:V}{t:T}{F:List J}(h:aI K dl H v t F):∀b∈F,gq H b :=
 aI.rec
  bN (λ_=>bN) (λ_=>bN) (λ_=>bN) (λ_=>bN) (λ_ _ g=>g)
  (λh _ g b q=>(ot.mp q).elim (λe=>by rw[e];exact(_,h,U)) (g b)) (λh _ g b q=>(ot.mp q).elim (λe=>by rw[e];exact(_,h,U)) (g b))
  (λ_=>bN) (λ_=>bN) (λ_=>bN) (λ_ _ _=>bN) (λ_=>bN) (λ_ _ _=>bN)
  (λ_ _=>bN) (λ_ _ _=>bN) (λh _ g b q=>(ot.mp q).elim (λe=>by rw[e];exact(_,h,U)) (g b)) (λh _ g b q=>(ot.mp q).elim (λe=>by rw[e];exact(_,h,U)) (g b)) (λ_ _ _=>bN) (λ_=>bN) (λh1 h2 _ _ g b q=>(ot.mp q).elim (λe=>by rw[e];exact(_,h1,U)) λq=>(ot.mp q).elim (λe=>by rw[e];exact(_,h2,U)) (g b)) (λ_=>bN)
  bN (λ_ _ i1 i2=>nq i1 i2) bN (λ_ _ i1 i2=>nq i1 i2) h
theorem ay.there{K:BT}{dl:Dl}{H:Hp}{vs:List V}{ts:List T}{F:List J}(h:ay K dl H vs ts F):∀b∈F,gq H b:=h.ind bN (λ_ _ _ _ _ _ h _ g=>nq h.there g)
def Nd(dl:Dl)(b:J):Prop:=∀p∈dl,b≠p.1/\b≠p.2
def Dls(dl:Dl)(H:Hp):Prop:=∀p∈dl,m7 H p.1 p.2
variable{o:HO}
def Dls.nd(D:Dls dl H){b:J}(h:H b=Z o)(h1:∀xs,o ≠ .lst xs)(h2:∀ks,o ≠ .dK ks):Nd dl b:=λp hp=>by
 let(s,n,ls,Q):=D p hp;exact(gT h Q.hd (h2 _),gT h Q.hl (h1 _))
def Dls.nd0(D:Dls dl H){b:J}(h:H b=Y):Nd dl b:=λp hp=>by
 let(s,n,ls,Q):=D p hp;exact((aL Q.hd h).symm,(aL Q.hl h).symm)
def NR(o:HO):Prop:=∀x,o ≠ .room x
structure Evo(dl:Dl)(H H':Hp):Prop where
 k:∀b o,H b=Z o->Nd dl b->NR o->H' b=Z o
 d:Dls dl H'
 r:∀a x,H a=Z (.room x)->∃y,y<=x/\H' a=Z (.room y)
def NR.of{b:J}(h:gq H b)(e:H b=Z o):NR o:=λx z=>by
 let(_,h,m):=h;rw[e,z]at h;cases h;cases m
def Evo.refl(D:Dls dl H):Evo dl H H:=(λ_ _ h _ _=>h,D,λ_ x h=>(x,Wj _,h))
variable{H1:Hp}{H2:Hp}
def Evo.trans(a:Evo dl H H1)(b:Evo dl H1 H2):Evo dl H H2:=(λc o h n r=>b.k c o (a.k c o h n r) n r,b.d,λc x h=>let(y,q,e):=a.r c x h;let(z,g,K):=b.r c y e;(z,Yk g q,K))
def Evo.tf(e:Evo dl H H')(D:Dls dl H):TF H H' :=
 (λa vs h=>e.k a _ h (D.nd h (λ_ z=>nomatch z) λ_ z=>nomatch z) (λ_ z=>nomatch z),λa o u h=>e.k a _ h (D.nd h (λ_ z=>nomatch z) λ_ z=>nomatch z) (λ_ z=>nomatch z),λa φ h=>e.k a _ h (D.nd h (λ_ z=>nomatch z) λ_ z=>nomatch z) (λ_ z=>nomatch z),λa xs h=>(by
  by_cases hn:Nd dl a
  ·exact(xs,e.k a _ h hn (λ_ z=>nomatch z))
  ·obtain⟨p,hp,z⟩:∃p∈dl,¬(a≠p.1/\a≠p.2):=Classical.byContradiction λc=>hn λp hp=>Classical.byContradiction λz=>c (p,hp,z)
   let(s,n,ls,Q):=D p hp;let(s',q,ls',Q'):=e.d p hp;have h1:=gT h Q.hd (λz=>nomatch z)
   have h2:=Classical.byContradiction λg=>z (h1,g)
   exact(_,by rw[h2];exact Q'.hl)),e.r)
theorem Evo.new{p:J}(e:Evo dl H H1)(hp:H1 p=Y):Evo dl H (upd H1 p o) :=
 (λc u h n r=>by rw[aj (aL (e.k c u h n r) hp)];exact e.k c u h n r,λq hq=>(e.d q hq).new hp,λc x h=>let(y,z,g):=e.r c x h;(y,z,by rw[aj (aL g hp)];exact g))
def Evo.free(e:Evo dl H H'){p:J}(hp:H' p=Y):H p=none:=by
 cases q:H p with
 |none=>rfl
 |some o =>
  by_cases hn:NR o
  ·rw[e.k p o q (e.d.nd0 hp) hn]at hp;cases hp
  ·obtain⟨x,hx⟩:∃x,o=.room x:=Classical.byContradiction λc=>hn λx z=>c (x,z)
   subst hx;let(y,_,g):=e.r p x q;rw[g]at hp;cases hp
structure Rp(K:BT)(dl:Dl)(H:Hp)(v:V)(t:T)(F:List J):Prop where
 r:aI K dl H v t F
 n:∀b∈F,Nd dl b
structure Rps(K:BT)(dl:Dl)(H:Hp)(vs:List V)(ts:List T)(F:List J):Prop where
 r:ay K dl H vs ts F
 n:∀b∈F,Nd dl b
theorem Rp.evo{K:BT}{v:V}{t:T}{F:List J}(h:Rp K dl H v t F)(D:Dls dl H)(e:Evo dl H H'):Rp K dl H' v t F :=
 (h.r.dj (e.tf D) (λ_ q=>q) λb g o q=>e.k b o q (h.n b g) (.of (h.r.there b g) q),h.n)
theorem Rps.evo{K:BT}{v:List V}{t:List T}{F:List J}(h:Rps K dl H v t F)(D:Dls dl H)(e:Evo dl H H'):Rps K dl H' v t F :=
 (h.r.dj (e.tf D) (λ_ q=>q) λb g o q=>e.k b o q (h.n b g) (.of (h.r.there b g) q),h.n)
inductive Sl where
 |no|o (t:T)|r (t:T)
abbrev Sq:=List Sl
def Sl.get:Sl->Option T
 |.no=>Y
 |.o t=>Z t
 |.r t=>Z t
structure RdR(K:BT)(dl:Dl)(H:Hp)(σ:St)(q:Sq):Prop where
 d:Dls dl H
 g:∀(i:Nat)(x:Sl)(t:T),q[i]?=Z x->x.get=Z t->∃v F,σ[i]?=Z (Z v)/\Rp K dl H v t F
theorem RdR.evo{K:BT}{dl:Dl}{H H':Hp}{σ:St}{q:Sq}(h:RdR K dl H σ q)(e:Evo dl H H'):RdR K dl H' σ q :=
 (e.d,λi x t h1 h2=>let(v,F,h3,h4):=h.g i x t h1 h2;(v,F,h3,h4.evo h.d e))
abbrev QE:=Sq->(T->Prop)->Prop
abbrev QT:=Sq->(Bool->Prop)->Prop
abbrev QA:=Sq->(List T->Prop)->Prop
def fY(K:BT)(te:TE)(tq:QE):Prop:=∀(dl:Dl)(H:Hp)(σ:St)(q:Sq)(Q:T->Prop)(R:V->Hp->Prop),RdR K dl H σ q->tq q Q ->
 (∀v t F H',Evo dl H H'->Rp K dl H' v t F->Q t->R v H')->te σ H R
def gH(K:BT)(te:TE)(tq:QE):Prop:=∀(dl:Dl)(H:Hp)(σ:St)(q:Sq)(Q:T->Prop)(R:V->Hp->Prop),RdR K dl H σ q->tq q Q ->
 (∀v t F H',Evo dl H H'->Rp K dl H' v t F->(∀b∈F,H b=Y)->F.Nodup->Q t->R v H')->te σ H R
def lu(K:BT)(te:TT)(tq:QT):Prop:=∀(dl:Dl)(H:Hp)(σ:St)(q:Sq)(Q:Bool->Prop)(R:Bool->Hp->Prop),RdR K dl H σ q->tq q Q ->
 (∀b H',Evo dl H H'->Q b->R b H')->te σ H R
def JS(K:BT)(n:Nat)(te:TA)(tq:QA):Prop:=∀(dl:Dl)(H:Hp)(σ:St)(q:Sq)(Q:List T->Prop)(R:List V->Hp->Prop),RdR K dl H σ q->tq q Q ->
 (∀vs ts F H',Evo dl H H'->Rps K dl H' vs ts F->vs.length=n->Q ts->R vs H')->te σ H R
def UT(K:BT)(n:Nat)(te:TA)(tq:QA):Prop:=∀(dl:Dl)(H:Hp)(σ:St)(q:Sq)(Q:List T->Prop)(R:List V->Hp->Prop),RdR K dl H σ q->tq q Q ->
 (∀vs ts F H',Evo dl H H'->Rps K dl H' vs ts F->vs.length=n->(∀b∈F,H b=Y)->F.Nodup->Q ts->R vs H')->te σ H R
structure QPE(X:Cx)(K:BT)(e:Ev)(te:TE)(tq:QE):Prop where
 h:PE X e te
 s:fY K te tq
structure QPF(X:Cx)(K:BT)(e:Ev)(te:TE)(tq:QE):Prop where
 h:PE X e te
 s:gH K te tq
structure QPT(X:Cx)(K:BT)(e:Ev)(te:TT)(tq:QT):Prop where
 h:PT X e te
 s:lu K te tq
structure QPW(X:Cx)(K:BT)(e:Ev)(te:TT)(tq:QT):Prop where
 h:PW X e te
 s:lu K te tq
structure QPA(X:Cx)(K:BT)(es:List Ev)(te:TA)(tq:QA):Prop where
 h:PA X es te
 s:JS K es.length te tq
structure xn(X:Cx)(K:BT)(es:List Ev)(te:TA)(tq:QA):Prop where
 h:PA X es te
 s:UT K es.length te tq
variable{ws:List Str}
section
variable{X:Cx}{K:BT}{a b:Ev}{ta tb:TE}{qa qb qe:QE}{pos:Pos}
def Za(h:QPF X K e te qe):QPE X K e te qe:=(h.h,λdl H σ q Q R rd hq k=>h.s dl H σ q Q R rd hq λv t F H' e r _ _ z=>k v t F H' e r z)
mutual
def T.im:T->Bool
 |.t xs=>T.ims xs
 |.l _=>ϊ
 |.d _=>ϊ
 |.dp _ _=>ϊ
 |.lp _ _=>ϊ
 |.om _ _ _ _=>ϊ
 |_=>O
def T.ims:List T->Bool
 |[]=>O
 |x::r=>x.im&&T.ims r
end
def Bb{F:List J}{x y:Bool}(h:x=O->F=[])(r:y=O->G=[])(q:(x&&y)=O):F++G=[]:=by rw[h (sU _ _▸q).1,r (sU _ _▸q).2];rfl
theorem aI.im{dl:Dl}{H:Hp}{v:V}{t:T}{F:List J}(h:aI K dl H v t F):t.im=O->F=[] :=
 aI.rec (motive_3:=λ_ _ _ _=>True)
  (λ_=>rfl) (λ_ _=>rfl) (λ_ _=>rfl) (λ_ _=>rfl) (λ_ _=>rfl) (λ_ _ g=>g) (λ_ _ _ h=>absurd h sQ) (λ_ _ _ h=>absurd h sQ)
  (λ_ _=>rfl) (λ_ _=>rfl) (λ_ _=>rfl) (λ_ _ _ _=>rfl) (λ_ _=>rfl) (λ_ _ _ _=>rfl) (λ_ _ _=>rfl) (λ_ _ _ _=>rfl) (λ_ _ _ h=>absurd h sQ) (λ_ _ _ h=>absurd h sQ) (λ_ _ _ _=>rfl) (λ_ _=>rfl) (λ_ _ _ _ _ h=>absurd h sQ) (λ_ _=>rfl) (λ_=>rfl) (λ_ _ i1 i2=>Bb i1 i2) trivial (λ_ _ _ _=>trivial) h
theorem ay.im{dl:Dl}{H:Hp}{v:List V}{t:List T}{F:List J}(h:ay K dl H v t F):T.ims t=O->F=[]:=h.ind (λ_=>rfl) (λ_ _ _ _ _ _ h _ g=>Bb h.im g)
inductive Ex2{α:Type}(p:α->Prop)(Q:α->Prop):Prop
 |mk(x:α)(h:p x)(k:Q x)
inductive Ex3{α β:Type}(p:α->Prop)(g:α->β)(Q:β->Prop):Prop
 |mk(x:α)(h:p x)(k:Q (g x))
inductive Ex4{α β:Type}(p r:α->Prop)(g:α->β)(Q:β->Prop):Prop
 |mk(x:α)(h:p x)(h2:r x)(k:Q (g x))
def on1(ts:List T)(P:T->Prop):Prop:=match ts with|[t]=>P t|_=>False
def on1.inv{ts:List T}{P:T->Prop}(h:on1 ts P):∃t,ts=[t]/\P t:=by
 cases ts with
 |nil=>exact h.elim
 |cons t r=>cases r with
  |nil=>exact(t,U,h)
  |cons=>exact h.elim
def on2(ts:List T)(P:T->T->Prop):Prop:=match ts with|[t,u]=>P t u|_=>False
def on2.inv{ts:List T}{P:T->T->Prop}(h:on2 ts P):∃t u,ts=[t,u]/\P t u:=by
 cases ts with
 |nil=>exact h.elim
 |cons t r=>cases r with
  |nil=>exact h.elim
  |cons u r=>cases r with
   |nil=>exact(t,u,U,h)
   |cons=>exact h.elim
def qIm(qe:QE):QE:=λq Q=>qe q λt=>t.im=O/\Q t
theorem Zb(h:QPE X K e te qe):QPF X K e te (qIm qe):=(h.h,λdl H σ q Q R rd hq k=>h.s dl H σ q _ R rd hq λv t F H' e r (P,g)=>by
 have f:=r.r.im P;subst f;exact k v t [] H' e r (λ_ z=>nomatch z) n6 g)
def aY(i:Nat):QE:=λq Q=>match q[i]? with
 |some (.o t)=>Q t
 |some (.r t)=>Q t
 |_=>False
def KY(i:Nat):fY K (bZ i) (aY i):=by
 intro dl H σ q Q R rd hq k;unfold aY at hq
 split at hq
 ·rename_i t e;let(v,F,h1,h2):=rd.g i _ t e U;exact(v,h1,k v t F H (.refl rd.d) h2 hq)
 ·rename_i t e;let(v,F,h1,h2):=rd.g i _ t e U;exact(v,h1,k v t F H (.refl rd.d) h2 hq)
 ·exact hq.elim
def qv(i:Nat){pos:Pos}(q:‹X.N[i]?=Z x›)(hv:Vis X.env.scope x:=by first|exact Or.inl rfl|exact Or.inr (Or.inl U)|exact Or.inr (Or.inr U))(hd:autoParam (AS x) zdc._auto_1)
  (g:autoParam ((x ==("__classdict__":Str))=false) zdc._auto_1):QPE X K (.Name x pos) (bZ i) (aY i):=(HL q hv hd g,KY i)
def qC(t:T):QE:=λ_ Q=>Q t
def uG{v:V}{t:T}(h:∀dl H,aI K dl H v t []):gH K (tC v) (qC t):=λdl H σ q Q R rd hq k=>k v t [] H (.refl rd.d) (h dl H,λ_ z=>nomatch z) (λ_ z=>nomatch z) n6 hq
def bp{i j pos}:QPF X K (.Constant (.int i) j pos) (tC (.int i)) (qC (.i i)):=(bD,uG λ_ _=>.i i)
def qU{b j pos}:QPF X K (.Constant (.bool b) j pos) (tC (.bl b)) (qC (.b b)):=(Tx,uG λ_ _=>.b b)
def dG{j pos}:QPF X K (.Constant .none j pos) (tC .non) (qC .n):=(Qk,uG λ_ _=>.n)
def aH{x j pos}:QPF X K (.Constant (.str x) j pos) (tC (.str x)) (qC (.s x)):=(di,uG λ_ _=>.s x)
def NQ{n:String}{pos:Pos}(hg:Gl X x)(hm:X.mg x=Y)(hv:bootBuiltins x=Z (.type n))(hn:autoParam (x ≠ "__name__") zdc._auto_1)(hd:autoParam (AS x) zdc._auto_1):QPF X K (.Name x pos) (tC (.ty n)) (qC (.ty n)) :=
 (Cj hg hm hv U hn hd,uG λ_ _=>.ty n)
theorem kO{dl:Dl}{H:Hp}:∀(ws:List Str),ay K dl H (ws.map V.str) (ws.map T.s) []
 |[]=>.nil
 |w::r=>.cons (.s w) (kO r)
theorem qP{dl:Dl}{H:Hp}:∀(ws:List Int),ay K dl H (ws.map V.int) (ws.map T.i) []
 |[]=>.nil
 |w::r=>.cons (.i w) (qP r)
def Hb{y:J}{pos:Pos}(hg:Gl X x)(hm:X.mg x=Z (.ref y))(hk:∀H,SqT K H y (ws.map V.str))(hd:autoParam (AS x) zdc._auto_1):QPF X K (.Name x pos) (tC (.ref y)) (qC (.k ws)) :=
 (rh hg hm hd,uG λdl H=>.k hk)
abbrev Q2:=T->T->(T->Prop)->Prop
def JR(K:BT)(r:R2)(rq:Q2):Prop:=∀(dl:Dl)(H:Hp)(x y:V)(t u:T)(F G:List J)(Q:T->Prop)(R:V->Hp->Prop),Dls dl H->Rp K dl H x t F->Rp K dl H y u G->rq t u Q ->
 (∀v z F' H',Evo dl H H'->Rp K dl H' v z F'->Q z->R v H')->r x y H R
def dy(K:BT)(r:R2)(rq:Q2):Prop:=∀(dl:Dl)(H:Hp)(x y:V)(t u:T)(F G:List J)(Q:T->Prop)(R:V->Hp->Prop),Dls dl H->Rp K dl H x t F->Rp K dl H y u G->rq t u Q ->
 (∀v z F' H',Evo dl H H'->Rp K dl H' v z F'->(∀b∈F',H b=Y)->F'.Nodup->Q z->R v H')->r x y H R
variable{rq:Q2}
def dy.w{r:R2}(h:dy K r rq):JR K r rq:=λdl H x y t u F G Q R d a b hq k=>h dl H x y t u F G Q R d a b hq λv z F' H' e r _ _ g=>k v z F' H' e r g
def qOp(rq:Q2)(qa qb:QE):QE:=λq Q=>qa q λt=>qb q λu=>rq t u Q
def vO{r:R2}(ho:JR K r rq)(ha:fY K ta qa)(hb:fY K tb qb):fY K (tOp r ta tb) (qOp rq qa qb):=by
 intro dl H σ q Q R rd hq k;exact ha dl H σ q _ _ rd hq λv t F H1 e1 r1 P=>(hb dl H1 σ q _ _ (rd.evo e1) P λw u G H2 V r2 g=>(ho dl H2 v w t u F G Q R V.d (r1.evo e1.d V) r2 g λv' z F' H3 e3 r3 hz=>k v' z F' H3 ((e1.trans V).trans e3) r3 hz))
def BU{r:R2}(ho:dy K r rq)(ha:fY K ta qa)(hb:fY K tb qb):gH K (tOp r ta tb) (qOp rq qa qb):=by
 intro dl H σ q Q R rd hq k;exact ha dl H σ q _ _ rd hq λv t F H1 P r1 ak=>(hb dl H1 σ q _ _ (rd.evo P) ak λw u G H2 g r2 V=>(ho dl H2 v w t u F G Q R g.d (r1.evo P.d g) r2 V λv' z F' H3 e3 r3 f3 n3 hz=>k v' z F' H3 ((P.trans g).trans e3) r3 (λb hb=>(P.trans g).free (f3 b hb)) n3 hz))
def kR{op:Operator}{r:R2}(ho:OpR X (binaryOp op) r)(hs:dy K r rq)(ha:QPE X K a ta qa)(g:QPE X K b tb qb):QPF X K (.BinOp a op b pos) (tOp r ta tb) (qOp rq qa qb):=(cM ho ha.h g.h,BU hs ha.s g.s)
end
end L2
namespace L2
open PySem PySem.Spec PyProof.Rows
variable{x:Str}{C:J}{a:J}{ns:List Int}{ws:List Str}{G:List J}
section
variable{X:Cx}{K:BT}{dl:Dl}{H:Hp}{v:V}{F:List J}
def V4(K:BT)(dl:Dl)(H:Hp)(v:V)(F:List J):T->Prop
 |.n=>v=.non/\F=[]
 |.b x=>v=.bl x/\F=[]
 |.i x=>v=.int x/\F=[]
 |.s x=>v=.str x/\F=[]
 |.ty x=>v=.ty x
 |.t ts=>∃a vs,v=.ref a/\H a=Z (.tup vs)/\ay K dl H vs ts F
 |.l ts=>∃a vs G,v=.ref a/\F=a::G/\H a=Z (.lst vs)/\ay K dl H vs ts G
 |.d ts=>∃a vs G,v=.ref a/\F=a::G/\H a=Z (.dK vs)/\a9 K dl H vs ts G
 |.dw=>∃a l,v=.ref a/\(a,l)∈dl/\F=[]
 |.z ns=>∃a,v=.ref a/\FzL K H a (ns.map V.int)/\F=[]
 |.k ws=>∃a,v=.ref a/\(∀H',SqT K H' a (ws.map V.str))/\F=[]
 |.xc C ns ts=>∃a b vs,v=.ref a/\F=[]/\ExH H a C b (ns.zip vs)/\ay K dl H vs ts []
 |.q=>True
 |.fd _ _ _=>True
 |.rm u=>∃a x,v=.ref a/\H a=Z (.room x)/\x<=u/\F=[]
 |.ob C ns ts=>∃a vs,v=.ref a/\F=[]/\ObH H a C (ns.zip vs)/\ay K dl H vs ts []
 |.dp a ts=>∃vs G,v=.ref a/\F=a::G/\H a=Z (.dK vs)/\a9 K dl H vs ts G
 |.lp a ts=>∃vs G,v=.ref a/\F=a::G/\H a=Z (.lst vs)/\ay K dl H vs ts G
 |.zl ts=>∃a o vs,v=.ref a/\F=[]/\H a=Z (.frz o (.lst vs))/\ay K dl H vs ts []
 |.rf a=>v=.ref a/\F=[]
 |.om a C ns ts=>∃dx vs G,v=.ref a/\F=a::dx::G/\H a=Z (.ins C dx (ns.zip vs))/\H dx=Z (.own a)/\ns.length=ts.length/\ay K dl H vs ts G
 |.fz u=>∃a o,v=.ref a/\F=[]/\H a=Z (.frz o u)
def aI.inv{t:T}(h:aI K dl H v t F):V4 K dl H v F t :=
 aI.rec (motive_2:=λ_ _ _ _=>True) (motive_3:=λ_ _ _ _=>True) (U,U) (λ_=>(U,U)) (λ_=>(U,U)) (λ_=>(U,U)) (λ_=>rfl)
  (λh r _=>(_,_,U,h,r)) (λh r _=>(_,_,_,U,U,h,r)) (λh r _=>(_,_,_,U,U,h,r)) (λh=>(_,_,U,h,U)) (λh=>(_,U,h,U)) (λ_=>trivial) (λ_ _ _=>trivial) (λh=>(_,U,h,U)) (λh r _=>(_,_,_,U,U,h,r)) (λh hx=>(_,_,U,h,hx,U)) (λh r _=>(_,_,U,U,h,r)) (λh r _=>(_,_,U,U,h,r)) (λh r _=>(_,_,U,U,h,r)) (λh r _=>(_,_,_,U,U,h,r)) (λ_=>(U,U)) (λh1 h2 h3 r _=>(_,_,_,U,U,h1,h2,h3,r)) (λh=>(_,_,U,U,h))
  trivial (λ_ _ _ _=>trivial) trivial (λ_ _ _ _=>trivial) h
theorem aI.int{x:Int}(h:aI K dl H v (.i x) F):v=.int x/\F=[]:=h.inv
theorem aI.str(h:aI K dl H v (.s x) F):v=.str x/\F=[]:=h.inv
theorem aI.bl{x:Bool}(h:aI K dl H v (.b x) F):v=.bl x/\F=[]:=h.inv
theorem aI.non(h:aI K dl H v .n F):v=.non/\F=[]:=h.inv
def aI.tyy{x:String}(h:aI K dl H v (.ty x) F):v=.ty x:=h.inv
theorem aI.tup{ts:List T}(h:aI K dl H v (.t ts) F):∃a vs,v=.ref a/\H a=Z (.tup vs)/\ay K dl H vs ts F:=h.inv
theorem aI.lst{ts:List T}(h:aI K dl H v (.l ts) F):∃a vs G,v=.ref a/\F=a::G/\H a=Z (.lst vs)/\ay K dl H vs ts G:=h.inv
def aI.dic{ts:List (Key×T)}(h:aI K dl H v (.d ts) F):∃a vs G,v=.ref a/\F=a::G/\H a=Z (.dK vs)/\a9 K dl H vs ts G:=h.inv
def aI.roo{u:Int}(h:aI K dl H v (.rm u) F):∃a x,v=.ref a/\H a=Z (.room x)/\x<=u/\F=[]:=h.inv
def aI.obj{ns:List Str}{ts:List T}(h:aI K dl H v (.ob C ns ts) F):∃a vs,v=.ref a/\F=[]/\ObH H a C (ns.zip vs)/\ay K dl H vs ts []:=h.inv
def aI.dpp{ts:List (Key×T)}(h:aI K dl H v (.dp a ts) F):∃vs G,v=.ref a/\F=a::G/\H a=Z (.dK vs)/\a9 K dl H vs ts G:=h.inv
def aI.lpp{ts:List T}(h:aI K dl H v (.lp a ts) F):∃vs G,v=.ref a/\F=a::G/\H a=Z (.lst vs)/\ay K dl H vs ts G:=h.inv
def aI.zls{ts:List T}(h:aI K dl H v (.zl ts) F):∃a o vs,v=.ref a/\F=[]/\H a=Z (.frz o (.lst vs))/\ay K dl H vs ts []:=h.inv
def aI.omm{ns:List Str}{ts:List T}(h:aI K dl H v (.om a C ns ts) F):∃dx vs G,v=.ref a/\F=a::dx::G/\H a=Z (.ins C dx (ns.zip vs))/\H dx=Z (.own a)/\ns.length=ts.length/\ay K dl H vs ts G:=h.inv
def aI.dea(h:aI K dl H v .dw F):∃a l,v=.ref a/\(a,l)∈dl/\F=[]:=h.inv
def aI.scr(h:aI K dl H v (.z ns) F):∃a,v=.ref a/\FzL K H a (ns.map V.int)/\F=[]:=h.inv
def aI.kst(h:aI K dl H v (.k ws) F):∃a,v=.ref a/\(∀H',SqT K H' a (ws.map V.str))/\F=[]:=h.inv
def ay.len{vs:List V}{ts:List T}{F:List J}(h:ay K dl H vs ts F):vs.length=ts.length:=h.ind U λ_ _ _ _ _ _ _ _ g=>congrArg (· + 1) g
def a9.len{vs:List (Key×V)}{ts:List (Key×T)}{F:List J}(h:a9 K dl H vs ts F):vs.length=ts.length:=h.ind U λ_ _ _ _ _ _ _ _ _ g=>congrArg (· + 1) g
def ay.Uu{vs:List V}{ts:List T}{F:List J}{i:Nat}{t:T}(h:ay K dl H vs ts F)(e:ts[i]?=Z t):∃v G,vs[i]?=Z v/\aI K dl H v t G/\G.Sublist F :=
 h.ind (λ_ _ e=>nomatch e) (λv x vs ts F G h _ g i t e=>by
  cases i with
  |zero=>cases e;exact(v,F,U,h,List.sublist_append_left _ _)
  |succ i =>
   let(w,q,h1,h2,h3):=g i t e;exact(w,q,h1,h2,h3.trans (Xr _ _))) i t e
def ay.get{vs:List V}{ts:List T}{F:List J}{i:Nat}{t:T}(h:ay K dl H vs ts F)(e:ts[i]?=Z t):∃v G,vs[i]?=Z v/\aI K dl H v t G/\∀b∈G,b∈F :=
 Exists.elim (h.Uu e) λv z=>Exists.elim z λG z=>(v,G,z.1,z.2.1,λ_ g=>z.2.2.subset g)
def ay.append{vs ws:List V}{ts us:List T}{F:List J}(h:ay K dl H vs ts F)(h2:ay K dl H ws us G):ay K dl H (vs++ws) (ts++us) (F++G) :=
 h.ind h2 λ_ _ _ _ _ _ h _ g=>by rw[u4];exact .cons h g
def ay.eR{vs:List V}{ts:List T}(h:ay K dl H vs ts F):vs=[] ↔ ts=[]:=by
 cases h with
 |nil=>simp
 |cons _ _=>simp
theorem ay.drop:∀{vs:List V}{ts:List T}{F:List J}(n:Nat),ay K dl H vs ts F->∃G,ay K dl H (vs.drop n) (ts.drop n) G/\G.Sublist F
 |_,_,F,0,h=>(F,h,List.Sublist.refl _)
 |_,_,_,_+1,.nil=>([],.nil,List.Sublist.refl _)
 |_,_,_,n+1,.cons h r=>by
  let(G,h1,h2):=ay.drop n r;exact(G,h1,h2.trans (Xr _ _))
theorem ay.take:∀{vs:List V}{ts:List T}{F:List J}(n:Nat),ay K dl H vs ts F->∃G,ay K dl H (vs.take n) (ts.take n) G/\G.Sublist F
 |_,_,F,0,h=>([],.nil,List.nil_sublist _)
 |_,_,_,_+1,.nil=>([],.nil,List.Sublist.refl _)
 |_,_,_,n+1,.cons h r=>by
  let(G,h1,h2):=ay.take n r;exact(_,.cons h h1,h2.append_left _)
def Rp.sub{t:T}{F:List J}(r:aI K dl H v t G)(n:∀b∈F,Nd dl b)(h:∀b∈G,b∈F):Rp K dl H v t G:=(r,λb g=>n b (h b g))
def Rp.c{t:T}(r:aI K dl H v t []):Rp K dl H v t []:=(r,λ_ z=>nomatch z)
theorem Rps.tup{vs:List V}{ts:List T}{p:J}(h:Rps K dl H vs ts F)(D:Dls dl H)(hp:H p=Y):Rp K dl (upd H p (.tup vs)) (.ref p) (.t ts) F :=
 have h2:=h.evo D ((Evo.refl D).new hp)
 (.t au h2.r,h2.n)
theorem Rps.lst{vs:List V}{ts:List T}{p:J}(h:Rps K dl H vs ts F)(D:Dls dl H)(hp:H p=Y):Rp K dl (upd H p (.lst vs)) (.ref p) (.l ts) (p::F) :=
 have h2:=h.evo D ((Evo.refl D).new hp)
 (.l au h2.r,λb g=>by
  obtain e|g:=ot.mp g
  ·rw[e];exact D.nd0 hp
  ·exact h2.n b g)
theorem Rps.fresh{vs:List V}{ts:List T}{p:J}(h:Rps K dl H vs ts F)(hp:H p=Y)(hn:F.Nodup):(p::F).Nodup:=u6.mpr (λz=>(h.r.there p z).no hp,hn)
def qII(C:Int->Int->Prop)(g:Int->Int->T):Q2:=λt u Q=>match t with
 |.i a=>match u with|.i b=>C a b/\Q (g a b)|_=>False
 |_=>False
def Gs{C:Int->Int->Prop}{g:Int->Int->V}{g':Int->Int->T}(hg:∀a b dl H,aI K dl H (g a b) (g' a b) []):dy K (rI C g) (qII C g'):=by
 intro dl H x y t u F G Q R D P q hq k;unfold qII at hq
 split at hq
 ·split at hq
  ·let(U,U):=P.r.int;let(U,U):=q.r.int;exact(_,_,U,U,hq.1,k _ _ [] H (.refl D) (.c (hg _ _ _ _)) (λ_ z=>nomatch z) n6 hq.2)
  ·exact hq.elim
 ·exact hq.elim
def qI0(g:Int->Int->T):Q2:=λt u Q=>match t with
 |.i a=>match u with|.i b=>Q (g a b)|_=>False
 |_=>False
def kG{g:Int->Int->V}{g':Int->Int->T}(hg:∀a b dl H,aI K dl H (g a b) (g' a b) []):dy K (rI0 g) (qI0 g'):=by
 intro dl H x y t u F G Q R D P q hq k;unfold qI0 at hq
 split at hq
 ·split at hq
  ·let(U,U):=P.r.int;let(U,U):=q.r.int;exact(_,_,U,U,k _ _ [] H (.refl D) (.c (hg _ _ _ _)) (λ_ z=>nomatch z) n6 hq)
  ·exact hq.elim
 ·exact hq.elim
def Mt:OpR X (binaryOp .Add) (λx y H Q=>∃a b xs ys,x=.ref a/\y=.ref b/\SqT X.K H a xs/\SqT X.K H b ys/\xs.length+ys.length<=pq /\
  (xs=[]->Q (.ref b) H)/\(xs ≠ []->ys=[]->Q (.ref a) H)/\(xs ≠ []->ys ≠ []->∀p,H p=Y->Q (.ref p) (upd H p (.tup (xs++ys))))):=by
 intro gd s σ H x y v u Q I rx V h;let(a,b,xs,ys,U,U,ha,hb,hz,q0,q1,q2):=h;by_cases hx:xs=[]
 ·cases rx;cases V;let(its,r1,p1,_):=I.tuple ha;let(iE,r2,p2,_):=I.tuple hb;have e:=r1.eR.mpr hx;subst e;let((cls,dd,data,sl),ho,hc,n,hd):=id p1;let((VS,P,data2,q),g,z,n2,hd2):=id p2;subst hc hd z hd2;exact concat_meets (_,ho,U) (_,g,U) noFill_tuple_add seq_tuple_add PySem.F.slot_tuple_add PySem.F.entry_tuple_add (PySem.F.args_tuple_add_2 _ _)
   (tuple_addW0 a b ([]).toArray iE.toArray n n2 dd P sl q (by simp)) (ho,g,(.ref b,H,I,U,q0 hx))
 ·exact Mu gd s σ H _ _ v u Q I rx V (a,b,xs,ys,U,U,ha,hb,hx,hz,q1 hx,q2 hx)
def GV(K:BT):R2:=λx y H Q=>rI0 (λi j=>.int (i+j)) x y H Q\/(∃i j,x=.str i/\y=.str j/\i.length+j.length<=pq/\Q (.str (i++j)) H)\/SU x y H Q \/
 (∃a b xs ys,x=.ref a/\y=.ref b/\SqT K H a xs/\SqT K H b ys/\xs.length+ys.length<=pq /\
  (xs=[]->Q (.ref b) H)/\(xs ≠ []->ys=[]->Q (.ref a) H)/\(xs ≠ []->ys ≠ []->∀p,H p=Y->Q (.ref p) (upd H p (.tup (xs++ys)))))
def Mv(g:X.K=K):OpR X (binaryOp .Add) (GV K):=by subst g;exact nK.or (AH.or (Qq.or Mt))
def kW:Q2:=λt u Q=>match t with
 |.i a=>match u with|.i b=>Q (.i (a+b))|_=>False
 |.s a=>match u with|.s b=>a.length+b.length<=pq/\Q (.s (a++b))|_=>False
 |.l a=>match u with|.l b=>a.length+b.length<=pq/\T.ims a=O/\T.ims b=O/\Q (.l (a++b))|_=>False
 |.t a=>match u with|.t b=>a.length+b.length<=pq/\T.ims a=O/\T.ims b=O/\Q (.t (a++b))|_=>False
 |_=>False
def Lg:dy K (GV K) kW:=by
 intro dl H x y t u F G Q R D q g hq k;have no:∀b,b∈([])->H b=none:=λ_ z=>nomatch z
 cases t with
 |i a =>
  dsimp only[kW]at hq
  split at hq
  ·let(U,U):=q.r.int;let(U,U):=g.r.int;exact .inl (_,_,U,U,k _ _ [] H (.refl D) (.c (.i _)) no n6 hq)
  ·exact hq.elim
 |s a =>
  dsimp only[kW]at hq
  split at hq
  ·let(U,U):=q.r.str;let(U,U):=g.r.str;exact .inr (.inl (_,_,U,U,hq.1,k _ _ [] H (.refl D) (.c (.s _)) no n6 hq.2))
  ·exact hq.elim
 |l a =>
  dsimp only[kW]at hq
  split at hq
  ·let(a,vs,F1,U,U,h1,s1):=q.r.lst;let(b,ws,G1,U,U,h2,s2):=g.r.lst;obtain rfl:=s1.im hq.2.1;obtain rfl:=s2.im hq.2.2.1;refine .inr (.inr (.inl (a,b,vs,ws,U,U,h1,h2,by rw[s1.len,s2.len];exact hq.1,λp hp=>?_)))
   have rs:Rps K dl H (vs++ws) _ ([] ++ []):=(s1.append s2,λc V=>nomatch V)
   exact k _ _ _ _ ((Evo.refl D).new hp) (rs.lst D hp) (λb hb=>by rw[fy.mp hb];exact hp) (by simp) hq.2.2.2
  ·exact hq.elim
 |t a =>
  dsimp only[kW]at hq
  split at hq
  ·let(a,vs,U,h1,s1):=q.r.tup;let(b,ws,U,h2,s2):=g.r.tup;obtain rfl:=s1.im hq.2.1;obtain rfl:=s2.im hq.2.2.1;refine .inr (.inr (.inr (a,b,vs,ws,U,U,SqT.of h1,SqT.of h2,by rw[s1.len,s2.len];exact hq.1,λe=>?_,λe1 e2=>?_,λ_ _ p hp=>?_)))
   ·refine k _ _ [] H (.refl D) g no n6 ?_;have z:=s1.eR.mp e;subst z;exact hq.2.2.2
   ·refine k _ _ [] H (.refl D) q no n6 ?_;have z:=s2.eR.mp e2;subst z;have P:=hq.2.2.2;rw[qg]at P;exact P
   ·have rs:Rps K dl H (vs++ws) _ ([] ++ []):=(s1.append s2,λc V=>nomatch V)
    exact k _ _ _ _ ((Evo.refl D).new hp) (rs.tup D hp) no n6 hq.2.2.2
  ·exact hq.elim
 |_=>exact hq.elim
def LL:Q2:=λt u Q=>match t with
 |.i a=>match u with|.i b=>J8 a b/\Q (.i (a*b))|_=>False
 |.s a=>match u with|.i b=>0<=b/\b<=1000/\a.length<=1000/\Q (.s (jb a b.toNat))|_=>False
 |_=>False
def GN:R2:=λx y H Q=>rI J8 (λi j=>.int (i*j)) x y H Q\/(∃z n,x=.str z/\y=.int n/\0<=n/\n<=1000/\z.length<=1000/\Q (.str (jb z n.toNat)) H)
def Ms:OpR X (binaryOp .Mult) GN:=kY.or AF
def La:dy K GN LL:=by
 intro dl H x y t u F G Q R D q g hq k;cases t with
 |i a =>
  dsimp only[LL]at hq
  split at hq
  ·let(U,U):=q.r.int;let(U,U):=g.r.int;exact .inl (_,_,U,U,hq.1,k _ _ [] H (.refl D) (.c (.i _)) (λ_ z=>nomatch z) n6 hq.2)
  ·exact hq.elim
 |s a =>
  dsimp only[LL]at hq
  split at hq
  ·let(U,U):=q.r.str;let(U,U):=g.r.int;exact .inr (_,_,U,U,hq.1,hq.2.1,hq.2.2.1,k _ _ [] H (.refl D) (.c (.s _)) (λ_ z=>nomatch z) n6 hq.2.2.2)
  ·exact hq.elim
 |_=>exact hq.elim
end
section
variable{X:Cx}{K:BT}{a b:Ev}{ta tb:TE}{qa qb:QE}{pos:Pos}
def bc(ha:QPE X K a ta qa)(g:QPE X K b tb qb)(q:‹X.K=K›):QPF X K (.BinOp a .Add b pos) (tOp (GV K) ta tb) (qOp kW qa qb):=kR (Mv q) Lg ha g
def qT(ha:QPE X K a ta qa)(g:QPE X K b tb qb):QPF X K (.BinOp a .Sub b pos) (tOp (rI0 λi j=>.int (i - j)) ta tb) (qOp (qI0 λi j=>.i (i - j)) qa qb):=kR AE (kG λ_ _ _ _=>.i _) ha g
def kS(ha:QPE X K a ta qa)(g:QPE X K b tb qb):QPF X K (.BinOp a .Mult b pos) (tOp GN ta tb) (qOp LL qa qb):=kR Ms La ha g
def G9(ha:QPE X K a ta qa)(g:QPE X K b tb qb):QPF X K (.BinOp a .Mod b pos) (tOp (rI (λ_ j=>0<j) λi j=>.int (i % j)) ta tb) (qOp (qII (λ_ j=>0<j) λi j=>.i (i % j)) qa qb):=kR iA (Gs λ_ _ _ _=>.i _) ha g
def LH(ha:QPE X K a ta qa)(g:QPE X K b tb qb):QPF X K (.BinOp a .FloorDiv b pos) (tOp (rI J9 λi j=>.int (i / j)) ta tb) (qOp (qII J9 λi j=>.i (i / j)) qa qb):=kR yk (Gs λ_ _ _ _=>.i _) ha g
def Px(ha:QPE X K a ta qa)(g:QPE X K b tb qb):QPF X K (.BinOp a .Pow b pos) (tOp (rI NA λi j=>.int (i ^ j.toNat)) ta tb) (qOp (qII NA λi j=>.i (i ^ j.toNat)) qa qb):=kR Ih (Gs λ_ _ _ _=>.i _) ha g
end
variable{dl:Dl}{H:Hp}{op:CmpOp}{rq:Q2}{j:Nat}
section
variable{X:Cx}{K:BT}{a b c e:Ev}{es rest:List Ev}{ta tb te:TE}{qa qb qe:QE}{tA tB:TT}{qA qB:QT}{tl:TA}{ql:QA}{pos:Pos}
def T.v:T->V
 |.n=>.non|.b x=>.bl x|.i x=>.int x|.s x=>.str x|_=>.ty ""
def T.fl:T->Bool
 |.n=>O|.b _=>O|.i _=>O|.s _=>O|_=>ϊ
theorem aI.v{dl:Dl}{H:Hp}{v:V}{t:T}{F:List J}(h:aI K dl H v t F)(f:t.fl=O):v=t.v/\F=[]:=by
 cases h <;> first|exact(U,U)|exact absurd (f) sQ
def qEq:Q2:=λt u Q=>(t.fl&&u.fl&&Li t.v u.v)=O/\Q (.b (decide (t.v=u.v)))
def qNe:Q2:=λt u Q=>(t.fl&&u.fl&&Li t.v u.v)=O/\Q (.b (!decide (t.v=u.v)))
def Pj:dy K rEq qEq:=by
 intro dl H x y t u F G Q R D q g hq k;let(h,hq):=hq;rw[sU,sU]at h;let(U,U):=q.r.v h.1.1;let(U,U):=g.r.v h.1.2;exact(h.2,k _ _ [] H (.refl D) (.c (.b _)) (λ_ z=>nomatch z) n6 hq)
def z8:dy K rNe qNe:=by
 intro dl H x y t u F G Q R D q g hq k;let(h,hq):=hq;rw[sU,sU]at h;let(U,U):=q.r.v h.1.1;let(U,U):=g.r.v h.1.2;exact(h.2,k _ _ [] H (.refl D) (.c (.b _)) (λ_ z=>nomatch z) n6 hq)
def DW(neg:Bool):Q2:=λt u Q=>match u with
 |.n=>Q (.b (match t with|.n=>!neg|_=>neg))
 |_=>False
def aI.Vi{v:V}{t:T}{F:List J}(h:aI K dl H v t F):decide (v=.non)=match(generalizing:=false) t with|.n=>!false|_=>false:=by cases h <;> rfl
def aI.Vj{v:V}{t:T}{F:List J}(h:aI K dl H v t F):(!decide (v=.non))=match(generalizing:=false) t with|.n=>!true|_=>true:=by cases h <;> rfl
def vP:dy K (λx y H Q=>y=.non/\Q (.bl (decide (x=.non))) H) (DW ϊ):=by
 intro dl H x y t u F G Q R D q g hq k;unfold DW at hq
 split at hq
 ·let(U,U):=g.r.non;refine(U,k _ _ [] H (.refl D) (.c (.b _)) (λ_ z=>nomatch z) n6 ?_)
  rw[q.r.Vi];exact hq
 ·exact hq.elim
def jg:dy K (λx y H Q=>y=.non/\Q (.bl (!decide (x=.non))) H) (DW O):=by
 intro dl H x y t u F G Q R D q g hq k;unfold DW at hq
 split at hq
 ·let(U,U):=g.r.non;refine(U,k _ _ [] H (.refl D) (.c (.b _)) (λ_ z=>nomatch z) n6 ?_)
  rw[q.r.Vj];exact hq
 ·exact hq.elim
def inT(x:T)(xs:List T):Bool:=xs.any λy=>eqV y.v x.v
def fls(xs:List T):Bool:=xs.all T.fl
theorem ay.vs{dl:Dl}{H:Hp}{vs:List V}{ts:List T}{F:List J}(h:ay K dl H vs ts F):fls ts=O->vs=ts.map T.v/\F=[] :=
 h.ind (λ_=>(U,U)) λ_ _ _ _ _ _ h _ g f=>by
  have f:(_&&_)=true:=f;rw[sU]at f;let(U,U):=h.v f.1;let(U,U):=g f.2;exact(U,U)
def sd{ts:List T}(f:fls ts=O):(ts.map T.v).all gj=true:=by
 rw[R4];intro x hx;let(t,g,U):=oG.mp hx
 have:=R4.mp f t g
 cases t <;> first|rfl|exact absurd this sQ
def M8{t:T}(f:t.fl=O):gj t.v=true:=by cases t <;> first|rfl|exact absurd f sQ
def Lq(K:BT)(neg:Bool):R2:=λx y H Q=>rIn K neg x y H Q\/∃i j,x=.str i/\y=.str j/\Q (.bl (if neg then !(!(Builtin.Str.occurrences j i 0 j.length 1).isEmpty)else !(Builtin.Str.occurrences j i 0 j.length 1).isEmpty)) H
def wy(g:X.K=K):OpR X (compareOp .In) (Lq K ϊ):=by subst g;exact Ed.or Ec
def Eb(g:X.K=K):OpR X (compareOp .NotIn) (Lq K O):=by subst g;exact wx.or wu
def qIn(neg:Bool):Q2:=λt u Q=>match u with
 |.l xs=>(t.fl&&fls xs)=O/\Q (.b (if neg then !inT t xs else inT t xs))
 |.t xs=>(t.fl&&fls xs)=O/\Q (.b (if neg then !inT t xs else inT t xs))
 |.k ws=>match t with
  |.s y=>Q (.b (if neg then !inT (.s y) (ws.map T.s)else inT (.s y) (ws.map T.s)))
  |_=>False
 |.s z=>match t with
  |.s y=>Q (.b (if neg then !(!(Builtin.Str.occurrences z y 0 z.length 1).isEmpty)else !(Builtin.Str.occurrences z y 0 z.length 1).isEmpty))
  |_=>False
 |_=>False
def qG{neg:Bool}:dy K (Lq K neg) (qIn neg):=by
 intro dl H x y t u F G Q R D q g hq k;have go:∀xs p vs,y=.ref p->(SqL K H p vs\/SqT K H p vs)->(∃G,ay K dl H vs xs G)->(t.fl&&fls xs)=O/\Q (.b (if neg then !inT t xs else inT t xs))->Lq K neg x y H R:=by
  rintro xs p vs rfl hs ⟨G,rs⟩ ⟨f,hq⟩
  rw[sU]at f;let(U,U):=q.r.v f.1;let(U,_):=rs.vs f.2;refine .inl (p,_,U,hs,M8 f.1,sd f.2,k _ (.b _) [] H (.refl D) (.c (.b _)) (λ_ z=>nomatch z) n6 ?_)
  have e:inV t.v (xs.map T.v)=inT t xs:=by unfold inV inT;rw[WI];rfl
  rw[e];exact hq
 cases u with
 |l xs =>
  let(p,vs,G,U,_,h1,h2):=g.r.lst;exact go _ p vs U (.inl (SqL.of h1)) (_,h2) hq
 |t xs =>
  let(p,vs,U,h1,h2):=g.r.tup;exact go _ p vs U (.inr (SqT.of h1)) (_,h2) hq
 |k ws =>
  dsimp only[qIn]at hq
  split at hq
  ·let(p,U,h1,_):=g.r.kst;refine go _ p _ U (.inr (h1 H)) (_,kO _) (?_,hq);rw[sU];refine(U,?_);unfold fls;rw[XN,R4];exact λ_ _=>rfl
  ·exact hq.elim
 |s z =>
  dsimp only[qIn]at hq
  split at hq
  ·let(U,U):=q.r.str;let(U,U):=g.r.str;exact .inr (_,_,U,U,k _ _ [] H (.refl D) (.c (.b _)) (λ_ z=>nomatch z) n6 hq)
  ·exact hq.elim
 |_=>exact hq.elim
def js{r:R2}(ho:OpR X (compareOp op) r)(hs:dy K r rq)(hm:behindInMarks op b=ϊ)(ha:QPE X K a ta qa)(g:QPE X K b tb qb):QPF X K (.Compare a [op] [b] pos) (tOp r ta tb) (qOp rq qa qb) :=
 (Md ho ha.h g.h hm,BU hs ha.s g.s)
def oq(qe:QE):QT:=λq Q=>qe q λt=>match t with
 |.b x=>Q x
 |_=>False
def Gb(h:fY K te qe):lu K (BN te) (oq qe):=by
 intro dl H σ q Q R rd hq k;refine h dl H σ q _ _ rd hq λv t F H' e r g=>?_
 split at g
 ·let(U,U):=r.r.bl;exact(_,U,k _ H' e g)
 ·exact g.elim
def bM{r:R2}(ho:OpR X (compareOp op) r)(hs:dy K r rq)(hm:behindInMarks op b=ϊ)(ha:QPE X K a ta qa)(g:QPE X K b tb qb):QPT X K (.Compare a [op] [b] pos) (BN (tOp r ta tb)) (oq (qOp rq qa qb)) :=
 (lV ho ha.h g.h hm,Gb (vO hs.w ha.s g.s))
def SY(qe:QE):QT:=λq Q=>qe q λt=>match t with
 |.b x=>Q x
 |.n=>Q ϊ
 |.i x=>Q (x != 0)
 |.s x=>x.length<=pq/\Q ((x.length:Int) != 0)
 |.l xs=>Q (!xs.isEmpty)
 |.t xs=>Q (!xs.isEmpty)
 |.d xs=>Q (!xs.isEmpty)
 |_=>False
def K3(h:fY K te qe):lu K (λσ H Q=>te σ H λx H'=>∃k,Nt K x H' k/\Q k H') (SY qe):=by
 intro dl H σ q Q R rd hq k;refine h dl H σ q _ _ rd hq λv t F H' e r g=>?_
 have emp:∀{α β:Type}{xs:List α}{ys:List β},xs.length=ys.length->(!xs.isEmpty) = !ys.isEmpty:=λ{α β xs ys} h=>by
  cases xs <;> cases ys <;> first|rfl|(simp at h)
 cases t with
 |b x =>
  let(U,U):=r.r.bl;exact(_,U,k _ H' e g)
 |n =>
  let(U,U):=r.r.non;exact(_,U,k _ H' e g)
 |i x =>
  let(U,U):=r.r.int;exact(_,U,k _ H' e g)
 |s x =>
  let(U,U):=r.r.str;exact(_,(g.1,U),k _ H' e g.2)
 |l xs =>
  let(p,vs,G,U,_,h1,h2):=r.r.lst;exact(_,.inl (vs,SqL.of h1,U),k _ H' e (by rw[emp h2.len];exact g))
 |t xs =>
  let(p,vs,U,h1,h2):=r.r.tup;exact(_,.inr (.inl (vs,SqT.of h1,U)),k _ H' e (by rw[emp h2.len];exact g))
 |d xs =>
  let(p,vs,G,U,_,h1,h2):=r.r.dic;exact(_,.inr (.inr (vs,h1,U)),k _ H' e (by rw[emp h2.len];exact g))
 |_=>exact g.elim
def gM(h:QPE X K e te qe)(he:∀whole,isTrue e X.env whole=(do let v <- whole;standAt e.pos;holding [v] (truthy v)):=by intro _;rfl)(g:‹X.K=K›):
  QPT X K e (λσ H Q=>te σ H λx H'=>∃k,Nt K x H' k/\Q k H') (SY qe):=(by subst g;exact Hv h.h he,K3 h.s)
def S5(t:QT):QT:=λq Q=>t q λc=>Q (!c)
def Tf(t u:QT):QT:=λq Q=>t q λc=>if c=O then u q Q else Q ϊ
def qOr(t u:QT):QT:=λq Q=>t q λc=>if c=O then Q O else u q Q
def K9(h:lu K tA qA):lu K (O2 tA) (S5 qA):=λdl H σ q _ R rd hq k=>h dl H σ q _ _ rd hq λb H' e g=>k _ H' e g
def Le(h:lu K tA qA)(h2:lu K tB qB):lu K (O8 tA tB) (Tf qA qB):=λdl H σ q Q R rd hq k=>h dl H σ q _ _ rd hq λb H' e g=>by
 cases b with
 |false=>exact k _ H' e g
 |true=>exact h2 dl H' σ q Q R (rd.evo e) g λc H2 P z=>k c H2 (e.trans P) z
def Pg(h:lu K tA qA)(h2:lu K tB qB):lu K (tOr tA tB) (qOr qA qB):=λdl H σ q Q R rd hq k=>h dl H σ q _ _ rd hq λb H' e g=>by
 cases b with
 |true=>exact k _ H' e g
 |false=>exact h2 dl H' σ q Q R (rd.evo e) g λc H2 P z=>k c H2 (e.trans P) z
def GX(h:QPT X K a tA qA):QPT X K (.UnaryOp .Not a pos) (O2 tA) (S5 qA):=(P4 h.h,K9 h.s)
def jZ(h:QPT X K a tA qA):QPW X K (.BoolOp .And [a] pos) tA qA:=(B7 h.h,h.s)
def v8(h:QPT X K a tA qA):QPW X K (.BoolOp .Or [a] pos) tA qA:=(PZ h.h,h.s)
def kP(h:QPT X K a tA qA)(h2:QPW X K (.BoolOp .And (b::rest) pos) tB qB):QPW X K (.BoolOp .And (a::b::rest) pos) (O8 tA tB) (Tf qA qB):=(Ho h.h h2.h,Le h.s h2.s)
def uJ(h:QPT X K a tA qA)(h2:QPW X K (.BoolOp .Or (b::rest) pos) tB qB):QPW X K (.BoolOp .Or (a::b::rest) pos) (tOr tA tB) (qOr qA qB):=(Ti h.h h2.h,Pg h.s h2.s)
theorem QPW.pt(h:QPW X K e tA qA):QPT X K e tA qA:=(h.h.pt,h.s)
def B6(qa qb:QE):QE:=λq Q=>qa q λt=>match t with
 |.b c=>if c=O then qb q Q else Q (.b ϊ)
 |_=>False
def S4(qa qb:QE):QE:=λq Q=>qa q λt=>match t with
 |.b c=>if c=O then Q (.b O)else qb q Q
 |_=>False
def NT(qa:QE):QE:=λq Q=>qa q λt=>match t with
 |.b c=>Q (.b (!c))
 |_=>False
def Gr(h:fY K ta qa)(h2:gH K tb qb):gH K (FZ ta tb) (B6 qa qb):=λdl H σ q Q R rd hq k=>h dl H σ q _ _ rd hq λv t F H' e r g=>by
 split at g
 ·rename_i c;let(U,U):=r.r.bl;refine(c,U,?_);cases c with
  |false=>exact k _ _ [] H' e r (λ_ z=>nomatch z) n6 g
  |true=>exact h2 dl H' σ q Q R (rd.evo e) g λw u G H2 e2 P f2 V z=>k w u G H2 (e.trans e2) P (λb hb=>e.free (f2 b hb)) V z
 ·exact g.elim
def K8(h:fY K ta qa)(h2:gH K tb qb):gH K (O1 ta tb) (S4 qa qb):=λdl H σ q Q R rd hq k=>h dl H σ q _ _ rd hq λv t F H' e r g=>by
 split at g
 ·rename_i c;let(U,U):=r.r.bl;refine(c,U,?_);cases c with
  |true=>exact k _ _ [] H' e r (λ_ z=>nomatch z) n6 g
  |false=>exact h2 dl H' σ q Q R (rd.evo e) g λw u G H2 e2 P f2 V z=>k w u G H2 (e.trans e2) P (λb hb=>e.free (f2 b hb)) V z
 ·exact g.elim
def Ge(h:fY K ta qa):gH K (FR ta) (NT qa):=λdl H σ q Q R rd hq k=>h dl H σ q _ _ rd hq λv t F H' e r g=>by
 split at g
 ·rename_i c;let(U,U):=r.r.bl;exact(c,U,k _ _ [] H' e (.c (.b _)) (λ_ z=>nomatch z) n6 g)
 ·exact g.elim
def wc{op}(h:QPF X K a ta qa):QPF X K (.BoolOp op [a] pos) ta qa:=(Qi h.h,h.s)
def qV(ha:QPE X K a ta qa)(g:QPF X K (.BoolOp .And (b::rest) pos) tb qb):QPF X K (.BoolOp .And (a::b::rest) pos) (FZ ta tb) (B6 qa qb):=(Ql ha.h g.h,Gr ha.s g.s)
def SX(ha:QPE X K a ta qa)(g:QPF X K (.BoolOp .Or (b::rest) pos) tb qb):QPF X K (.BoolOp .Or (a::b::rest) pos) (O1 ta tb) (S4 qa qb):=(Tw ha.h g.h,K8 ha.s g.s)
def Py(ha:QPE X K a ta qa):QPF X K (.UnaryOp .Not a pos) (FR ta) (NT qa):=(Qj ha.h,Ge ha.s)
def jr(ha:QPE X K a ta qa):QPF X K (.UnaryOp .USub a pos) (tUn (rU λi=>.int (-i)) ta) (λq Q=>qa q λt=>match t with|.i x=>Q (.i (-x))|_=>False):=(Tv OR ha.h,λdl H σ q Q R rd hq k=>ha.s dl H σ q _ _ rd hq λv t F H' e r g=>by
 split at g
 ·let(U,U):=r.r.int;exact(_,U,k _ _ [] H' e (.c (.i _)) (λ_ z=>nomatch z) n6 g)
 ·exact g.elim)
def cA:QA:=λ_ Q=>Q []
def aF(qa:QE)(ql:QA):QA:=λq Q=>qa q λt=>ql q λts=>Q (t::ts)
def ai:xn X K [] fg cA:=(cJ,λdl H σ q Q R rd hq k=>k [] [] [] H (.refl rd.d) (.nil,λ_ z=>nomatch z) U (λ_ z=>nomatch z) n6 hq)
def xn.w(h:xn X K es tl ql):QPA X K es tl ql:=(h.h,λdl H σ q Q R rd hq k=>h.s dl H σ q Q R rd hq λvs ts F H' e r l _ _ z=>k vs ts F H' e r l z)
theorem Rps.cons{dl:Dl}{H:Hp}{v:V}{t:T}{vs:List V}{ts:List T}{F G:List J}(h:Rp K dl H v t F)(r:Rps K dl H vs ts G):Rps K dl H (v::vs) (t::ts) (F++G):=(.cons h.r r.r,λb g=>(nZ.mp g).elim (h.n b) (r.n b))
def ae(ha:QPE X K e te qe)(hr:QPA X K es tl ql)(hs:‹AC X e es›):QPA X K (e::es) (bL te tl) (aF qe ql) :=
 (bh ha.h hr.h hs,λdl H σ q Q R rd hq k=>ha.s dl H σ q _ _ rd hq λv t F H1 g r1 hz=>hr.s dl H1 σ q _ _ (rd.evo g) hz λvs ts G H2 P V l2 z=>k _ _ _ H2 (g.trans P) (.cons (r1.evo g.d P) V) (by simp[l2]) z)
def af(ha:QPF X K e te qe)(hr:xn X K es tl ql)(hs:‹AC X e es›):xn X K (e::es) (bL te tl) (aF qe ql) :=
 (bh ha.h hr.h hs,λdl H σ q Q R rd hq k=>ha.s dl H σ q _ _ rd hq λv t F H1 g r1 f1 n1 hz=>hr.s dl H1 σ q _ _ (rd.evo g) hz λvs ts G H2 e2 r2 l2 f2 n2 z =>
  k _ _ _ H2 (g.trans e2) (.cons (r1.evo g.d e2) r2) (by simp[l2]) (λb P=>(nZ.mp P).elim (f1 b) λP=>g.free (f2 b P)) (yK.mpr (n1,n2,λx hx y hy V=>by
   subst V;exact(r1.r.there x hx).no (f2 x hy))) z)
def jt(ql:QA):QE:=λq Q=>ql q λts=>Q (.t ts)
def LM(ql:QA):QE:=λq Q=>ql q λts=>Q (.l ts)
def aq{P}(h:xn X K es tl ql)(hz:autoParam (es.length<=1000) zdc._auto_1):QPF X K (.Tuple es P pos) (FQ tl) (jt ql):=(Az h.h,λdl H σ q Q R rd hq k=>h.s dl H σ q _ _ rd hq λvs ts F H1 g V l1 f1 n1 z =>
 (sV (aD (by lia)),λp hp=>k _ _ F _ (g.new hp) (V.tup g.d hp) f1 n1 z))
def Lx{P}(h:QPA X K es tl ql)(hz:autoParam (es.length<=1000) zdc._auto_1):QPE X K (.Tuple es P pos) (FQ tl) (jt ql):=(Az h.h,λdl H σ q Q R rd hq k=>h.s dl H σ q _ _ rd hq λvs ts F H1 g V l1 z =>
 (sV (aD (by omega)),λp hp=>k _ _ F _ (g.new hp) (V.tup g.d hp) z))
def aO(h:xn X K es tl ql)(hz:autoParam (es.length<=1000) zdc._auto_1):QPF X K (.List es pos) (O3 tl) (LM ql):=(HQ h.h,λdl H σ q Q R rd hq k=>h.s dl H σ q _ _ rd hq λvs ts F H1 P V l1 f1 n1 z =>
 (sV (aD (by omega)),λp hp=>k _ _ (p::F) _ (P.new hp) (V.lst P.d hp) (λb g=>by
  obtain e|g:=ot.mp g
  ·rw[e];exact P.free hp
  ·exact f1 b g) (V.fresh hp n1) z))
def lT(h:strsOf es=Z ws)(hl:‹es.length=ws.length›):xn X K es (λ_ H Q=>Q (ws.map V.str) H) (λ_ Q=>Q (ws.map T.s)) :=
 (Mg h,λdl H σ q Q R rd hq k=>k _ _ [] H (.refl rd.d) (kO ws,λ_ z=>nomatch z) (by rw[dN];exact hl.symm) (λ_ z=>nomatch z) n6 hq)
def qIx:Q2:=λt u Q=>match u with
 |.i k=>match t with
  |.l xs=>Ex2 (λx=>atI xs k=Z x) Q
  |.t xs=>Ex2 (λx=>atI xs k=Z x) Q
  |.z ns=>Ex3 (λx=>atI ns k=Z x) (λx=>(.i x)) Q
  |.zl xs=>Ex2 (λx=>atI xs k=Z x) Q
  |.s z=>z.length<=pq/\Ex3 (λc=>atI z.cps.toList k=Z c) (λc=>(.s ⟨#[c]⟩)) Q
  |_=>False
 |_=>False
def mV{α β:Type}{xs:List α}{ys:List β}{k:Int}{x:α}(h:atI xs k=Z x)(hl:xs.length=ys.length):∃j:Nat,xs[j]?=Z x/\ixN ys.length k=Z j:=by
 unfold atI at h;cases e:ixN xs.length k with
 |none=>rw[e]at h;cases h
 |some j=>rw[e]at h;exact(j,h,by rw[<- hl];exact e)
def sM{α:Type}{xs:List α}{k:Int}{x:α}(h:ixN xs.length k=Z j)(hx:xs[j]?=Z x):atI xs k=Z x:=by unfold atI;rw[h];exact hx
def Ph:JR K (rIx K) qIx:=by
 intro dl H x y t u F G Q R D g r2 hq k;unfold qIx at hq
 split at hq
 ·rename_i k0;let(U,U):=r2.r.int;cases t with
  |l xs =>
   let(p,vs,G,U,U,h1,h2):=g.r.lst;let(z,q,hq):=hq;let(j,P,hi):=mV q h2.len.symm;let(v,G',hv,rv,hs):=h2.get P;exact .inl (p,vs,k0,v,U,U,SqL.of h1,sM hi hv,k v z G' H (.refl D) (Rp.sub rv g.n λb hb=>g5 _ (hs b hb)) hq)
  |t xs =>
   let(p,vs,U,h1,h2):=g.r.tup;let(z,q,hq):=hq;let(j,P,hi):=mV q h2.len.symm;let(v,G',hv,rv,hs):=h2.get P;exact .inr (.inl (p,vs,k0,v,U,U,SqT.of h1,sM hi hv,k v z G' H (.refl D) (Rp.sub rv g.n hs) hq))
  |z ns =>
   let(p,U,h1,_):=g.r.scr;let(z,q,hq):=hq;refine .inl (p,_,k0,.int z,U,U,h1.sq,?_,k _ _ [] H (.refl D) (.c (.i _)) hq);let(j,P,hi):=mV (ys:=(_:List Int).map V.int) q (by rw[dN])
   exact sM hi (by rw[gs,P];rfl)
  |zl xs =>
   let(p,o,vs,U,U,h1,h2):=g.r.zls;let(z,q,hq):=hq;let(j,P,hi):=mV q h2.len.symm;let(v,G',hv,rv,hs):=h2.get P;exact .inl (p,vs,k0,v,U,U,.inl (.inr (o,h1)),sM hi hv,k v z G' H (.refl D) (Rp.sub rv g.n hs) hq)
  |s z =>
   let(U,U):=g.r.str;let(hl,c,hc,hq):=hq;exact .inr (.inr (_,k0,c,U,U,hl,hc,k _ _ [] H (.refl D) (.c (.s _)) hq))
  |_=>exact hq.elim
 ·exact hq.elim
def av(ha:QPE X K a ta qa)(g:QPE X K b tb qb)(hs:kj b:=by intro _ _;rfl)(q:‹X.K=K›):QPE X K (.Subscript a b pos) (tOp (rIx K) ta tb) (qOp qIx qa qb):=(by subst q;exact uO A5 ha.h g.h hs,vO Ph ha.s g.s)
end
variable{prog:Da}{A:Db}{E:B->ϋ->Prop}{items:Array B}{Q:B->ϋ->Prop}{p2:Pos}{n:Nat}{r:List V->Hp->VK->Prop}{us:List B}
section
variable{X:Cx}{K:BT}{a b c e:Ev}{es:List Ev}{te:TE}{qe:QE}{tl:TA}{ql:QA}{pos p:Pos}
abbrev QO:=Sq->(Option Int->Prop)->Prop
def V1(K:BT)(t:TO)(tq:QO):Prop:=∀(dl:Dl)(H:Hp)(σ:St)(q:Sq)(Q:Option Int->Prop)(R:Option Int->Hp->Prop),RdR K dl H σ q->tq q Q->(∀o H',Evo dl H H'->Q o->R o H')->t σ H R
structure QPO(X:Cx)(K:BT)(e:Option Ev)(t:TO)(tq:QO):Prop where
 h:PO X e t
 s:V1 K t tq
def fE:QPO X K Y BO (λ_ Q=>Q Y):=(L3,λ_ _ _ _ _ _ rd hq k=>k Y _ (.refl rd.d) hq)
def fD(h:QPE X K e te qe):QPO X K (Z e) (NF te) (λq Q=>qe q λt=>match t with|.i x=>Q (Z x)|_=>False):=(wm h.h,λdl H σ q Q R rd hq k=>h.s dl H σ q _ _ rd hq λv t F H' e r g=>by
 split at g
 ·let(U,U):=r.r.int;exact(_,U,k _ H' e g)
 ·exact g.elim)
def cY{α:Type}(xs:List α)(lo hi:Option Int):List α:=(xs.drop (HT.sIx xs.length 0 lo)).take (HT.sIx xs.length xs.length hi - HT.sIx xs.length 0 lo)
def ay.cut{vs:List V}{ts:List T}{F:List J}(lo hi:Option Int)(h:ay K dl H vs ts F):∃G,ay K dl H (mR vs lo hi) (cY ts lo hi) G/\G.Sublist F:=by
 unfold mR cY;rw[h.len];let(G,h1,s1):=h.drop (HT.sIx ts.length 0 lo);let(g,h2,s2):=h1.take (HT.sIx ts.length ts.length hi - HT.sIx ts.length 0 lo);exact(g,h2,s2.trans s1)
def km{w:Cl}{s:ϋ}{t sl:J}{V P:B}{lo hi:Option Int}(g:IsTup s.heap t items)(hs:s.heap.IsSliceOf sl V P .none)(pl:IsPart V lo)(pu:IsPart P hi)
  (hw:HT.sIx items.size 0 lo=0/\HT.sIx items.size items.size hi=items.size)
  (h:Q (.ref t) s):wpAny (model prog w) A (getItem (.ref t) (.ref sl)) Q E s:=by
 let(os,q,z,ak):=id hs;have K:s.TypeIs (.ref sl) "slice":=(os,q,z);have hT:=g.typeIs;unfold getItem
 try with_reducible refine BI ?_
 refine cZ (wpAny_sequenceKey g.typeIs (by decide) ?_)
 refine cZ (wpAny_callSpecial?_slot g.typeIs PyProof.Rows.slot_tuple_getitem
  (So PyProof.Rows.slot_tuple_getitem g.typeIs entry_tuple_getitem ?_ (args_tuple_getitem _ _)))
 show wpAny _ _ (Builtin.Tuple.tupleItemsOf (.ref t) >>= _) _ _ s;refine cZ (tupleItemsOf_ g (cZ (VD K ?_)));refine cZ (HT.gK hs pl pu ?_);have hy:(((HT.sIx items.size 0 lo):Int)==0&&(1:Int)==1&&(HT.sIx items.size items.size hi - HT.sIx items.size 0 lo)==items.size)=true:=by
  rw[hw.1,hw.2];simp
 show wpAny _ _ (if(((HT.sIx items.size 0 lo):Int)==0&&(1)==1&&(HT.sIx items.size items.size hi - HT.sIx items.size 0 lo)==items.size)=O then _ else _) _ _ s
 rw[if_pos hy];exact cZ (cZ (VD hT (kq (by rw[if_pos (by decide)];exact cZ (Wo (kq (_,U,kq h)))))))
inductive SG(K:BT)(x:V)(lo:Option Int)(hi:Option Int)(H:Hp)(Q:VK):Prop
 |mk(a xs:_)(h1:x=.ref a)(h2:SqT K H a xs)(h3:((HT.sIx xs.length 0 lo=0/\HT.sIx xs.length xs.length hi=xs.length)->Q (.ref a) H))(h4:(¬(HT.sIx xs.length 0 lo=0/\HT.sIx xs.length xs.length hi=xs.length)->∀p,H p=Y->Q (.ref p) (upd H p (.tup (mR xs lo hi)))))
def KW:SlR X (SG X.K):=by
 intro gd s σ H x v V P lo hi sl Q I g hs q pu h;let(a,xs,U,hx,q1,q2):=h;by_cases hw:HT.sIx xs.length 0 lo=0/\HT.sIx xs.length xs.length hi=xs.length
 ·cases g;let(its,r,z,hz):=I.tuple hx;have hlen:its.toArray.size=xs.length:=by exact r.length.symm
  exact("tuple",_,PyProof.Rows.slot_tuple_getitem.lookup,z.typeIs,km z hs q pu (by rw[hlen];exact hw) (.ref a,H,I,U,q1 hw))
 ·exact Pe gd s σ H _ v V P lo hi sl Q I g hs q pu (a,xs,U,hx,hw,q2 hw)
def ET{α:Type}{xs:List α}{lo hi:Option Int}(h:HT.sIx xs.length 0 lo=0/\HT.sIx xs.length xs.length hi=xs.length):cY xs lo hi=xs:=by
 unfold cY;rw[h.1,h.2];simp
def SJ(K:BT):V->Option Int->Option Int->Hp->VK->Prop:=λx lo hi H Q=>SI K x lo hi H Q\/SG K x lo hi H Q\/SH x lo hi H Q
def U1(g:X.K=K):SlR X (SJ K):=by subst g;exact BR.or (KW.or Pf)
def qSl(qe:QE)(l u:QO):QE:=λq Q=>qe q λt=>l q λlo=>u q λhi=>match t with
 |.l xs=>T.ims xs=O/\Q (.l (cY xs lo hi))
 |.t xs=>T.ims xs=O/\Q (.t (cY xs lo hi))
 |.z ns=>Q (.l ((cY ns lo hi).map T.i))
 |.zl xs=>Q (.l (cY xs lo hi))
 |.s z=>z.length<=pq/\Q (.s (Txt.slice z lo hi))
 |_=>False
def dW{l u:Option Ev}{ak ar:TO}{aA aN:QO}(he:QPE X K e te qe)(hl:QPO X K l ak aA)(hu:QPO X K u ar aN)(hK:‹X.K=K›):QPF X K (.Subscript e (.Slice l u Y p2) pos) (tSl (SJ K) te ak ar) (qSl qe aA aN) :=
 (yc (U1 hK) he.h hl.h hu.h,λdl H σ q Q R rd hq k=>he.s dl H σ q _ _ rd hq λv t F H1 e1 r1 g=>hl.s dl H1 σ q _ _ (rd.evo e1) g λlo H2 e2 g=>hu.s dl H2 σ q _ _ ((rd.evo e1).evo e2) g λhi H3 e3 g=>by
  have r3:=(r1.evo e1.d e2).evo e2.d e3;have P:=(e1.trans e2).trans e3;have no:∀b,b∈([])->H b=none:=λ_ z=>nomatch z
  cases t with
  |l xs =>
   let(p,vs,G,U,U,h1,h2):=r3.r.lst;obtain rfl:=h2.im g.1;let(G,h3,s3):=h2.cut lo hi;obtain rfl:=XH.mp s3;refine .inl (p,vs,U,SqL.of h1,λp hp=>?_)
   have rs:Rps K dl H3 (mR vs lo hi) _ []:=(h3,λc hc=>nomatch hc)
   exact k _ _ _ _ (P.new hp) (rs.lst e3.d hp) (λb hb=>by rw[fy.mp hb];exact P.free hp) (by simp) g.2
  |t xs =>
   let(p,vs,U,h1,h2):=r3.r.tup;obtain rfl:=h2.im g.1;let(G,h3,s3):=h2.cut lo hi;obtain rfl:=XH.mp s3;refine .inr (.inl (p,vs,U,SqT.of h1,λhw=>?_,λ_ p hp=>?_))
   ·refine k _ _ _ _ P r3 no n6 ?_;rw[h2.len]at hw;have aP:=g.2;rw[ET hw]at aP;exact aP
   ·have rs:Rps K dl H3 (mR vs lo hi) _ []:=(h3,λc hc=>nomatch hc)
    exact k _ _ _ _ (P.new hp) (rs.tup e3.d hp) no n6 g.2
  |z ns =>
   let(p,U,h1,_):=r3.r.scr;refine .inl (p,_,U,h1.sq,λp hp=>?_)
   have e:mR (ns.map V.int) lo hi=(cY ns lo hi).map V.int:=by unfold mR cY;rw[dN,<- Xy,<- Xf]
   rw[e];have rs:Rps K dl H3 ((cY ns lo hi).map V.int) ((cY ns lo hi).map T.i) []:=(qP _,λc hc=>nomatch hc)
   exact k _ _ _ _ (P.new hp) (rs.lst e3.d hp) (λb hb=>by rw[fy.mp hb];exact P.free hp) (by simp) g
  |zl xs =>
   let(p,o,vs,U,U,h1,h2):=r3.r.zls;let(G,h3,s3):=h2.cut lo hi;obtain rfl:=XH.mp s3;refine .inl (p,vs,U,.inl (.inr (o,h1)),λp hp=>?_)
   have rs:Rps K dl H3 (mR vs lo hi) _ []:=(h3,λc hc=>nomatch hc)
   exact k _ _ _ _ (P.new hp) (rs.lst e3.d hp) (λb hb=>by rw[fy.mp hb];exact P.free hp) (by simp) g
  |s z =>
   let(U,U):=r3.r.str;exact .inr (.inr (_,U,g.1,k _ _ [] H3 P (.c (.s _)) no n6 g.2))
  |_=>exact g.elim)
abbrev QC:=List T->(T->Prop)->Prop
def mX(K:BT)(r:List V->Hp->VK->Prop)(rq:QC):Prop:=∀(dl:Dl)(H:Hp)(vs:List V)(ts:List T)(F:List J)(Q:T->Prop)(R:V->Hp->Prop),Dls dl H->Rps K dl H vs ts F->rq ts Q ->
 (∀v z F' H',Evo dl H H'->Rp K dl H' v z F'->(∀b∈F',H b=Y)->F'.Nodup->Q z->R v H')->r vs H R
def qCB(rq:QC)(ql:QA):QE:=λq Q=>ql q λts=>rq ts Q
def Gp{rq:QC}(h:mX K r rq)(hl:JS K n tl ql):gH K (tCB r tl) (qCB rq ql):=λdl H σ q Q R rd hq k=>hl dl H σ q _ _ rd hq λvs ts F H1 P r1 _ g =>
 h dl H1 vs ts F Q R P.d r1 g λv z F' H2 e2 V f2 n2 g=>k v z F' H2 (P.trans e2) V (λb hb=>P.free (f2 b hb)) n2 g
def dX{id:String}{rq:QC}(z:bY X (.builtin id) r)(hs:mX K r rq)(hg:Gl X x)(hm:X.mg x=Y)(hv:bootBuiltins x=Z (.builtin id))(ha:QPA X K (e::es) tl ql)(hn:autoParam (x ≠ "__name__") zdc._auto_1)(q:autoParam (AS x) zdc._auto_1)
  (he:‹AC X e es›) (g:‹AM X pos es›):QPF X K (.Call (.Name x p) (e::es) [] pos) (tCB r tl) (qCB rq ql):=(gQ z hg hm hv ha.h hn q he g,Gp hs ha.s)
def aR{id:String}{rq:QC}(z:bY X (.type id) r)(hs:mX K r rq)(hg:Gl X x)(hm:X.mg x=Y)(hv:bootBuiltins x=Z (.type id))(ha:QPA X K (e::es) tl ql)(hn:autoParam (x ≠ "__name__") zdc._auto_1)(q:autoParam (AS x) zdc._auto_1)
  (he:‹AC X e es›) (g:‹AM X pos es›):QPF X K (.Call (.Name x p) (e::es) [] pos) (tCB r tl) (qCB rq ql):=(uP z hg hm hv ha.h hn q he g,Gp hs ha.s)
def Rps.one{vs:List V}{t:T}{F:List J}(h:Rps K dl H vs [t] F):∃v,vs=[v]/\Rp K dl H v t F:=by
 let(r,n):=h;cases r with
 |cons q g =>
  cases g;rw[qg]at n;rw[qg];exact(_,U,q,n)
def Rps.two{vs:List V}{t u:T}{F:List J}(h:Rps K dl H vs [t,u] F):∃v w Q P,vs=[v,w]/\Rp K dl H v t Q/\Rp K dl H w u P:=by
 let(r,n):=h;cases r with
 |cons z q =>
  let(w,U,h2):=Rps.one (q,λb g=>n b (pA _ g))
  exact(_,w,_,_,U,(z,λb g=>n b (p7 _ g)),h2)
def GO(K:BT):List V->Hp->VK->Prop:=λxs H Q=>(∃p ys,xs=[.ref p]/\(SqL K H p ys\/SqT K H p ys)/\Q (.int ys.length) H)\/(∃z,xs=[.str z]/\z.length<=pq/\Q (.int z.length) H)\/∃a kvs,xs=[V.ref a]/\H a=Z (.dK kvs)/\Q (.int kvs.length) H
def E6(g:X.K=K):bY X (.builtin "len") (GO K):=by subst g;exact mU.or (xh.or E5)
def Aq:QC:=λts Q=>on1 ts λt=>match t with
 |.l xs=>Q (.i xs.length)
 |.t xs=>Q (.i xs.length)
 |.z xs=>Q (.i xs.length)
 |.zl xs=>Q (.i xs.length)
 |.d xs=>Q (.i xs.length)
 |.s x=>x.length<=pq/\Q (.i x.length)
 |_=>False
def Lb:mX K (GO K) Aq:=by
 intro dl H vs ts F Q R D r hq k;have fin:∀n,Q (.i n)->R (.int n) H:=λn hq=>k _ _ [] H (.refl D) (.c (.i _)) (λ_ z=>nomatch z) n6 hq
 replace hq:=on1.inv hq
 let(t,U,hq):=hq;let(v,U,g):=r.one;cases t with
 |l xs =>
  let(p,vs,G,U,_,h1,h2):=g.r.lst;exact .inl (p,vs,U,.inl (SqL.of h1),fin _ (by rw[h2.len];exact hq))
 |t xs =>
  let(p,vs,U,h1,h2):=g.r.tup;exact .inl (p,vs,U,.inr (SqT.of h1),fin _ (by rw[h2.len];exact hq))
 |z xs =>
  let(p,U,h1,_):=g.r.scr;exact .inl (p,_,U,.inl h1.sq,fin _ (by rw[dN];exact hq))
 |zl xs =>
  let(p,o,vs,U,_,h1,h2):=g.r.zls;exact .inl (p,vs,U,.inl (.inl (.inr (o,h1))),fin _ (by rw[h2.len];exact hq))
 |d xs =>
  let(p,vs,G,U,_,h1,h2):=g.r.dic;exact .inr (.inr (p,vs,U,h1,fin _ (by rw[h2.len];exact hq)))
 |s x =>
  let(U,_):=g.r.str;exact .inr (.inl (_,U,hq.1,fin _ hq.2))
 |_=>exact hq.elim
def qI2(g:Int->Int->Int):QC:=λts Q=>on2 ts λt u=>match t with
 |.i a=>match u with
  |.i b=>Q (.i (g a b))
  |_=>False
 |_=>False
def z9{g:Int->Int->Int}:mX K (λxs H Q=>∃i j,xs=[.int i,.int j]/\Q (.int (g i j)) H) (qI2 g):=by
 intro dl H vs ts F Q R D r hq k
 replace hq:=on2.inv hq
 let(t,u,U,hq):=hq
 split at hq
 ·split at hq
  ·let(v,w,F1,V,U,P,q):=r.two;let(U,_):=P.r.int;let(U,_):=q.r.int;exact(_,_,U,k _ _ [] H (.refl D) (.c (.i _)) (λ_ z=>nomatch z) n6 hq)
  ·exact hq.elim
 ·exact hq.elim
def Vb:QC:=λts Q=>on1 ts λt=>match t with
 |.i a=>Q (.i a)
 |.b k=>Q (.i (if k then 1 else 0))
 |_=>False
def BX:mX K (λxs H Q=>(∃i,xs=[.int i]/\Q (.int i) H)\/∃k,xs=[.bl k]/\Q (.int (if k then 1 else 0)) H) Vb:=by
 intro dl H vs ts F Q R D r hq k
 replace hq:=on1.inv hq
 let(t,U,hq):=hq;cases t with
 |i a =>
  let(v,U,g):=r.one;let(U,_):=g.r.int;exact .inl (_,U,k _ _ [] H (.refl D) (.c (.i _)) (λ_ z=>nomatch z) n6 hq)
 |b c =>
  let(v,U,g):=r.one;let(U,_):=g.r.bl;exact .inr (_,U,k _ _ [] H (.refl D) (.c (.i _)) (λ_ z=>nomatch z) n6 hq)
 |_=>exact hq.elim
def PF:QC:=λts Q=>on1 ts λt=>match t with
 |.l xs=>T.ims xs=O/\Q (.t xs)
 |.t xs=>T.ims xs=O/\Q (.t xs)
 |_=>False
def cp(g:X.K=K):bY X (.type "tuple") (λxs H Q=>∃p ys,xs=[.ref p]/\((SqL K H p ys/\∀l,H l=Y->Q (.ref l) (upd H l (.tup ys)))\/(SqT K H p ys/\Q (.ref p) H))):=by subst g;exact ur
def cj:mX K (λxs H Q=>∃p ys,xs=[.ref p]/\((SqL K H p ys/\∀l,H l=Y->Q (.ref l) (upd H l (.tup ys)))\/(SqT K H p ys/\Q (.ref p) H))) PF:=by
 intro dl H vs ts F Q R D r hq k;have no:∀b,b∈([])->H b=none:=λ_ z=>nomatch z
 replace hq:=on1.inv hq
 let(t,U,hq):=hq;cases t with
 |l xs =>
  let(v,U,g):=r.one;let(p,vs,G,U,U,h1,h2):=g.r.lst;obtain rfl:=h2.im hq.1;refine(p,vs,U,.inl (SqL.of h1,λl hl=>?_))
  have rs:Rps K dl H vs _ []:=(h2,λc q=>nomatch q)
  exact k _ _ _ _ ((Evo.refl D).new hl) (rs.tup D hl) no n6 hq.2
 |t xs =>
  let(v,U,g):=r.one;let(p,vs,U,h1,h2):=g.r.tup;obtain rfl:=h2.im hq.1;exact(p,vs,U,.inr (SqT.of h1,k _ _ [] H (.refl D) g no n6 hq.2))
 |_=>exact hq.elim
def PJ:QC:=λts Q=>on1 ts λt=>match t with
 |.l xs=>T.ims xs=O/\Q (.l xs)
 |.t xs=>T.ims xs=O/\Q (.l xs)
 |_=>False
def E4(g:X.K=K):bY X (.type "list") (λxs H Q=>∃p ys,xs=[.ref p]/\(SqL K H p ys\/SqT K H p ys)/\∀l,H l=Y->Q (.ref l) (upd H l (.lst ys))):=by subst g;exact xg
def DO:mX K (λxs H Q=>∃p ys,xs=[.ref p]/\(SqL K H p ys\/SqT K H p ys)/\∀l,H l=Y->Q (.ref l) (upd H l (.lst ys))) PJ:=by
 intro dl H vs ts F Q R D r hq k
 replace hq:=on1.inv hq
 let(t,U,hq):=hq;cases t with
 |l xs =>
  let(v,U,g):=r.one;let(p,vs,G,U,U,h1,h2):=g.r.lst;obtain rfl:=h2.im hq.1;refine(p,vs,U,.inl (SqL.of h1),λl hl=>?_)
  have rs:Rps K dl H vs _ []:=(h2,λc q=>nomatch q)
  exact k _ _ _ _ ((Evo.refl D).new hl) (rs.lst D hl) (λb z=>by rw[fy.mp z];exact hl) (by simp) hq.2
 |t xs =>
  let(v,U,g):=r.one;let(p,vs,U,h1,h2):=g.r.tup;obtain rfl:=h2.im hq.1;refine(p,vs,U,.inr (SqT.of h1),λl hl=>?_)
  have rs:Rps K dl H vs _ []:=(h2,λc q=>nomatch q)
  exact k _ _ _ _ ((Evo.refl D).new hl) (rs.lst D hl) (λb z=>by rw[fy.mp z];exact hl) (by simp) hq.2
 |_=>exact hq.elim
def picks{α:Type}(f:T->Option α):List T->Option (List α)
 |[]=>Z []
 |t::r=>(f t).bind λa=>(picks f r).map (a :: ·)
theorem ay.picks{dl:Dl}{H:Hp}{α:Type}{f:T->Option α}{g:α->V}(hf:∀(v:V)(t:T)(F:List J)(a:α),aI K dl H v t F->f t=Z a->v=g a){vs:List V}{ts:List T}{F:List J}(h:ay K dl H vs ts F):∀{bs:List α},L2.picks f ts=Z bs->vs=bs.map g :=
 h.ind (M:=λvs ts F=>∀{bs:List α},L2.picks f ts=Z bs->vs=bs.map g) (λe=>by cases e;rfl) λv t vs ts F G h _ q bs e=>by
  let(a,Q,P):=XF.mp e;let(as,z,U):=gV.mp P;rw[hf v t F a h Q,q z];rfl
def asB:T->Option Bool
 |.b x=>Z x
 |_=>Y
def asI:T->Option Int
 |.i x=>Z x
 |_=>Y
abbrev bls:List T->Option (List Bool):=picks asB
theorem ay.bls{dl:Dl}{H:Hp}{vs:List V}{ts:List T}{F:List J}{bs:List Bool}(h:ay K dl H vs ts F)(e:L2.bls ts=Z bs):vs=bs.map V.bl :=
 h.picks (λv t F a h e=>by cases t <;> first|(cases e;exact h.bl.1)|cases e) e
def Nj(bs:List Bool):bls (bs.map T.b)=Z bs:=by
 induction bs with
 |nil=>rfl
 |cons b r g=>show(bls (r.map T.b)).map (b :: ·)=_;rw[g];rfl
def Vc:QC:=λts Q=>on1 ts λt=>match t with
 |.l xs=>Ex3 (λbs=>bls xs=Z bs) (λbs=>(.b (bs.all id))) Q
 |_=>False
def E8(q:X.K=K)(g:X.calm=O):bY X (.builtin "all") (λxs H Q=>∃(l:J)(bs:List Bool),xs=[.ref l]/\SqL K H l (bs.map V.bl)/\Q (.bl (bs.all id)) H):=by subst q;exact JG g
def Lf:mX K (λxs H Q=>∃(l:J)(bs:List Bool),xs=[.ref l]/\SqL K H l (bs.map V.bl)/\Q (.bl (bs.all id)) H) Vc:=by
 intro dl H vs ts F Q R D r hq k
 replace hq:=on1.inv hq
 let(t,U,hq):=hq
 split at hq
 ·let(v,U,g):=r.one;let(p,vs,G,U,U,h1,h2):=g.r.lst;let(bs,q,hq):=hq;have e:=h2.bls q;subst e;exact(p,bs,U,SqL.of h1,k _ _ [] H (.refl D) (.c (.b _)) (λ_ z=>nomatch z) n6 hq)
 ·exact hq.elim
def T.tyN:T->Option String
 |.n=>Z "NoneType" |.b _=>Z "bool" |.i _=>Z "int" |.s _=>Z "str" |.l _=>Z "list" |.q=>Z "list" |.t _=>Z "tuple" |.d _=>Z "dict" |_=>Y
def aI.UZ{v:V}{t:T}{F:List J}{n:String}(h:aI K dl H v t F)(e:t.tyN=Z n):ko K H v (.type n):=by
 cases h <;> first|(cases e;constructor;assumption)|(cases e;constructor)|(cases e)
theorem vh(g:X.K=K):bY X (.builtin "isinstance") (λxs H Q=>∃x T t b,xs=[x,.ty T]/\ko K H x t/\W.kitOne K t (.type T)=Z b/\Q (.bl b) H):=by subst g;exact JF
def T6(a b:String):Bool:=a==b ||(a == "bool" && b == "int")
def S9:QC:=λts Q=>match ts with
 |[t,.ty n]=>match t.tyN with
  |some m=>(n == "tuple" || n == "list" || n == "str" || n == "int" || n == "bool" || n == "dict")=O/\Q (.b (T6 m n))
  |none=>False
 |_=>False
theorem MO{n m:String}(h:(n == "tuple" || n == "list" || n == "str" || n == "int" || n == "bool" || n == "dict")=O)(hm:m ∈ ["NoneType","bool","int","str","list","tuple","dict"]):W.kitOne K (.type m) (.type n)=Z (T6 m n):=by
 simp only[Bool.or_eq_true,beq_iff_eq]at h;simp only[ot,x2,or_false]at hm;obtain((((rfl|rfl)|rfl)|rfl)|rfl)|rfl:=h <;> obtain rfl|rfl|rfl|rfl|rfl|rfl|rfl:=hm <;> rfl
def KJ{t:T}{m:String}(h:t.tyN=Z m):m ∈ ["NoneType","bool","int","str","list","tuple","dict"]:=by
 cases t <;> cases h <;> decide
theorem BV:mX K (λxs H Q=>∃x T t b,xs=[x,.ty T]/\ko K H x t/\W.kitOne K t (.type T)=Z b/\Q (.bl b) H) S9:=by
 intro dl H vs ts F Q R D r hq k;unfold S9 at hq
 split at hq
 ·let(v,w,V,P,U,q,g):=r.two;have e:=g.r.tyy;subst e
  split at hq
  ·rename_i m em;exact(v,_,_,_,U,q.r.UZ em,MO hq.1 (KJ em),k _ _ [] H (.refl D) (.c (.b _)) (λ_ z=>nomatch z) n6 hq.2)
  ·exact hq.elim
 ·exact hq.elim
def KR(ns:List Int):preSum (λi=>ns.getD i 0) ns.length=ns.sum:=by
 have h:∀n,n<=ns.length->preSum (λi=>ns.getD i 0) n=(ns.take n).sum:=λn=>by
  induction n with
  |zero=>simp[preSum]
  |succ n q =>
   intro hn;have g:=by omega
   show preSum _ n+ns.getD n 0=_;rw[q (by lia),ro,QL,fZ g]
   simp only[Option.toList_some,List.sum_append,WZ,List.sum_nil,Option.getD_some,Int.add_zero]
 rw[h _ (nY _),rr]
def FE{i:Nat}{v:B}(r:Vals (ns.map V.int) us)(h:us[i]?=Z v):∃t,v=.int (ns.getD i 0) t:=by
 have hl:=r.length;rw[dN]at hl;have hi:i<ns.length:=by have:=(jS.mp h).1;lia
 let(u,h1,t,h2):=r.get (i:=i) (x:=.int ns[i]) (by simp[hi])
 rw[h]at h1;cases h1;exact(t,by rw[h2];simp[hi])
def EZ(hK:X.K=K)(hc:X.calm=O):bY X (.builtin "sum") (λxs H Q=>∃(l:J)(ns:List Int),xs=[.ref l]/\SqL K H l (ns.map V.int)/\Q (.int ns.sum) H):=by
 subst hK;intro gd s σ H xs us Q I r h;let(l,ns,U,hl,q):=h;let(u,U,ru):=vals1 r;cases ru;let(its,rv,z,hz):=I.list hl;have g:l<s.heap.objs.size:=by let(_,e,_):=z.isList;exact jR e
 have hlen:its.toArray.size=ns.length:=by
  have e:=rv.length;rw[dN]at e;simp[e]
 refine call_sum_walkG (wpAny_pyIter_list z.isList ((s.heap.objs.size,[s.heap.objs.size,l],[s.heap.objs.size],its.toArray.size,_,_,λi=>ns.getD i 0,U,Walks.list (show X.A.in1.handled=Y from I.ok.hd hc) s.heap.objs.size l (rz g) its.toArray,((_,px _ U,U,U),z.isList.push _),?_,?_,λh' tk t' hk=>?_)))
 ·intro b P;rw[v3];obtain e|P:=ot.mp P
  ·rw[e];exact Wl _
  ·rw[fy.mp P];exact WR g
 ·intro i v hP;exact FE rv (by simpa using hP)
 ·refine(.int ns.sum,H,I.kept λb o e=>hk b o (by simpa using rz (jR e)) (ft _ e),(t',?_),q)
  rw[hlen,KR]
abbrev ins:List T->Option (List Int):=picks asI
theorem ay.ins{dl:Dl}{H:Hp}{vs:List V}{ts:List T}{F:List J}{bs:List Int}(h:ay K dl H vs ts F)(e:L2.ins ts=Z bs):vs=bs.map V.int :=
 h.picks (λv t F a h e=>by cases t <;> first|(cases e;exact h.int.1)|cases e) e
def ins_map(bs:List Int):ins (bs.map T.i)=Z bs:=by
 induction bs with
 |nil=>rfl
 |cons b r g=>show(ins (r.map T.i)).map (b :: ·)=_;rw[g];rfl
def U8:QC:=λts Q=>on1 ts λt=>match t with
 |.l xs=>Ex3 (λbs=>ins xs=Z bs) (λbs=>(.i bs.sum)) Q
 |_=>False
def K4:mX K (λxs H Q=>∃(l:J)(ns:List Int),xs=[.ref l]/\SqL K H l (ns.map V.int)/\Q (.int ns.sum) H) U8:=by
 intro dl H vs ts F Q R D r hq k
 replace hq:=on1.inv hq
 let(t,U,hq):=hq
 split at hq
 ·let(v,U,g):=r.one;let(p,vs,G,U,U,h1,h2):=g.r.lst;let(bs,q,hq):=hq;have e:=h2.ins q;subst e;exact(p,bs,U,SqL.of h1,k _ _ [] H (.refl D) (.c (.i _)) (λ_ z=>nomatch z) n6 hq)
 ·exact hq.elim
end
structure dz where
 nx:Sq->Prop
 rt:T->Prop
 bk:Sq->Prop:=λ_=>False
 ct:Sq->Prop:=λ_=>False
 ru:Sq->T->Prop:=λ_ _=>False
abbrev QS:=dz->Sq->Prop
def dz.lp(D:dz)(N:Sq->Prop):dz:={D with nx:=N,ct:=N,bk:=D.nx}
def dz.fn(Q:T->Prop):dz:={nx:=λ_=>Q .n,rt:=Q}
structure Frm(dl:Dl)(H₀ H:Hp):Prop where
 k:∀b o,H₀ b=Z o->Nd dl b->NR o->H b=Z o
 r:∀a x,H₀ a=Z (.room x)->∃y,y<=x/\H a=Z (.room y)
variable{H₀:Hp}
def Frm.evo(f:Frm dl H₀ H)(D:Dls dl H):Evo dl H₀ H:=(f.k,D,f.r)
def Frm.refl:Frm dl H H:=(λ_ _ h _ _=>h,λ_ x h=>(x,Wj _,h))
variable{H':Hp}
def Frm.trans(f:Frm dl H₀ H)(e:Evo dl H H'):Frm dl H₀ H':=(λb o h n r=>e.k b o (f.k b o h n r) n r,λa x h=>let(y,q,h1):=f.r a x h;let(z,g,h2):=e.r a y h1;(z,Yk g q,h2))
structure Rel(K:BT)(dl:Dl)(H₀:Hp)(hs:List (V×T))(H:Hp)(σ:St)(q:Sq)(F:Nat->List J):Prop where
 d:Dls dl H
 g:∀(i:Nat)(x:Sl)(t:T),q[i]?=Z x->x.get=Z t->∃v,σ[i]?=Z (Z v)/\Rp K dl H v t (F i)
 n:∀(i:Nat)(x:Sl),q[i]?=Z x->x.get=Y->F i=[]
 z:∀(i:Nat),q.length<=i->F i=[]
 o:∀(i:Nat)(t:T),q[i]?=Z (.o t)->(F i).Nodup/\(∀b∈F i,H₀ b=Y)/\(∀j,j≠i->∀b∈F i,b ∉ F j)
 h:∀p∈hs,∃Fp,Rp K dl H p.1 p.2 Fp/\∀(i:Nat)(t:T),q[i]?=Z (.o t)->∀b∈F i,b ∉ Fp
 f:Frm dl H₀ H
 l:q.length=σ.length
def fc(K:BT)(dl:Dl)(H₀:Hp)(hs:List (V×T))(H:Hp)(σ:St)(q:Sq):Prop:=∃F,Rel K dl H₀ hs H σ q F
variable{F':List J}{o:HO}
section
variable{K:BT}{hs:List (V×T)}{σ:St}{q:Sq}{F:Nat->List J}
def Rel.rd(r:Rel K dl H₀ hs H σ q F):RdR K dl H σ q:=(r.d,λi x t h1 h2=>let(v,e,p):=r.g i x t h1 h2;(v,F i,e,p))
def Rel.fz(r:Rel K dl H₀ hs H σ q F){b:J}(h:H b=Y):H₀ b=none:=(r.f.evo r.d).free h
def Rel.gx(r:Rel K dl H₀ hs H σ q F){i:Nat}{b:J}(P:b∈F i):gq H b:=by
 by_cases hi:i<q.length
 ·have e:q[i]?=Z q[i]:=by simp[hi]
  cases ex:q[i].get with
  |none=>rw[r.n i _ e ex]at P;cases P
  |some t =>
   let(v,_,p):=r.g i _ t e ex;exact p.r.there b P
 ·rw[r.z i (by lia)]at P;cases P
theorem Rel.evo(r:Rel K dl H₀ hs H σ q F)(e:Evo dl H H'):Rel K dl H₀ hs H' σ q F where
 d:=e.d
 g:=λi x t h1 h2=>let(v,P,p):=r.g i x t h1 h2;(v,P,p.evo r.d e)
 n:=r.n
 z:=r.z
 o:=r.o
 h:=λp hp=>let(Fp,h1,h2):=r.h p hp;(Fp,h1.evo r.d e,h2)
 f:=r.f.trans e
 l:=r.l
def xO(F:Nat->List J)(i:Nat)(x:List J):Nat->List Addr:=λj=>if j=i then x else F j
def bo{i:Nat}{x:List J}:xO F i x i=x:=if_pos U
def aV{i:Nat}{x:List J}(h:j≠i):xO F i x j=F j:=if_neg h
def get_set{α:Type}{xs:List α}{i:Nat}{x y:α}(h:(xs.set i x)[j]?=Z y):(j=i/\y=x/\i<xs.length)\/(j≠i/\xs[j]?=Z y):=by
 by_cases e:j=i
 ·subst e;rw[List.getElem?_set_self']at h;by_cases hl:j<xs.length
  ·rw[fZ hl]at h;exact .inl (U,(Option.some.inj h).symm,hl)
  ·rw[Uk (by lia)]at h;cases h
 ·rw[M1 (λz=>e z.symm)]at h
  exact .inr (e,h)
def Rel.put{i:Nat}{v:V}{t:T}(r:Rel K dl H₀ hs H σ q F)(hi:i<q.length)(e:Evo dl H H')(hv:Rp K dl H' v t F')(hf:∀b∈F',H b=Y)(hn:F'.Nodup):Rel K dl H₀ hs H' (σ.set i (Z v)) (q.set i (.o t)) (xO F i F'):=by
 have r':=r.evo e;have out:∀j,∀b∈F',b ∉ F j:=λj b P Q=>(r.gx Q).no (hf b P)
 refine(e.d,λj x u h1 h2=>?_,λj x h1 h2=>?_,λj Q=>?_,λj u h1=>?_,λp hp=>?_,r'.f,by simp[r.l])
 ·obtain⟨rfl,rfl,_⟩|⟨ne,h1⟩:=get_set h1
  ·cases h2;exact(v,by rw[Wr (by rw[<- r.l];exact hi)],by rw[bo];exact hv)
  ·let(w,h3,h4):=r'.g j x u h1 h2;exact(w,by rw[M1 (λz=>ne z.symm)];exact h3,by rw[aV ne];exact h4)
 ·obtain⟨rfl,rfl,_⟩|⟨ne,h1⟩:=get_set h1
  ·cases h2
  ·rw[aV ne];exact r.n j x h1 h2
 ·rw[Wn]at Q;rw[aV (by lia)]
  exact r.z j Q
 ·obtain⟨rfl,_,_⟩|⟨ne,h1⟩:=get_set h1
  ·rw[bo];exact(hn,λb P=>r.fz (hf b P),λk hk b P=>by rw[aV hk];exact out k b P)
  ·rw[aV ne];let(o1,o2,o3):=r.o j u h1;refine(o1,o2,λk hk b P=>?_)
   by_cases ek:k=i
   ·subst ek;rw[bo];exact λz=>out j b z P
   ·rw[aV ek];exact o3 k hk b P
 ·let(Fp,h1,h2):=r.h p hp;refine(Fp,h1.evo r.d e,λj u Q b P z=>?_)
  obtain⟨rfl,_,_⟩|⟨ne,Q⟩:=get_set Q
  ·rw[bo]at P;exact gq.no (h1.r.there b z) (hf b P)
  ·rw[aV ne]at P;exact h2 j u Q b P z
def Rel.LQ{i:Nat}{v:V}{t:T}(r:Rel K dl H₀ hs H σ q F)(hi:i<q.length)(hv:Rp K dl H v t F')(hf:∀(j:Nat)(u:T),q[j]?=Z (.o u)->j≠i->∀b∈F j,b ∉ F'):Rel K dl H₀ hs H (σ.set i (Z v)) (q.set i (.r t)) (xO F i F'):=by
 refine(r.d,λj x u h1 h2=>?_,λj x h1 h2=>?_,λj P=>?_,λj u h1=>?_,λp hp=>?_,r.f,by simp[r.l])
 ·obtain⟨rfl,rfl,_⟩|⟨ne,h1⟩:=get_set h1
  ·cases h2;exact(v,by rw[Wr (by rw[<- r.l];exact hi)],by rw[bo];exact hv)
  ·let(w,h3,h4):=r.g j x u h1 h2;exact(w,by rw[M1 (λz=>ne z.symm)];exact h3,by rw[aV ne];exact h4)
 ·obtain⟨rfl,rfl,_⟩|⟨ne,h1⟩:=get_set h1
  ·cases h2
  ·rw[aV ne];exact r.n j x h1 h2
 ·rw[Wn]at P;rw[aV (by omega)]
  exact r.z j P
 ·obtain⟨rfl,e,_⟩|⟨ne,h1⟩:=get_set h1
  ·cases e
  ·rw[aV ne];let(o1,o2,o3):=r.o j u h1;refine(o1,o2,λk hk b Q=>?_)
   have z:=hf j u h1 ne b Q;by_cases ek:k=i
   ·subst ek;rw[bo];exact z
   ·rw[aV ek];exact o3 k hk b Q
 ·let(Fp,h1,h2):=r.h p hp;refine(Fp,h1,λj u P b Q z=>?_)
  obtain⟨rfl,e,_⟩|⟨ne,P⟩:=get_set P
  ·cases e
  ·rw[aV ne]at Q;exact h2 j u P b Q z
def Rel.hold{v:V}{t:T}(r:Rel K dl H₀ hs H σ q F)(hv:Rp K dl H v t F')(hf:∀(j:Nat)(u:T),q[j]?=Z (.o u)->∀b∈F j,b ∉ F'):Rel K dl H₀ ((v,t)::hs) H σ q F :=
 (r.d,r.g,r.n,r.z,r.o,λp hp=>by
  obtain e|hp:=ot.mp hp
  ·subst e;exact(F',hv,hf)
  ·exact r.h p hp,r.f,r.l)
def Rel.down{i:Nat}{t:T}(r:Rel K dl H₀ hs H σ q F)(hi:q[i]?=Z (.o t)):Rel K dl H₀ hs H σ (q.set i (.r t)) F:=by
 refine(r.d,λj x u h1 h2=>?_,λj x h1 h2=>?_,λj P=>r.z j (by rw[Wn]at P;exact P),λj u h1=>?_,λp hp=>?_,r.f,by simp[r.l])
 ·obtain⟨rfl,rfl,_⟩|⟨ne,h1⟩:=get_set h1
  ·cases h2;exact r.g j _ t hi U
  ·exact r.g j x u h1 h2
 ·obtain⟨rfl,rfl,_⟩|⟨ne,h1⟩:=get_set h1
  ·cases h2
  ·exact r.n j x h1 h2
 ·obtain⟨rfl,e,_⟩|⟨ne,h1⟩:=get_set h1
  ·cases e
  ·exact r.o j u h1
 ·let(Fp,h1,h2):=r.h p hp;refine(Fp,h1,λj u P=>?_)
  obtain⟨rfl,e,_⟩|⟨ne,P⟩:=get_set P
  ·cases e
  ·exact h2 j u P
def Rel.write{i:Nat}{v:V}{t t':T}{p:J}(r:Rel K dl H₀ hs H σ q F)(hi:q[i]?=Z (.o t))(hv:σ[i]?=Z (Z v))(hp:p∈F i)(ho:∀xs,H p=Z (.lst xs)->∃ys,o=.lst ys)(hr:Rp K dl (upd H p o) v t' F')(hn:F'.Nodup)
  (hf:∀b∈F',b∈F i\/(H₀ b=Y/\(∀j,b ∉ F j)/\∀w u Fp,Rp K dl H w u Fp->(w,u)∈hs->b ∉ Fp)):Rel K dl H₀ hs (upd H p o) σ (q.set i (.o t')) (xO F i F'):=by
 let(o1,o2,o3):=r.o i t hi;have ar:=(jS.mp hi).1;let(v',ak,rp):=r.g i _ t hi U;have pn:=rp.n p hp;have Q:=r.gx hp;have tf:TF H (upd H p o):=(λa vs h=>(by
  rw[aj];exact h;intro z;subst z;let(_,e,m):=Q;rw[h]at e;cases e;cases m),λa ob u h=>(by
  rw[aj];exact h;intro z;subst z;let(_,e,m):=Q;rw[h]at e;cases e;cases m),λa φ h=>(by
  rw[aj];exact h;intro z;subst z;let(_,e,m):=Q;rw[h]at e;cases e;cases m),λa xs h=>(by
  by_cases z:a=p
  ·subst z;let(ys,e):=ho xs h;exact(ys,by rw[au,e])
  ·exact(xs,by rw[aj z];exact h)),λa x h=>(x,Wj _,by
  rw[aj];exact h;intro z;subst z;let(_,e,m):=Q;rw[h]at e;cases e;cases m))
 have st:∀{w:V}{u:T}{Fw:List J},Rp K dl H w u Fw->p ∉ Fw->Rp K dl (upd H p o) w u Fw:=λ{w u Fw} h np =>
  (h.r.dj tf (λ_ z=>z) λb P ob e=>(by
   have ne:b≠p:=by
    intro z;subst z;exact np P
   rw[aj ne];exact e),h.n)
 refine(λd hd=>(r.d d hd).other (pn d hd).1 (pn d hd).2,λj x u h1 h2=>?_,λj x h1 h2=>?_,λj hj=>?_,λj u h1=>?_,λw hw=>?_,(λb ob P nb nr=>?_,λb x P=>?_),by simp[r.l])
 ·obtain⟨rfl,rfl,_⟩|⟨ne,h1⟩:=get_set h1
  ·cases h2;exact(v,hv,by rw[bo];exact hr)
  ·let(w,h3,h4):=r.g j x u h1 h2;exact(w,h3,by rw[aV ne];exact st h4 (o3 j ne p hp))
 ·obtain⟨rfl,rfl,_⟩|⟨ne,h1⟩:=get_set h1
  ·cases h2
  ·rw[aV ne];exact r.n j x h1 h2
 ·rw[Wn]at hj;rw[aV (by omega)]
  exact r.z j hj
 ·obtain⟨rfl,e,_⟩|⟨ne,h1⟩:=get_set h1
  ·rw[bo];refine(hn,λb P=>?_,λk hk b P=>?_)
   ·obtain z|z:=hf b P
    ·exact o2 b z
    ·exact z.1
   ·rw[aV hk];obtain z|z:=hf b P
    ·exact o3 k hk b z
    ·exact z.2.1 k
  ·rw[aV ne];let(p1,p2,p3):=r.o j u h1;refine(p1,p2,λk hk b P=>?_)
   by_cases ek:k=i
   ·subst ek;rw[bo];intro z;obtain z|z:=hf b z
    ·exact o3 j ne b z P
    ·exact z.2.1 j P
   ·rw[aV ek];exact p3 k hk b P
 ·let(Fp,h1,h2):=r.h w hw;refine(Fp,st h1 (h2 i t hi p hp),λj u hj b P z=>?_)
  obtain⟨rfl,e,_⟩|⟨ne,hj⟩:=get_set hj
  ·rw[bo]at P;obtain y|y:=hf b P
   ·exact h2 j t hi b y z
   ·exact y.2.2 w.1 w.2 Fp h1 hw z
  ·rw[aV ne]at P;exact h2 j u hj b P z
 ·rw[aj]
  ·exact r.f.k b ob P nb nr
  ·intro z;subst z;rw[o2 b hp]at P;cases P
 ·let(y,hy,e):=r.f.r b x P;refine(y,hy,?_);rw[aj]
  ·exact e
  ·intro z;subst z;rw[o2 b hp]at P;cases P
end
structure BJ(K:BT)(dl:Dl)(H₀:Hp)(hs:List (V×T))(Dq:dz)(D:Ends):Prop where
 nx:∀H σ q,fc K dl H₀ hs H σ q->Dq.nx q->D.nx σ H
 bk:∀H σ q,fc K dl H₀ hs H σ q->Dq.bk q->D.bk σ H
 ct:∀H σ q,fc K dl H₀ hs H σ q->Dq.ct q->D.ct σ H
 rt:∀v t F H,Dls dl H->Rp K dl H v t F->(∀b∈F,H₀ b=Y)->F.Nodup->Frm dl H₀ H->Dq.rt t->D.rt v H
 ru:∀H σ q F0 v t F,Rel K dl H₀ hs H σ q F0->Rp K dl H v t F->(∀b∈F,H₀ b=Y)->F.Nodup->(∀j,∀b∈F,b ∉ F0 j)->Dq.ru q t->D.rt v H
def lB(K:BT)(ts:TS)(qs:QS):Prop:=∀(dl:Dl)(H₀:Hp)(hs:List (V×T))(H:Hp)(σ:St)(q:Sq)(Dq:dz)(D:Ends),fc K dl H₀ hs H σ q->qs Dq q->BJ K dl H₀ hs Dq D->ts D σ H
structure QPS(X:Cx)(K:BT)(st:EQ)(ts:TS)(qs:QS):Prop where
 h:PS X st ts
 s:lB K ts qs
structure pj(X:Cx)(K:BT)(st:List EQ)(ts:TS)(qs:QS):Prop where
 h:PSs X st ts
 s:lB K ts qs
variable{q:Sq}{pos':Pos}
section
variable{X:Cx}{K:BT}{st:EQ}{rest sa sb:List EQ}{t u:TS}{qt qu:QS}{e c:Ev}{te:TE}{qe:QE}{tc:TT}{qc:QT}{pos:Pos}
def x3:QS:=λD q=>D.nx q
def dz.seq(D:dz)(u:QS):dz:={D with nx:=u D}
def qX(t u:QS):QS:=λD q=>t (D.seq u) q
def aB:pj X K [] NG x3:=(Ca,λ_ _ _ H σ q _ _ r hq E=>E.nx H σ q r hq)
def ag(h1:QPS X K st t qt)(h2:pj X K rest u qu):pj X K (st::rest) (OY t u) (qX qt qu):=(bz h1.h h2.h,λdl H₀ hs H σ q Dq D r hq E =>
 h1.s dl H₀ hs H σ q _ _ r hq (λH σ q z g=>h2.s dl H₀ hs H σ q _ _ z g E,E.bk,E.ct,E.rt,E.ru))
def ao(h1:QPS X K st t qt):pj X K [st] t qt:=(eQ h1.h,h1.s)
def aC(he:QPF X K e te qe):QPS X K (.Return (Z e) pos) (OZ te) (λD q=>qe q D.rt):=(qY he.h,λdl H₀ hs H σ q Dq D (F,r) hq E =>
 he.s dl H σ q _ _ r.rd hq λv t F' H' g z f1 P Q=>E.rt v t F' H' g.d z (λb V=>r.fz (f1 b V)) P (r.evo g).f Q)
def fC{i:Nat}(he:PE X e (bZ i)):QPS X K (.Return (Z e) pos) (OZ (bZ i)) (λD q=>match q[i]? with|some (.o t)=>D.rt t|_=>False):=(qY he,λdl H₀ hs H σ q Dq D (F,r) hq E=>by
 split at hq
 ·rename_i t z;let(v,hv,P):=r.g i _ t z U;let(o1,o2,Q):=r.o i t z;exact(v,hv,E.rt v t (F i) H r.d P o2 o1 r.f hq)
 ·exact hq.elim)
def DX(c:QT)(t u:QS):QS:=λD q=>c q λb=>if b=O then t D q else u D q
def aU(z:QPT X K c tc qc)(ha:pj X K sa t qt)(P:pj X K sb u qu):QPS X K (.If c sa sb pos) (O4 tc t u) (DX qc qt qu):=(Hx z.h ha.h P.h,λdl H₀ hs H σ q Dq D (F,r) hq E =>
 z.s dl H σ q _ _ r.rd hq λb H' Q g=>by
  cases b with
  |true=>exact ha.s dl H₀ hs H' σ q Dq D (F,r.evo Q) g E
  |false=>exact P.s dl H₀ hs H' σ q Dq D (F,r.evo Q) g E)
def qW(i:Nat)(qe:QE):QS:=λD q=>qe q λt=>D.nx (q.set i (.o t))
def Rel.Hs{hs:List (V×T)}{σ:St}{F:Nat->List J}{i:Nat}{v:V}{t:T}(r:Rel K dl H₀ hs H σ q F)(e:Evo dl H H')(hv:Rp K dl H' v t F')(hf:∀b∈F',H b=Y)(hn:F'.Nodup):fc K dl H₀ hs H' (σ.set i (Z v)) (q.set i (.o t)):=by
 by_cases hi:i<q.length
 ·exact(_,r.put hi e hv hf hn)
 ·have hl:=r.l;rw[WC (by lia),WC (by lia)]
  exact(F,r.evo e)
def BS{i:Nat}(he:gH K te qe):lB K (ja te (fW i)) (qW i qe):=λdl H₀ hs H σ q Dq D (F,r) hq E=>he dl H σ q _ _ r.rd hq λv t F' H' Q g f1 z P=>E.nx H' _ _ (r.Hs Q g f1 z) P
def Pu{i:Nat}(g:X.N.Nodup)(hi:X.N[i]?=Z x)(hx:Loc X.env.scope x)(he:QPF X K e te qe)(hs:‹swapsWith e (Z (.Name x pos')) pos.line X.env=pure false›)(hf:AT X x:=by first|exact .inl rfl|exact .inr rfl|assumption):
  QPS X K (.Assign [.Name x pos'] e pos) (ja te (fW i)) (qW i qe):=(iy g hi hx he.h hs hf,BS he.s)
inductive UR(tb:QS)(D:dz)(W:Nat->Sq->Prop)(m:Nat)(q:Sq):Prop
 |mk(N:Sq->Prop)(less:∀q',N q'->∃m',m'<m/\W m' q')(body:tb (D.lp N) q)
inductive WhileI(c:QT)(tb:QS)(D:dz)(q:Sq):Prop
 |mk (W:Nat->Sq->Prop) (h0:∃m,W m q) (turn:∀m q,W m q->c q λb=>if b=O then UR tb D W m q else D.nx q)
def PC(c:QT)(tb:QS):QS:=λD q=>WhileI c tb D q
def xW(hp:X6 (model X.prog X.w) X.A X.env X.xe)(P:QPT X K c tc qc)(Q:pj X K rest t qt):QPS X K (.While c rest [] pos) (zV tc t) (PC qc qt):=(x8 hp P.h Q.h,λdl H₀ hs H σ q Dq D r hq E=>by
 let(W,(m0,w0),turn):=hq;refine(λm σ H=>∃q,fc K dl H₀ hs H σ q/\W m q,(m0,q,r,w0),?_)
 rintro m σ H ⟨q,⟨F,r⟩,w⟩
 refine P.s dl H σ q _ _ r.rd (turn m q w) λb H1 V z=>?_
 cases b with
 |false=>exact E.nx H1 σ q (F,r.evo V) z
 |true =>
  let(N,hN,z):=z;refine(λg H'=>∃q',fc K dl H₀ hs H' g q'/\N q',λg H' (q',r',n')=>?_,?_)
  ·let(m',hm,w'):=hN q' n';exact(m',hm,q',r',w')
  ·exact Q.s dl H₀ hs H1 σ q _ _ (F,r.evo V) z (λH σ q r n=>(q,r,n),λH σ q r n=>E.nx H σ q r n,λH σ q r n=>(q,r,n),E.rt,E.ru))
end
abbrev PSp:=List T->(T->Prop)->Prop
inductive spQ(K:BT)(ps:PSp)(vs:List V)(H:Hp)(Q:VK)(_:XK):Prop
 |mk(dl:Dl)(ts:List T)(F:List J)(Qp:T->Prop)(h1:Dls dl H)(h2:Rps K dl H vs ts F)(h3:ps ts Qp)(h4:∀v t F' H',Evo dl H H'->Rp K dl H' v t F'->(∀b∈F',H b=Y)->F'.Nodup->Qp t->Q v H')
section
variable{X:Cx}{K:BT}{e:Ev}{es:List Ev}{tl:TA}{ql:QA}{pos p:Pos}{k:Nat}{f:J}{fd:Ch}{prs:List Str}{ps:PSp}
def fS(ps:PSp)(ql:QA):QE:=λq Q=>ql q λts=>ps ts Q
def Gq(ha:JS K n tl ql):gH K (BP (spQ K ps) [] E0 tl) (fS ps ql):=λdl H σ q Q R rd hq k=>ha dl H σ q _ _ rd hq λvs ts F H1 z P _ g=>by
 rw[qg];exact(dl,ts,F,Q,z.d,P,g,λv t F' H' e r f n g=>k v t F' H' (z.trans e) r (λb V=>z.free (f b V)) n g)
theorem LJ(F:bf X.prog X.w X.K X.mg X.base CX0 k f fd prs (spQ K ps))(hr:cK k X.A)(hg:Gl X x)(hm:X.mg x=Z (.ref f))(hk:W.keepIn X.K (.ref f)=O)(z:Binds X.K fd prs [])(ha:QPA X K (e::es) tl ql)
  (q:autoParam (AS x) zdc._auto_1) (he:‹AC X e es›) (g:‹AM X pos es›):
  QPF X K (.Call (.Name x p) (e::es) [] pos) (BP (spQ K ps) [] E0 tl) (fS ps ql):=(Cg F hr hg hm hk z .nil HX ha.h q he g,Gq ha.s)
end
theorem nF{K:BT}{vs:List V}{ts:List T}{F:List J}(D:Dls dl H)(r:Rps K dl H vs ts F)(hn:vs.length<=n):fc K dl H [] H (vs.map Z++Fi (n - vs.length) Y) (ts.map Sl.r++Fi (n - vs.length) .no):=by
 have hl:=r.r.len;have main:∀{vs:List V}{ts:List T}{F:List J},ay K dl H vs ts F->(∀b∈F,Nd dl b)->∃g:Nat->List J,(∀i t,ts[i]?=Z t->∃v,vs[i]?=Z v/\Rp K dl H v t (g i))/\∀i,ts.length<=i->g i=[]:=by
  intro vs ts F h
  induction ts generalizing vs F with
  |nil=>intro _;exact(λ_=>[],λi t e=>by simp at e,λ_ _=>rfl)
  |cons t ts ih =>
   cases h with
   |@cons v0 _ ak _ F1 G1 h1 h2 =>
    intro hn;let(g,g1,g2):=ih h2 λb P=>hn b (pA _ P)
    refine(λi=>match i with | 0=>F1|i+1=>g i,λi u e=>?_,λi hi=>?_)
    ·cases i with
     |zero =>
      simp at e;subst e;exact(_,by simp,h1,λb P=>hn b (p7 _ P))
     |succ i =>
      let(v,q,Q):=g1 i u (by simpa using e)
      exact(v,by simpa using q,Q)
    ·cases i with
     |zero=>simp at hi
     |succ i=>exact g2 i (by simpa using hi)
 let(g,g1,g2):=main r.r r.n;have lk:∀i y,(ts.map Sl.r++Fi (n - vs.length) Sl.no)[i]?=Z y->(∃t,ts[i]?=Z t/\y=.r t)\/(ts.length<=i/\y=.no):=λi y h=>by
  by_cases hi:i<ts.length
  ·rw[vr (by simpa using hi),gs,fZ hi]at h
   exact .inl (ts[i],by simp,(Option.some.inj h).symm)
  ·rw[C5 (by simpa using hi),XA]at h
   split at h
   ·exact .inr (by lia,(Option.some.inj h).symm)
   ·cases h
 refine(g,D,λi y t h1 h2=>?_,λi y h1 h2=>?_,λi hi=>?_,λi t h1=>?_,λp hp=>(by cases hp),.refl,by simp[hl])
 ·obtain⟨u,e,rfl⟩|⟨_,rfl⟩:=lk i y h1
  ·cases h2;let(v,q,Q):=g1 i t e;refine(v,?_,Q);have hi:=(jS.mp q).1;rw[vr (by simpa using hi),gs,q]
   rfl
  ·cases h2
 ·obtain⟨u,e,rfl⟩|⟨hi,rfl⟩:=lk i y h1
  ·cases h2
  ·exact g2 i hi
 ·refine g2 i ?_;simp at hi
  lia
 ·obtain⟨u,e,z⟩|⟨_,z⟩:=lk i _ h1 <;> cases z
variable{P:Da}{mg:Str->Option B}{base:Do}{qual:Str}{st:EQ}{fd:Ch}{N:List Str}{ps:List Str}
theorem Fun.okQ{w:Cl}{K:BT}{f:J}{k:Nat}{g:PSp}(F:Fun K x qual st f fd)(S:aG N ps (aw st))(len:∀ts Q,g ts Q->ts.length=ps.length)
  (jH:∀(cdv:B)(A:Db)(outer:List Env)(s:ϋ)(H:Hp)(E:XK),cK k (A.deeper (envOfC qual (aw st) s.heap.objs.size f cdv)) ->
   ∃t qs,pj (nS CX0 P w K mg base N qual (aw st) f cdv A outer s H E).nox K (bP st) t qs/\∀ts Q,g ts Q->qs (.fn Q) (ts.map Sl.r++Fi (N.length - ts.length) .no)):bf P w K mg base CX0 (k+1) f fd ps (spQ K g):=by
 have ak:=by have:=congrArg Nv S.pre;rw[qp]at this;omega
 refine F.ok S (λvs H Q E h=>?_) (λcdv A outer s H vs Q E hr h=>?_)
 ·let(dl,ts,F,Qp,_,r,h,_):=h;rw[r.r.len];exact len ts Qp h
 ·let(dl,ts,Fp,Qp,D,r,h,fin):=h;let(t,qs,hb,hq):=jH cdv A outer s H E hr;refine(t,hb.h,?_);have hlen:=len ts Qp h;have hl:=r.r.len;have z:=hq ts Qp h;have R:=nF (n:=N.length) D r (by lia)
  rw[<- hl]at z;refine hb.s dl H [] H _ _ _ _ R z (λH' σ q (F,r') V=>?_,λ_ _ _ _ V=>V.elim,λ_ _ _ _ V=>V.elim,λv t F H' D' r' f' n' fr V=>?_,λ_ _ _ _ _ _ _ _ _ _ _ _ z=>z.elim)
  ·exact fin .non .n [] H' (r'.f.evo r'.d) (.n,λ_ z=>nomatch z) (λ_ z=>nomatch z) n6 V
  ·exact fin v t F H' (fr.evo D') r' f' n' V
structure xp(K:BT)(dl:Dl)(Yy:It)(xs:List T)(hv:List (V×T)):Prop where
 go:∀(H:Hp)(i:Nat),Dls dl H->(∀p∈hv,∃F,Rp K dl H p.1 p.2 F)->i<xs.length->Yy.go i H
 yld:∀(H:Hp)(i:Nat)(x:T)(fp:V×T->List J)(v:V)(H':Hp),Dls dl H->(∀p∈hv,Rp K dl H p.1 p.2 (fp p))->xs[i]?=Z x->Yy.yld i H v H'->Evo dl H H'/\∃F,Rp K dl H' v x F/\∀b∈F,H b=Y\/∃p∈hv,b∈fp p
 stop:∀(H:Hp),Dls dl H->(∀p∈hv,∃F,Rp K dl H p.1 p.2 F)->Yy.stop xs.length H
variable{lo:Int}
section
variable{X:Cx}{K:BT}
def mw{xs:List T}:xp K dl (Itl K a) xs [(.ref a,.l xs)] where
 go:=λH i D h hi=>by
  let(F,r):=h _ (fy.mpr U);let(p,vs,G,e,_,h1,h2):=r.r.lst;cases e;exact(vs,vs[i]'(by rw[h2.len];exact hi),SqL.of h1,by simp[hi])
 yld:=λH i x fp v H' D h hx y=>by
  have r:=h _ (fy.mpr U);let(p,vs,G,e,Q,h1,h2):=r.r.lst;cases e;let(U,y):=y;let(w,P,hw,q,hs):=h2.get hx;have z:=y vs (SqL.of h1);rw[hw]at z;cases z;have sub:∀b∈P,b∈fp (V.ref a,T.l xs):=λb g=>by
   rw[Q];exact g5 _ (hs b g)
  exact(.refl D,P,(q,λb g=>r.n b (sub b g)),λb g=>.inr (_,fy.mpr U,sub b g))
 stop:=λH D h=>by
  let(F,r):=h _ (fy.mpr U);let(p,vs,G,e,_,h1,h2):=r.r.lst;cases e;exact(vs,SqL.of h1,by rw[h2.len];exact nY _)
def N4{xs:List T}:xp K dl (Itl K a) xs [(.ref a,.zl xs)] where
 go:=λH i D h hi=>by
  let(F,r):=h _ (fy.mpr U);let(p,o,vs,e,_,h1,h2):=r.r.zls;cases e;exact(vs,vs[i]'(by rw[h2.len];exact hi),.inl (.inr (o,h1)),by simp[hi])
 yld:=λH i x fp v H' D h hx y=>by
  have r:=h _ (fy.mpr U);let(p,o,vs,e,Q,h1,h2):=r.r.zls;cases e;let(U,y):=y;let(w,P,hw,g,hs):=h2.get hx;have z:=y vs (.inl (.inr (o,h1)));rw[hw]at z;cases z;exact(.refl D,P,(g,λb q=>nomatch hs b q),λb q=>nomatch hs b q)
 stop:=λH D h=>by
  let(F,r):=h _ (fy.mpr U);let(p,o,vs,e,_,h1,h2):=r.r.zls;cases e;exact(vs,.inl (.inr (o,h1)),by rw[h2.len];exact nY _)
def A6{xs:List T}:xp K dl (Itt K a) xs [(.ref a,.t xs)] where
 go:=λH i D h hi=>by
  let(F,r):=h _ (fy.mpr U);let(p,vs,e,h1,h2):=r.r.tup;cases e;exact(vs,vs[i]'(by rw[h2.len];exact hi),SqT.of h1,by simp[hi])
 yld:=λH i x fp v H' D h hx y=>by
  have r:=h _ (fy.mpr U);let(p,vs,e,h1,h2):=r.r.tup;cases e;let(U,y):=y;let(w,P,hw,g,hs):=h2.get hx;have z:=y vs (SqT.of h1);rw[hw]at z;cases z;exact(.refl D,P,(g,λb q=>r.n b (hs b q)),λb q=>.inr (_,fy.mpr U,hs b q))
 stop:=λH D h=>by
  let(F,r):=h _ (fy.mpr U);let(p,vs,e,h1,h2):=r.r.tup;cases e;exact(vs,SqT.of h1,by rw[h2.len];exact nY _)
def IS:xp K dl (Itr lo n) ((Fh n).map λi=>.i (lo+(i:Nat))) [] where
 go:=λH i D h hi=>by
  show i<n;simpa using hi
 yld:=λH i x fp v H' D h hx y=>by
  let(U,U):=y;rw[gs]at hx;cases e:(Fh n)[i]? with
  |none=>rw[e]at hx;cases hx
  |some j =>
   rw[e]at hx;have g:j=i:=by
    have:=jS.mp e
    let(h1,h2):=this;simp at h2;exact h2.symm
   subst g;cases hx;exact(.refl D,[],.c (.i _),λ_ z=>nomatch z)
 stop:=λH D h=>by show n<=_;simp
abbrev QI:=Sq->(List T->Prop)->Prop
def US(K:BT)(wi:TI)(iq:QI):Prop:=∀(dl:Dl)(H:Hp)(σ:St)(q:Sq)(Q:List T->Prop)(R:It->Hp->Prop),RdR K dl H σ q->iq q Q ->
 (∀xs Yy hv H',Evo dl H H'->xp K dl Yy xs hv->(∀p∈hv,∃F,Rp K dl H' p.1 p.2 F)->Q xs->R Yy H')->wi σ H R
structure QPI(X:Cx)(K:BT)(tg iter:Ev)(wi:TI)(iq:QI):Prop where
 h:PI X tg iter wi
 s:US K wi iq
abbrev QJ:=Sq->(List T->Sq->Prop)->Prop
def V2(K:BT)(wi:TI)(iq:QJ):Prop:=∀(dl:Dl)(H₀:Hp)(hs:List (V×T))(H:Hp)(σ:St)(q:Sq)(Q:List T->Sq->Prop)(R:It->Hp->Prop),fc K dl H₀ hs H σ q->iq q Q ->
 (∀xs Yy hv H' q',fc K dl H₀ (hv++hs) H' σ q'->xp K dl Yy xs hv->Q xs q'->R Yy H')->wi σ H R
structure QPJ(X:Cx)(K:BT)(tg iter:Ev)(wi:TI)(iq:QJ):Prop where
 h:PI X tg iter wi
 s:V2 K wi iq
variable{tg e a b:Ev}{te:TE}{qe:QE}{tl:TA}{ql:QA}{pos p:Pos}
def lZ(g:X.K=K)(h:PE X e te):PI X tg e (uX K te):=by subst g;exact pP h
def wq(g:X.K=K)(h:PE X e te):PI X tg e (IV K te):=by subst g;exact Qg h
def asL(qe:QE):QI:=λq Q=>qe q λt=>match t with|.l xs=>Q xs|.zl xs=>Q xs|_=>False
def asT(qe:QE):QI:=λq Q=>qe q λt=>match t with|.t xs=>Q xs|_=>False
def pL(h:QPE X K e te qe)(P:‹X.K=K›):QPI X K tg e (uX K te) (asL qe):=(lZ P h.h,λdl H σ q Q R rd hq k=>h.s dl H σ q _ _ rd hq λv t F H' z r g=>by
 split at g
 ·let(p,vs,G,U,U,h1,h2):=r.r.lst;exact(p,U,(vs,SqL.of h1),k _ _ _ H' z mw (λp hp=>by rw[fy.mp hp];exact(_,r)) g)
 ·let(p,o,vs,U,U,h1,h2):=r.r.zls;exact(p,U,(vs,.inl (.inr (o,h1))),k _ _ _ H' z N4 (λp hp=>by rw[fy.mp hp];exact(_,r)) g)
 ·exact g.elim)
def kQ(h:QPE X K e te qe)(z:‹X.K=K›):QPI X K tg e (IV K te) (asT qe):=(wq z h.h,λdl H σ q Q R rd hq k=>h.s dl H σ q _ _ rd hq λv t F H' P r g=>by
 split at g
 ·let(p,vs,U,h1,h2):=r.r.tup;exact(p,U,(vs,SqT.of h1),k _ _ _ H' P A6 (λp hp=>by rw[fy.mp hp];exact(_,r)) g)
 ·exact g.elim)
def GC(lo:Int)(n:Nat):List T:=(Fh n).map λi=>.i (lo+(i:Nat))
def kM{i:Nat}{x:T}(h:(GC lo n)[i]?=Z x):x=.i (lo+(i:Nat))/\i<n:=by
 unfold GC at h;rw[gs]at h;let(j,g,U):=gV.mp h;let(h1,h2):=jS.mp g;simp at h1 h2;subst h2;exact(U,h1)
def cL:(GC lo n).length=n:=by simp[GC]
def UM(ql:QA):QI:=λq Q=>ql q λts=>on1 ts λt=>match t with|.i n=>-(2 ^ 62)<=n/\n<2 ^ 62/\Q (GC 0 n.toNat)|_=>False
def gN(hg:Gl X "range")(hm:X.mg "range"=Y)(ha:QPA X K [a] tl ql)(hs:‹AD X a›):QPI X K tg (.Call (.Name "range" p) [a] [] pos) (IW tl) (UM ql):=(uM hg hm ha.h hs,λdl H σ q Q R rd hq k=>ha.s dl H σ q _ _ rd hq λvs ts F H' V r _ g=>by
 replace g:=on1.inv g
 let(t,U,g):=g
 split at g
 ·let(v,U,P):=r.one;let(U,_):=P.r.int;exact(_,U,g.1,g.2.1,k _ _ [] H' V IS (λ_ z=>nomatch z) g.2.2)
 ·exact g.elim)
def asJ(iq:QI):QJ:=λq Q=>iq q λxs=>Q xs q
def j7(hg:Gl X "range")(hm:X.mg "range"=Y)(ha:QPA X K [a] tl ql)(hs:‹AD X a›):QPJ X K tg (.Call (.Name "range" p) [a] [] pos) (IW tl) (asJ (UM ql)):=(uM hg hm ha.h hs,λdl H₀ hs H σ q Q R (F0,z) hq k=>ha.s dl H σ q _ _ z.rd hq λvs ts F H' V r _ g=>by
 replace g:=on1.inv g
 let(t,U,g):=g
 split at g
 ·let(v,U,P):=r.one;let(U,_):=P.r.int;exact(_,U,g.1,g.2.1,k _ _ [] H' q (F0,z.evo V) IS g.2.2)
 ·exact g.elim)
def B4(h:QPF X K e te qe)(hK:‹X.K=K›):QPJ X K tg e (uX K te) (asJ (asL qe)):=(lZ hK h.h,λdl H₀ hs H σ q Q R (F0,g) hq k=>h.s dl H σ q _ _ g.rd hq λv t F H' e1 r f n P=>by
 split at P
 ·have V:=(g.evo e1).hold r λj u hj b hb z=>(g.gx hb).no (f b z)
  let(p,vs,G,U,U,h1,h2):=r.r.lst;exact(p,U,(vs,SqL.of h1),k _ _ _ H' q (F0,V) mw P)
 ·have V:=(g.evo e1).hold r λj u hj b hb z=>(g.gx hb).no (f b z)
  let(p,o,vs,U,U,h1,h2):=r.r.zls;exact(p,U,(vs,.inl (.inr (o,h1))),k _ _ _ H' q (F0,V) N4 P)
 ·exact P.elim)
def jq(h:QPF X K e te qe)(hK:‹X.K=K›):QPJ X K tg e (IV K te) (asJ (asT qe)):=(wq hK h.h,λdl H₀ hs H σ q Q R (F0,g) hq k=>h.s dl H σ q _ _ g.rd hq λv t F H' e1 r f n P=>by
 split at P
 ·have V:=(g.evo e1).hold r λj u hj b hb z=>(g.gx hb).no (f b z)
  let(p,vs,U,h1,h2):=r.r.tup;exact(p,U,(vs,SqT.of h1),k _ _ _ H' q (F0,V) A6 P)
 ·exact P.elim)
def asN(i:Nat):QJ:=λq Q=>match q[i]? with
 |some (.o (.l xs))=>Q xs (q.set i (.r (.l xs)))
 |some (.r (.l xs))=>Q xs q
 |_=>False
def B3{i:Nat}(h:PE X e (bZ i))(hK:‹X.K=K›):QPJ X K tg e (uX K (bZ i)) (asN i):=(lZ hK h,λdl H₀ hs H σ q Q R (F0,V) hq k=>by
 unfold asN at hq
 split at hq
 ·rename_i xs e1;let(v,hv,r):=V.g i _ _ e1 U;have r1:=(V.down e1).hold r λj u P b hb=>by
   obtain⟨_,z,_⟩|⟨ne,P⟩:=get_set P
   ·cases z
   ·exact(V.o j u P).2.2 i (λz=>ne z.symm) b hb
  let(p,vs,G,U,_,h1,h2):=r.r.lst;exact(_,hv,p,U,(vs,SqL.of h1),k _ _ _ H _ (F0,r1) mw hq)
 ·rename_i xs e1;let(v,hv,r):=V.g i _ _ e1 U;have r1:=V.hold r λj u P b hb=>(V.o j u P).2.2 i (λz=>by subst z;rw[e1]at P;cases P) b hb
  let(p,vs,G,U,_,h1,h2):=r.r.lst;exact(_,hv,p,U,(vs,SqL.of h1),k _ _ _ H _ (F0,r1) mw hq)
 ·exact hq.elim)
inductive Tg where
 |nm(i:Nat)|tp (is:List Nat)
def tY(q:Sq):List Nat->List T->Option Sq
 |[],[]=>Z q
 |i::is,x::xs=>if i<q.length then tY (q.set i (.r x)) is xs else Y
 |_,_=>Y
def Tg.put(g:Tg)(x:T)(q:Sq):Option Sq:=match g with
 |.nm i=>if i<q.length then Z (q.set i (.r x))else Y
 |.tp is=>match x with|.t xs=>tY q is xs|_=>Y
def wR:List Nat->TGs
 |[]=>Rx
 |i::is=>CG (fW i) (wR is)
def Tg.h(K:BT):Tg->TG
 |.nm i=>fW i
 |.tp is=>M6 K is.length (wR is)
def DV{hs:List (V×T)}{is:List Nat}:∀{vs:List V}{xs:List T}{G:List J}{σ:St}{q q':Sq}{F:Nat->List J}{R:St->Hp->Prop},Rel K dl H₀ hs H σ q F->ay K dl H vs xs G->(∀b∈G,Nd dl b) ->
  (∀(j:Nat)(u:T),q[j]?=Z (.o u)->∀b∈F j,b ∉ G)->tY q is xs=Z q'->(∀P,fc K dl H₀ hs H P q'->R P H)->wR is vs σ H R:=by
 induction is with
 |nil =>
  intro vs xs G σ q q' F R r rs _ _ hp k;cases xs with
  |cons _ _=>cases hp
  |nil =>
   cases rs;cases hp;exact(U,k σ (F,r))
 |cons i is ih =>
  intro vs xs G σ q q' F R r rs hn ho hp k;cases xs with
  |nil=>cases hp
  |cons x xs =>
   cases rs with
   |cons r1 r2 =>
    unfold tY at hp;by_cases hi:i<q.length
    ·rw[if_pos hi]at hp;refine(_,_,U,?_);have r':=r.LQ hi (r1,λb g=>hn b (p7 _ g)) λj u Q _ b g z=>ho j u Q b g (p7 _ z)
     refine ih r' r2 (λb g=>hn b (pA _ g)) (λj u Q b g z=>?_) hp k
     obtain⟨_,z',_⟩|⟨ne,Q⟩:=get_set Q
     ·cases z'
     ·rw[aV ne]at g;exact ho j u Q b g (pA _ z)
    ·rw[if_neg hi]at hp;cases hp
variable{g:Tg}
def vZ{hs:List (V×T)}{v:V}{x:T}{σ:St}{q':Sq}{F:Nat->List J}{R:St->Hp->Prop}(r:Rel K dl H₀ hs H σ q F)(P:Rp K dl H v x G)
  (ho:∀(j:Nat)(u:T),q[j]?=Z (.o u)->∀b∈F j,b ∉ G) (hp:g.put x q=Z q') (k:∀z,fc K dl H₀ hs H z q'->R z H):g.h K v σ H R:=by
 cases g with
 |nm i =>
  replace hp:(if i<q.length then Z (q.set i (.r x))else Y)=Z q':=hp
  by_cases hi:i<q.length
  ·rw[if_pos hi]at hp;cases hp;exact k _ (_,r.LQ hi P λj u hj _=>ho j u hj)
  ·rw[if_neg hi]at hp;cases hp
 |tp is =>
  cases x with
  |t xs =>
   let(p,vs,U,h1,h2):=P.r.tup;have hl:∀{is:List Nat}{xs:List T}{q q':Sq},tY q is xs=Z q'->xs.length=is.length:=λ{is}=>by
    induction is with
    |nil=>intro xs q q' h;cases xs with
     |nil=>rfl
     |cons _ _=>cases h
    |cons i is Q=>intro xs q q' h;cases xs with
     |nil=>cases h
     |cons x xs =>
      unfold tY at h;by_cases hi:i<q.length
      ·rw[if_pos hi]at h;simp[Q h]
      ·rw[if_neg hi]at h;cases h
   exact(p,vs,U,SqT.of h1,by rw[h2.len];exact hl hp,DV r h2 P.n ho hp k)
  |_=>cases hp
end
variable{tg:Ev}{iter:Ev}{body:List EQ}{g:Tg}{cap:List (Option Nat)}{iq:QI}{tst:TT}{nG:QT}{te:TE}{qe:QE}{N':List Str}{sc:Scope}{elt:Ev}{ifs:List Ev}
section
variable{X:Cx}{K:BT}{hs:List (V×T)}{σ:St}{F:Nat->List J}
def Rel.ig{hv:List (V×T)}(r:Rel K dl H₀ (hv++hs) H σ q F):Rel K dl H₀ hs H σ q F:=(r.d,r.g,r.n,r.z,r.o,λp hp=>r.h p (pA _ hp),r.f,r.l)
def Rel.fps{hv:List (V×T)}(r:Rel K dl H₀ (hv++hs) H σ q F):∃fp:V×T->List J,∀p∈hv,Rp K dl H p.1 p.2 (fp p)/\∀(i:Nat)(t:T),q[i]?=Z (.o t)->∀b∈F i,b ∉ fp p:=by
 classical
 refine(λp=>if h:p∈hv then(r.h p (p7 _ h)).choose else [],λp hp=>?_)
 have z:=(r.h p (p7 _ hp)).choose_spec;simp only[dif_pos hp];exact z
inductive V5(g:Tg)(qb:QS)(D:dz)(xs:List T)(q0:Sq):Prop
 |mk(I:Nat->Sq->Prop)(h0:I 0 q0)(step:∀i x q,xs[i]?=Z x->I i q->∃q',g.put x q=Z q'/\qb (D.lp (I (i+1))) q')(fin:∀q,I xs.length q->D.nx q)
def Td(iq:QJ)(g:Tg)(qb:QS):QS:=λD q=>iq q λxs q0=>V5 g qb D xs q0
def bF{wi:TI}{iq:QJ}{tb:TS}{qb:QS}{pos:Pos}(hp:X6 (model X.prog X.w) X.A X.env X.xe)(hc:X.calm=O)(hi:QPJ X K tg iter wi iq)(hg:PG X tg (g.h K))(hb:pj X K body tb qb)
  (hs:∀x,foldedSetIterable iter X.env x=pure x:=by intro _;rfl):QPS X K (.For tg iter body [] pos) (O5 wi (g.h K) tb) (Td iq g qb):=(Au hp hc hi.h hg hb.h hs,λdl H₀ hs H σ q Dq D r hq E=>by
 refine hi.s dl H₀ hs H σ q _ _ r hq λxs Yy hv H1 q1 r1 it hz=>?_
 let(I,i0,turn,fin):=hz;refine(λi m σ H=>m=xs.length - i/\i<=xs.length/\∃q,fc K dl H₀ (hv++hs) H σ q/\I i q,(xs.length,by simp,wh _,q1,r1,i0),?_)
 rintro i m σ H ⟨rfl,aA,q,⟨F,r⟩,hI⟩
 have held:∀p∈hv,∃F,Rp K dl H p.1 p.2 F:=λp hp=>let(Fp,h,_):=r.h p (p7 _ hp);(Fp,h)
 by_cases P:i<xs.length
 ·refine .inr (it.go H i r.d held P,λQ H'=>∃q,fc K dl H₀ (hv++hs) H' Q q/\I (i+1) q,λQ H' h=>(xs.length - (i+1),by omega,U,P,h),λv H' y=>?_)
  let(fp,V):=r.fps;have hx:xs[i]?=Z xs[i]:=by simp[P]
  let(e1,G,rx,hG):=it.yld H i xs[i] fp v H' r.d (λp hp=>(V p hp).1) hx y
  let(q',ar,hz):=turn i xs[i] q hx hI;refine vZ (r.evo e1) rx (λj u hj b hb z=>?_) ar λak r2=>hb.s dl H₀ (hv++hs) H' ak q' _ _ r2 hz (λH σ q r n=>(q,r,n),λH σ q (F,r) n=>E.nx H σ q (F,r.ig) n,λH σ q r n=>(q,r,n),E.rt,λH σ q F0 v t F r=>E.ru H σ q F0 v t F r.ig)
  obtain h |⟨p,hp,h⟩:=hG b z
  ·exact(r.gx hb).no h
  ·exact(V p hp).2 j u hj b hb h
 ·have e:i=xs.length:=by lia
  subst e;exact .inl (it.stop H r.d held,E.nx H σ q (F,r.ig) (fin q hI)))
def jM(cap:List (Option Nat))(q:Sq):Sq:=cap.map λo=>match o with
 |none=>.no
 |some i=>match q[i]? with
  |some (.o t)=>.r t
  |some (.r t)=>.r t
  |_=>.no
def Ln(r:RdR K dl H σ q):RdR K dl H (mT cap σ) (jM cap q):=(r.d,λj x t h1 h2=>by
 unfold jM at h1;rw[gs]at h1;cases e:cap[j]? with
 |none=>rw[e]at h1;cases h1
 |some o =>
  rw[e]at h1;cases o with
  |none=>cases h1;cases h2
  |some i =>
   have go:∀y,q[i]?=Z y->y.get=Z t->∃v F,(mT cap σ)[j]?=Z (Z v)/\Rp K dl H v t F:=λy z P=>by
    let(v,F,h3,h4):=r.g i y t z P;refine(v,F,?_,h4);unfold mT;rw[gs,e];show Z ((σ[i]?).join)=_;rw[h3];rfl
   replace h1:(match q[i]? with|some (.o t)=>Sl.r t|some (.r t)=>.r t|_=>.no)=x:=Option.some.inj h1
   split at h1
   ·rename_i u eq;subst h1;cases h2;exact go _ eq U
   ·rename_i u eq;subst h1;cases h2;exact go _ eq U
   ·subst h1;cases h2)
theorem RdR.set{i:Nat}{v:V}{x:T}{G:List J}(r:RdR K dl H σ q)(hl:i < σ.length)(P:Rp K dl H v x G):RdR K dl H (σ.set i (Z v)) (q.set i (.r x)):=(r.d,λj y t h1 h2=>by
 obtain⟨rfl,rfl,_⟩|⟨ne,h1⟩:=get_set h1
 ·cases h2;exact(v,G,by rw[Wr hl],P)
 ·let(w,F,h3,h4):=r.g j y t h1 h2;exact(w,F,by rw[M1 (λz=>ne z.symm)];exact h3,h4))
def RdR.any{i:Nat}{o:Option V}(r:RdR K dl H σ q)(hn:q[i]?=Z .no):RdR K dl H (σ.set i o) q:=(r.d,λj y t h1 h2=>by
 let(w,F,h3,h4):=r.g j y t h1 h2;refine(w,F,?_,h4);rw[M1]
 ·exact h3
 ·intro z;subst z;rw[hn]at h1;cases h1;cases h2)
def Tg.ixs:Tg->List Nat
 |.nm i=>[i]
 |.tp is=>is
def GG{is:List Nat}:∀{vs:List V}{xs:List T}{G:List J}{σ:St}{q q0 q':Sq}{R:St->Hp->Prop},RdR K dl H σ q->RdR K dl H σ q0->σ.length=q.length->ay K dl H vs xs G->(∀b∈G,Nd dl b)->(∀i∈is,q0[i]?=Z .no)->tY q is xs=Z q' ->
  (∀g,RdR K dl H g q'->RdR K dl H g q0->g.length=σ.length->R g H)->wR is vs σ H R:=by
 induction is with
 |nil =>
  intro vs xs G σ q q0 q' R r z _ rs _ _ hp k;cases xs with
  |cons _ _=>cases hp
  |nil =>
   cases rs;cases hp;exact(U,k σ r z U)
 |cons i is ih =>
  intro vs xs G σ q q0 q' R r z hl rs hn hf hp k;cases xs with
  |nil=>cases hp
  |cons x xs =>
   cases rs with
   |cons r1 Q =>
    unfold tY at hp;by_cases hi:i<q.length
    ·rw[if_pos hi]at hp;refine(_,_,U,(ih (r.set (by omega) (r1,λb P=>hn b (p7 _ P))) (z.any (hf i lD)) (by simp[hl]) Q (λb P=>hn b (pA _ P)) (λj hj=>hf j (g5 _ hj)) hp λg a b c=>k g a b (by simpa using c)))
    ·rw[if_neg hi]at hp;cases hp
theorem x6:∀{is:List Nat}{xs:List T}{q q':Sq},tY q is xs=Z q'->xs.length=is.length
 |[],[],_,_,_=>rfl
 |[],_::_,_,_,h=>by cases h
 |_::_,[],_,_,h=>by cases h
 |i::is,x::xs,q,q',h=>by
  unfold tY at h;by_cases hi:i<q.length
  ·rw[if_pos hi]at h;simp[x6 h]
  ·rw[if_neg hi]at h;cases h
def SE{v:V}{x:T}{q':Sq}{R:St->Hp->Prop}(r:RdR K dl H σ q)(hl:σ.length=q.length)(P:Rp K dl H v x G)(hf:∀i∈g.ixs,q[i]?=Z .no)(hp:g.put x q=Z q')
  (k:∀z,RdR K dl H z q'->RdR K dl H z q->z.length=σ.length->R z H):g.h K v σ H R:=by
 cases g with
 |nm i =>
  replace hp:(if i<q.length then Z (q.set i (.r x))else Y)=Z q':=hp
  by_cases hi:i<q.length
  ·rw[if_pos hi]at hp;cases hp;exact k _ (r.set (by lia) P) (r.any (hf i (fy.mpr U))) (by simp)
  ·rw[if_neg hi]at hp;cases hp
 |tp is =>
  cases x with
  |t xs =>
   let(p,vs,U,h1,h2):=P.r.tup;exact(p,vs,U,SqT.of h1,by rw[h2.len];exact x6 hp,GG r r hl h2 P.n hf hp k)
  |_=>cases hp
def Hj:QT:=λ_ Q=>Q O
def Ga:lu K BM Hj:=λdl H σ q Q R rd hq k=>k O H (.refl rd.d) hq
inductive CompI(cap:List (Option Nat))(g:Tg)(tst:QT)(qe:QE)(q:Sq)(Q:T->Prop)(xs:List T):Prop
 |mk (hl:xs.length<pq) (I:Nat->List T->Prop) (h0:I 0 []) (step:∀i x ys,xs[i]?=Z x->I i ys->∃q',g.put x (jM cap q)=Z q'/\tst q' λb=>if b=O then qe q' λy=>I (i+1) (ys ++ [y])else I (i+1) ys) (fin:∀ys,I xs.length ys->Q (.l ys))
def B5(cap:List (Option Nat))(iq:QI)(g:Tg)(tst:QT)(qe:QE):QE:=λq Q=>iq q λxs=>CompI cap g tst qe q Q xs
theorem xN{wi:TI}(hi:US K wi iq)(ht:lu K tst nG)(he:gH K te qe)(hf:(g.ixs.all λi=>cap[i]? == Z Y)=O):gH K (uE cap wi (g.h K) tst te) (B5 cap iq g nG qe):=by
 intro dl H σ q Q R rd hq k;refine hi dl H σ q _ _ rd hq λxs Yy hv H1 e1 it held hz=>?_
 let(hlen,I,i0,turn,fin):=hz;have a8:=Ln (cap:=cap) (rd.evo e1);have bj:∀i∈g.ixs,(jM cap q)[i]?=Z .no:=λi hi=>by
  have z:=R4.mp hf i hi;have z:=by simpa using z
  unfold jM;rw[gs,z];rfl
 have bE:(mT cap σ).length=(jM cap q).length:=by simp[mT,jM]
 refine(λi m vs aA H'=>m=xs.length - i/\i<=xs.length/\∃ts F,Evo dl H1 H'/\RdR K dl H' aA (jM cap q)/\aA.length=(jM cap q).length/\(∀p∈hv,∃F,Rp K dl H' p.1 p.2 F)/\Rps K dl H' vs ts F/\(∀b∈F,H b=Y)/\F.Nodup/\vs.length<=i/\I i ts,
  (xs.length,by simp,wh _,[],[],.refl e1.d,a8,bE,held,(.nil,λ_ z=>nomatch z),(λ_ z=>nomatch z),n6,nY _,i0),?_)
 rintro i m vs aA H' ⟨rfl,b0,ts,F,e2,a7,bt,yJ,rs,fr,nd,bV,hI⟩
 by_cases ak:i<xs.length
 ·refine .inr (it.go H' i e2.d yJ ak,by lia,λaN ar H2=>∃ts F,Evo dl H1 H2/\RdR K dl H2 ar (jM cap q)/\ar.length=(jM cap q).length/\(∀p∈hv,∃F,Rp K dl H2 p.1 p.2 F)/\Rps K dl H2 aN ts F/\(∀b∈F,H b=Y)/\F.Nodup/\aN.length<=i+1/\I (i+1) ts,
   λaN ar H2 h=>(xs.length - (i+1),Nat.sub_succ_lt_self _ _ ak,U,ak,h),λv H2 y=>?_)
  have hx:xs[i]?=Z xs[i]:=by simp[ak]
  obtain⟨fp,bC⟩:∃fp:V×T->List J,∀p∈hv,Rp K dl H' p.1 p.2 (fp p):=by
   classical
   refine(λp=>if h:p∈hv then(yJ p h).choose else [],λp hp=>?_)
   simp only[dif_pos hp];exact(yJ p hp).choose_spec
  let(e3,G,rx,hG):=it.yld H' i xs[i] fp v H2 e2.d bC hx y;let(q',bb,hz):=turn i xs[i] ts hx hI;have Ou:∀{H3:Hp},Evo dl H' H3->∀p∈hv,∃F,Rp K dl H3 p.1 p.2 F:=λ{H3} e p hp=>let(F,r):=yJ p hp;(F,r.evo e2.d e)
  refine SE (a7.evo e3) bt rx bj bb λaP r3 aT l3=>(ht dl H2 aP q' _ _ r3 hz λb H4 e4 hz=>?_)
  cases b with
  |false=>exact(ts,F,(e2.trans e3).trans e4,aT.evo e4,by omega,Ou (e3.trans e4),(rs.evo e2.d e3).evo e3.d e4,fr,nd,by lia,hz)
  |true =>
   refine he dl H4 aP q' _ _ (r3.evo e4) hz λw t G' H5 e5 aS f5 n5 hz=>?_
   have E:=(e2.trans e3).trans (e4.trans e5);have a0:=((rs.evo e2.d e3).evo e3.d (e4.trans e5));refine(ts ++ [t],F++(G' ++ []),E,aT.evo (e4.trans e5),by omega,Ou (e3.trans (e4.trans e5)),(a0.r.append (.cons aS.r .nil),λb P=>?_),λb P=>?_,?_,by simp;omega,hz)
   ·obtain P|P:=nZ.mp P
    ·exact rs.n b P
    ·rw[qg]at P;exact aS.n b P
   ·obtain P|P:=nZ.mp P
    ·exact fr b P
    ·rw[qg]at P;exact((e1.trans e2).trans (e3.trans e4)).free (f5 b P)
   ·rw[qg];refine yK.mpr (nd,n5,λx hx y hy bI=>?_)
    subst bI;have a3:=(rs.evo e2.d e3).evo e3.d e4;exact gq.no (a3.r.there x hx) (f5 x hy)
 ·have e:i=xs.length:=by lia
  subst e;refine .inl (it.stop H' e2.d yJ,by lia,λD hD=>?_)
  exact k _ _ _ _ ((e1.trans e2).new hD) (rs.lst e2.d hD) (λb P=>by
   obtain e|P:=ot.mp P
   ·rw[e];exact(e1.trans e2).free hD
   ·exact fr b P) (rs.fresh hD nd) (fin ts hI)
structure QB(X:Cx)(K:BT)(N':List Str)(sc:Scope)(tg:Ev)(g:Tg)(ifs:List Ev)(tst:TT)(nG:QT)(elt:Ev)(te:TE)(qe:QE):Prop where
 b:∀cl C s₂ H₂ fp,PG (blk X N' sc cl C s₂ H₂ fp) tg (g.h K)/\PTs (blk X N' sc cl C s₂ H₂ fp) ifs tst/\PE (blk X N' sc cl C s₂ H₂ fp) elt te
 t:lu K tst nG
 e:gH K te qe
def cm(h:∀cl C s₂ H₂ fp,PG (blk X N' sc cl C s₂ H₂ fp) tg (g.h K)/\QPF (blk X N' sc cl C s₂ H₂ fp) K elt te qe):QB X K N' sc tg g [] BM Hj elt te qe :=
 (λcl C s₂ H₂ fp=>((h cl C s₂ H₂ fp).1,B9,(h cl C s₂ H₂ fp).2.h),Ga,(h [] 0 X.s₀ (λ_=>Y) []).2.s)
def Hf{c:Ev}(h:∀cl C s₂ H₂ fp,PG (blk X N' sc cl C s₂ H₂ fp) tg (g.h K)/\QPT (blk X N' sc cl C s₂ H₂ fp) K c tst nG/\QPF (blk X N' sc cl C s₂ H₂ fp) K elt te qe):QB X K N' sc tg g [c] tst nG elt te qe :=
 (λcl C s₂ H₂ fp=>((h cl C s₂ H₂ fp).1,B8 (h cl C s₂ H₂ fp).2.1.h,(h cl C s₂ H₂ fp).2.2.h),(h [] 0 X.s₀ (λ_=>Y) []).2.1.s,(h [] 0 X.s₀ (λ_=>Y) []).2.2.s)
def cg{pos:Pos}{wi:TI}(V:X.calm=O)(hi:QPI X K tg iter wi iq)(z:m9 X sc N' cap)(q:QB X K N' sc tg g ifs tst nG elt te qe)
  (hf:‹(g.ixs.all λi=>cap[i]? == Z Y)=true›)
  (g6:‹sc.kind=.function›) (g7:autoParam (∀y∈sc.names,y.2 ≠ .cell) zdc._auto_1) (Q:autoParam (∀y∈sc.names,y.2=.local->sc.names.lookup y.1=Z .local) zdc._auto_1)
  (P:‹(sc.names.all λy=>y.2 != .free ||(X.env.kindOf y.1==Z .cell||X.env.kindOf y.1==Z .free))=true›)
  (hs:∀x,foldedSetIterable iter X.env x=pure x:=by intro _;rfl):QPF X K (.ListComp elt [(tg,iter,ifs,0)] sc pos) (uE cap wi (g.h K) tst te) (B5 cap iq g nG qe) :=
 (Cf V hi.h z q.b g6 g7 Q P hs,xN hi.s q.t q.e hf)
def j6{i:Nat}{y:Str}{pos e7 py:Pos}{wi:TI}(hN:X.N.Nodup)(z:X.N[i]?=Z y)(hy:Loc X.env.scope y)
  (hc:X.calm=O) (hi:QPI X K tg iter wi iq) (V:m9 X sc N' cap) (Q:QB X K N' sc tg g ifs tst nG elt te qe)
  (P:‹(g.ixs.all λi=>cap[i]? == Z Y)=true›)
  (q:‹swapsWith (.ListComp elt [(tg,iter,ifs,0)] sc pos) (Z (.Name y py)) e7.line X.env=pure true›)
  (hf:AT X y:=by first|exact .inl rfl|exact .inr rfl|assumption)
  (g6:‹sc.kind=.function›) (g7:autoParam (∀y∈sc.names,y.2 ≠ .cell) zdc._auto_1) (iF:autoParam (∀y∈sc.names,y.2=.local->sc.names.lookup y.1=Z .local) zdc._auto_1)
  (iX:‹(sc.names.all λy=>y.2 != .free ||(X.env.kindOf y.1==Z .cell||X.env.kindOf y.1==Z .free))=true›)
  (hs:∀x,foldedSetIterable iter X.env x=pure x:=by intro _;rfl):QPS X K (.Assign [.Name y py] (.ListComp elt [(tg,iter,ifs,0)] sc pos) e7) (ja (uE cap wi (g.h K) tst te) (fW i)) (qW i (B5 cap iq g nG qe)) :=
 (Cb hN z hy hc hi.h V Q.b q hf g6 g7 iF iX hs,BS (xN hi.s Q.t Q.e P))
end
section
variable{X:Cx}{K:BT}{hs:List (V×T)}{σ:St}{F:Nat->List J}{e o:Ev}{apos aS:Pos}
def zip_inj{ns:List Str}:∀{vs us:List V},vs.length=ns.length->us.length=ns.length->ns.zip vs=ns.zip us->vs=us:=by
 induction ns with
 |nil=>intro vs us h1 h2 _;rw[uy.mp h1,uy.mp h2]
 |cons n r q =>
  intro vs us h1 h2 e;cases vs with
  |nil=>cases h1
  |cons v vs=>cases us with
   |nil=>cases h2
   |cons u us =>
    injection e with g z
    injection g with _ g
    rw[g,q (Nat.succ.inj h1) (Nat.succ.inj h2) z]
def aI.uniq{v:V}{t:T}{F:List J}(h:aI K dl H v t F):∀{F':List J},aI K dl H v t F'->F=F' :=
 aI.rec (motive_1:=λv t F _=>∀{F'},aI K dl H v t F'->F=F') (motive_2:=λv t F _=>∀{F'},ay K dl H v t F'->F=F') (motive_3:=λv t F _=>∀{F'},a9 K dl H v t F'->F=F')
  (λh=>(h.im U).symm) (λ_ _ h=>(h.im U).symm) (λ_ _ h=>(h.im U).symm) (λ_ _ h=>(h.im U).symm) (λ_ _ h=>(h.im U).symm)
  (λh1 _ g _ h=>by let(a,vs,e,h2,r):=h.tup;cases e;rw[h1]at h2;cases h2;exact g r)
  (λh1 _ g _ h=>by let(a,vs,G,e,U,h2,r):=h.lst;cases e;rw[h1]at h2;cases h2;rw[g r])
  (λh1 _ g _ h=>by let(a,vs,G,e,U,h2,r):=h.dic;cases e;rw[h1]at h2;cases h2;rw[g r])
  (λ_ _ h=>(h.im U).symm) (λ_ _ h=>(h.im U).symm) (λ_ _ h=>(h.im U).symm) (λ_ _ _ _ h=>(h.im U).symm) (λ_ _ h=>(h.im U).symm) (λ_ _ _ _ h=>(h.im U).symm)
  (λ_ _ _ h=>(h.im U).symm) (λ_ _ _ _ h=>(h.im U).symm) (λh1 _ g _ h=>by let(vs,G,e,U,h2,r):=h.dpp;rw[h1]at h2;cases h2;rw[g r]) (λh1 _ g _ h=>by let(vs,G,e,U,h2,r):=h.lpp;rw[h1]at h2;cases h2;rw[g r]) (λ_ _ _ _ h=>(h.im U).symm) (λ_ _ h=>(h.im U).symm) (λh1 _ h4 hr g _ h=>by
   let(dx,vs,G,e,U,h2,_,h3,r):=h.omm;rw[h1]at h2;injection h2 with h2
   injection h2 with _ Q P
   subst Q;have z:=zip_inj (hr.len.trans h4.symm) (r.len.trans h3.symm) P;subst z;rw[g r]) (λ_ _ h=>(h.im U).symm)
  (λh=>by cases h;rfl) (λ_ _ i1 i2 _ h=>by cases h with|cons h2 q=>rw[i1 h2,i2 q])
  (λh=>by cases h;rfl) (λ_ _ i1 i2 _ h=>by cases h with|cons h2 q=>rw[i1 h2,i2 q]) h
def Rel.MW(r:Rel K dl H₀ hs H σ q F)(e:Evo dl H H'){p:V×T}(hp:p∈hs){Fp:List J}(h:Rp K dl H' p.1 p.2 Fp){b:J}(g:H b=Y):b ∉ Fp:=λz=>by
 let(Q,h1,_):=r.h p hp;have P:=(h1.evo r.d e).r.uniq h.r;subst P;exact gq.no (h1.r.there b z) g
def Rel.vY{i:Nat}{p:J}{ws:List V}{xs ys:List T}{G':List J}(r:Rel K dl H₀ hs H σ q F)(hi:q[i]?=Z (.o (.l xs)))(hv:σ[i]?=Z (Z (.ref p)))(Q:F i=p::G)(e:Evo dl H H')
  (rs:ay K dl H' ws ys G') (hn:G'.Nodup) (hG:∀b∈G',b∈G\/(H b=Y/\Nd dl b)):fc K dl H₀ hs (upd H' p (.lst ws)) σ (q.set i (.o (.l ys))):=by
 have r':=r.evo e;let(o1,o2,o3):=r.o i _ hi;let(v',aP,rp):=r'.g i _ _ hi U;rw[hv]at aP;let(p2,aS,G2,e2,eF,h1,h2):=rp.r.lst;rw[Q]at eF;cases eF;rw[Q]at o1;have pG:=(u6.mp o1).1;have aN:=r.gx (by rw[Q];exact lD)
 have ak:p ∉ G':=λz=>by
  obtain z|z:=hG p z
  ·exact pG z
  ·exact aN.no z.1
 have pn:=rp.n p (by rw[Q];exact lD)
 have tf:TF H' (upd H' p (.lst ws)):=(λa us h=>(by
  rw[aj];exact h;intro z;subst z;rw[h]at h1;cases h1),λa ob u h=>(by
  rw[aj];exact h;intro z;subst z;rw[h]at h1;cases h1),λa φ h=>(by
  rw[aj];exact h;intro z;subst z;rw[h]at h1;cases h1),λa ar h=>(by
  by_cases z:a=p
  ·subst z;exact(_,au)
  ·exact(ar,by rw[aj z];exact h)),λa x h=>(x,Wj _,by
  rw[aj];exact h;intro z;subst z;rw[h]at h1;cases h1))
 have aA:=rs.dj tf (λ_ z=>z) λb P ob eb=>by
  have ne:b≠p:=by
   intro z;subst z;exact ak P
  rw[aj ne];exact eb
 refine(_,r'.write hi hv (by rw[Q];exact lD) (λ_ _=>(_,U)) (.l au aA,λb P=>?_) (u6.mpr (ak,hn)) λb P=>?_)
 ·obtain z|P:=ot.mp P
  ·rw[z];exact pn
  ·obtain z|z:=hG b P
   ·exact rp.n b (by rw[Q];exact g5 _ z)
   ·exact z.2
 ·obtain z|P:=ot.mp P
  ·rw[z,Q];exact .inl lD
  ·obtain z|z:=hG b P
   ·rw[Q];exact .inl (g5 _ z)
   ·exact .inr (r.fz z.1,λj hj=>(r.gx hj).no z.1,λw u Fp h1 h2=>r.MW e h2 h1 z.1)
def wg(i:Nat)(qe:QE):QS:=λD q=>match q[i]? with
 |some (.o (.l xs))=>xs.length<pq/\qe q λt=>D.nx (q.set i (.o (.l (xs ++ [t]))))
 |_=>False
abbrev At(X:Cx)(p:Pos)(e:List Ev):Prop:=((backTo p (m4 e X.env)).all (λx=>!x.1)&&(backToKw p (keywordEach [] X.env)).all (λx=>x.1.isSome)&&decide (e.length+([]:List Keyword).length+(if([]:List Keyword).isEmpty then 0 else 1)<30))=true
def AR(q:X.K=K){i:Nat}(ho:PE X o (bZ i))(he:PE X e te)(P:‹attributeBase o "append" X.env (eval o X.env)=eval o X.env›)
  (g:‹At X aS [e]›)
  (Q:‹(apos.endLine==aS.line)=true›) (hs:‹AC X e []›) (z:‹(backTo aS (m4 [] X.env)).any (·.1)=false›):
  PE X (.Call (.Attribute o "append" apos) [e] [] aS) (tBM K "list" pJ (bZ i) (bL te fg)):=by
 subst q;exact Ci PySem.F.plainAttrs_list PySem.F.slot_list_append PySem.F.type_list_append Eo ho (bh he cJ hs) P g Q hs z
def Ab{i:Nat}(he:gH K te qe):lB K (qz (tBM K "list" pJ (bZ i) (bL te fg))) (wg i qe):=λdl H₀ hs H σ q Dq D (F,r) hq E=>by
 unfold wg at hq
 split at hq
 ·rename_i xs ei;let(hz,hq):=hq;let(v,hv,rp):=r.g i _ _ ei U;let(o1,o2,o3):=r.o i _ ei;let(p,vs,G,U,Q,h1,h2):=rp.r.lst;refine(_,hv,.inl (U,vs,SqL.of h1),he dl H σ q _ _ r.rd hq λw t F' H' V r1 f1 n1 ar=>?_)
  have pn:=rp.n p (by rw[Q];exact lD)
  refine(p,vs,w,U,U,V.k p _ h1 pn (λ_ z=>nomatch z),by rw[h2.len];exact hz,?_)
  have hG:=λb P=>rp.n b (by rw[Q];exact g5 _ P)
  have ak:=h2.dj (V.tf r.d) (λ_ z=>z) λb P o eo=>V.k b o eo (hG b P) (.of (h2.there b P) eo)
  refine E.nx _ σ _ (r.vY ei hv Q V (ak.append (.cons r1.r .nil)) ?_ λb P=>?_) ar
  ·rw[qg];rw[Q]at o1;refine yK.mpr ((u6.mp o1).2,n1,λx hx y hy aA=>?_)
   subst aA;exact gq.no (h2.there x hx) (f1 x hy)
  ·obtain P|P:=nZ.mp P
   ·exact .inl P
   ·rw[qg]at P;exact .inr (f1 b P,r1.n b P)
 ·exact hq.elim
def br{i:Nat}{e7:Pos}(ho:PE X o (bZ i))(he:QPF X K e te qe)(z:‹X.K=K›)(Q:‹attributeBase o "append" X.env (eval o X.env)=eval o X.env›)
  (q:‹At X aS [e]›)
  (V:‹(apos.endLine==aS.line)=true›) (hs:‹AC X e []›) (P:‹(backTo aS (m4 [] X.env)).any (·.1)=false›)
  (g:‹swapsWith (.Call (.Attribute o "append" apos) [e] [] aS) Y e7.line X.env=pure false›):
  QPS X K (.Expr (.Call (.Attribute o "append" apos) [e] [] aS) e7) (qz (tBM K "list" pJ (bZ i) (bL te fg))) (wg i qe):=(wj (AR z ho he.h Q q V hs P) g,Ab he.s)
def we(i:Nat)(qe:QE):QS:=λD q=>match q[i]? with
 |some (.o (.l xs))=>qe q λt=>match t with
  |.l ys=>xs.length+ys.length<=pq/\D.nx (q.set i (.o (.l (xs++ys))))
  |_=>False
 |_=>False
def AQ(q:X.K=K){i:Nat}(ho:PE X o (bZ i))(he:PE X e te)(P:‹attributeBase o "extend" X.env (eval o X.env)=eval o X.env›)
  (g:‹At X aS [e]›)
  (Q:‹(apos.endLine==aS.line)=true›) (hs:‹AC X e []›) (z:‹(backTo aS (m4 [] X.env)).any (·.1)=false›):
  PE X (.Call (.Attribute o "extend" apos) [e] [] aS) (tBM K "list" pI (bZ i) (bL te fg)):=by
 subst q;exact Ci PySem.F.plainAttrs_list PySem.F.slot_list_extend PySem.F.type_list_extend En ho (bh he cJ hs) P g Q hs z
def Aa{i:Nat}(he:gH K te qe):lB K (qz (tBM K "list" pI (bZ i) (bL te fg))) (we i qe):=λdl H₀ hs H σ q Dq D (F,r) hq E=>by
 unfold we at hq
 split at hq
 ·rename_i xs ei;let(v,hv,rp):=r.g i _ _ ei U;let(o1,o2,o3):=r.o i _ ei;let(p,vs,G,U,V,h1,h2):=rp.r.lst;refine(_,hv,.inl (U,vs,SqL.of h1),he dl H σ q _ _ r.rd hq λw t F' H' e1 r1 f1 n1 Q=>?_)
  split at Q
  ·let(p2,ws,G2,U,U,h3,h4):=r1.r.lst;have pn:=rp.n p (by rw[V];exact lD)
   refine(p,p2,vs,ws,U,U,e1.k p _ h1 pn (λ_ z=>nomatch z),h3,by rw[h2.len,h4.len];exact Q.1,?_)
   have hG:=λb P=>rp.n b (by rw[V];exact g5 _ P)
   have ak:=h2.dj (e1.tf r.d) (λ_ z=>z) λb P o eo=>e1.k b o eo (hG b P) (.of (h2.there b P) eo)
   refine E.nx _ σ _ (r.vY ei hv V e1 (ak.append h4) ?_ λb P=>?_) Q.2
   ·rw[V]at o1;refine yK.mpr ((u6.mp o1).2,(u6.mp n1).2,λx hx y hy ar=>?_)
    subst ar;exact gq.no (h2.there x hx) (f1 x (g5 _ hy))
   ·obtain P|P:=nZ.mp P
    ·exact .inl P
    ·exact .inr (f1 b (g5 _ P),r1.n b (g5 _ P))
  ·exact Q.elim
 ·exact hq.elim
def c7{i:Nat}{e7:Pos}(ho:PE X o (bZ i))(he:QPF X K e te qe)(z:‹X.K=K›)(Q:‹attributeBase o "extend" X.env (eval o X.env)=eval o X.env›)
  (q:‹At X aS [e]›)
  (V:‹(apos.endLine==aS.line)=true›) (hs:‹AC X e []›) (P:‹(backTo aS (m4 [] X.env)).any (·.1)=false›)
  (g:‹swapsWith (.Call (.Attribute o "extend" apos) [e] [] aS) Y e7.line X.env=pure false›):
  QPS X K (.Expr (.Call (.Attribute o "extend" apos) [e] [] aS) e7) (qz (tBM K "list" pI (bZ i) (bL te fg))) (we i qe):=(wj (AQ z ho he.h Q q V hs P) g,Aa he.s)
end
variable{qo:QE}{to:TE}
section
variable{X:Cx}{K:BT}{hs:List (V×T)}{σ:St}{F:Nat->List J}{a b e o c:Ev}{ta tb tk tv:TE}{qa qb qk qv:QE}{pos apos aS:Pos}
theorem ay.last:∀{ts:List T}{x:T}{vs:List V}{F:List J},ay K dl H vs (ts ++ [x]) F->∃us w q g,vs=us ++ [w]/\ay K dl H us ts q/\aI K dl H w x g/\F=q++g
 |[],x,vs,F,h=>by
  cases h with
  |cons h1 h2 =>
   cases h2;exact([],_,[],_,U,.nil,h1,by simp)
 |t::ts,x,vs,F,h=>by
  cases h with
  |cons h1 h2 =>
   let(us,w,q,g,U,P,z,U):=ay.last h2;exact(_::us,w,_,g,U,.cons h1 P,z,by rw[u4])
def PQ(i j:Nat):QS:=λD q=>match q[i]? with
 |some (.o (.l xs))=>∃ys x,xs=ys ++ [x]/\T.ims xs=O/\i≠j/\D.nx ((q.set i (.o (.l ys))).set j (.o x))
 |_=>False
def Ba{xs ys:List T}:T.ims (xs++ys)=(T.ims xs&&T.ims ys):=by
 induction xs with
 |nil=>rfl
 |cons x r g=>show(x.im&&T.ims (r++ys))=((x.im&&T.ims r)&&T.ims ys);rw[g,Bool.and_assoc]
def K6{i:Nat}:lB K (ja (O7 K "list" Po (bZ i)) (fW j)) (PQ i j):=λdl H₀ hs H σ q Dq D (F,r) hq E=>by
 unfold PQ at hq
 split at hq
 ·rename_i xs ei;let(ys,x,U,P,ar,hq):=hq;let(v,hv,rp):=r.g i _ _ ei U;let(p,vs,G,U,eF,h1,h2):=rp.r.lst;let(us,w,F1,F2,U,r1,r2,U):=h2.last;rw[Ba,sU]at P;obtain rfl:=r1.im P.1;have hx:=by have:=P.2;simpa [T.ims]using this
  obtain rfl:=r2.im hx;refine(_,hv,.inl (U,_,SqL.of h1),p,_,w,U,U,h1,by simp,?_)
  rw[XY];let(F3,V):=r.vY ei hv eF (.refl r.d) r1 n6 (λ_ z=>nomatch z)
  have tf:=by
   have tf:TF H (upd H p (.lst us)):=(λa ak h=>(by
    rw[aj];exact h;intro z;subst z;rw[h]at h1;cases h1),λa ob u h=>(by
    rw[aj];exact h;intro z;subst z;rw[h]at h1;cases h1),λa φ h=>(by
    rw[aj];exact h;intro z;subst z;rw[h]at h1;cases h1),λa Q h=>(by
    by_cases z:a=p
    ·subst z;exact(_,au)
    ·exact(Q,by rw[aj z];exact h)),λa x h=>(x,Wj _,by
    rw[aj];exact h;intro z;subst z;rw[h]at h1;cases h1))
   exact r2.dj tf (λ_ z=>z) λ_ z=>nomatch z
  exact E.nx _ _ _ (V.Hs (.refl V.d) (.c tf) (λ_ z=>nomatch z) n6) hq
 ·exact hq.elim
def GZ{i:Nat}(g:X.N.Nodup)(hi:X.N[j]?=Z x)(hx:Loc X.env.scope x)(ho:PE X o (bZ i))(q:‹X.K=K›)(z:‹attributeBase o "pop" X.env (eval o X.env)=eval o X.env›)(P:‹(apos.endLine==aS.line)=true›)
  (hs:‹swapsWith (.Call (.Attribute o "pop" apos) [] [] aS) (Z (.Name x pos')) pos.line X.env=pure false›) (hf:AT X x:=by first|exact .inl rfl|exact .inr rfl|assumption):
  QPS X K (.Assign [.Name x pos'] (.Call (.Attribute o "pop" apos) [] [] aS) pos) (ja (O7 K "list" Po (bZ i)) (fW j)) (PQ i j) :=
 (by subst q;exact iy g hi hx (HW PySem.F.plainAttrs_list PySem.F.slot_list_pop PySem.F.type_list_pop Iw ho z P) hs hf,K6)
def Hi(g:Tg)(qe:QE):QS:=λD q=>qe q λt=>t.im=O/\Ex2 (λq'=>g.put t q=Z q') D.nx
def K0(he:fY K te qe):lB K (ja te (g.h K)) (Hi g qe):=λdl H₀ hs H σ q Dq D (F,r) hq E=>he dl H σ q _ _ r.rd hq λv t F' H' e1 V (Q,q',P,hz)=>by
 obtain rfl:=V.r.im Q;exact vZ (r.evo e1) V (λ_ _ _ _ _ z=>nomatch z) P λak r'=>E.nx _ _ _ r' hz
def wa(he:QPE X K e te qe)(hg:PG X tg (g.h K))(hs:‹swapsWithSole [tg] e pos.line X.env=pure false›)(hw:‹swappedStores [tg] e X.env=pure none›)
  (h1:‹(assignEach [tg] X.env).map (·.2)=[assign tg X.env]›):QPS X K (.Assign [tg] e pos) (ja te (g.h K)) (Hi g qe):=(wk he.h hg hs hw h1,K0 he.s)
def S1(i j:Nat)(qa qb:QE):QS:=λD q=>qa q λt=>t.im=O/\qb q λu=>u.im=O/\D.nx ((q.set i (.o t)).set j (.o u))
def K7{i:Nat}(ha:fY K ta qa)(hb:fY K tb qb):lB K (O0 i j (bL ta (bL tb fg))) (S1 i j qa qb):=λdl H₀ hs H σ q Dq D (F,r) hq E=>by
 refine ha dl H σ q _ _ r.rd hq λv t F1 H1 P V (m1,hq)=>hb dl H1 σ q _ _ (r.rd.evo P) hq λw u F2 H2 e2 Q g=>?_
 let(m2,hq):=g;obtain rfl:=V.r.im m1;obtain rfl:=Q.r.im m2;refine(v,w,U,?_);let(F1,R1):=r.Hs (P.trans e2) (V.evo P.d e2) (λ_ z=>nomatch z) n6
 exact E.nx _ _ _ (R1.Hs (.refl R1.d) Q (λ_ z=>nomatch z) n6) hq
def T.key:T->Option Key
 |.i x=>Z (.inl x)
 |.s x=>Z (.inr x)
 |_=>Y
theorem aI.key{v:V}{t:T}{F:List J}{k:Key}(h:aI K dl H v t F)(e:t.key=Z k):v=kV k:=by
 cases h <;> first|(cases e;rfl)|cases e
def cC(ks:List (Key×T))(k:Key):Option T:=(ks.find? λp=>decide (p.1=k)).map (·.2)
def ju(ks:List (Key×T))(k:Key)(t:T):List (Key×T):=if(ks.any λp=>decide (p.1=k))=O then ks.map (λp=>if p.1=k then(p.1,t)else p)else ks ++ [(k,t)]
def a9.look{vs:List (Key×V)}{ts:List (Key×T)}{F:List J}(k:Key)(h:a9 K dl H vs ts F):(cC ts k=Y/\cz vs k=Y)\/∃t v G,cC ts k=Z t/\cz vs k=Z v/\aI K dl H v t G/\∀b∈G,b∈F :=
 h.ind (.inl (U,U)) λk0 v x vs ts F G h r q=>by
  by_cases e:k0=k
  ·subst e;exact .inr (_,_,_,by simp[cC],by simp[cz],h,λb g=>p7 _ g)
  ·obtain⟨h1,h2⟩|⟨t,v,G,h1,h2,h3,h4⟩:=q
   ·refine .inl (?_,?_)
    ·unfold cC at h1 ⊢;rw[Ny,decide_eq_false e];exact h1
    ·unfold cz at h2 ⊢;rw[Ny,decide_eq_false e];exact h2
   ·refine .inr (t,v,G,?_,?_,h3,λb g=>pA _ (h4 b g))
    ·unfold cC at h1 ⊢;rw[Ny,decide_eq_false e];exact h1
    ·unfold cz at h2 ⊢;rw[Ny,decide_eq_false e];exact h2
mutual
def T.imk:List (Key×T)->Bool
 |[]=>O
 | (_,x)::r=>x.im&&T.imk r
end
theorem a9.im{vs:List (Key×V)}{ts:List (Key×T)}{F:List J}(h:a9 K dl H vs ts F):T.imk ts=O->F=[]:=h.ind (λ_=>rfl) (λ_ _ _ _ _ _ _ h _ g=>Bb h.im g)
def a9.keys{vs:List (Key×V)}{ts:List (Key×T)}{F:List J}(h:a9 K dl H vs ts F)(k:Key):(vs.any λp=>decide (p.1=k))=ts.any λp=>decide (p.1=k) :=
 h.ind U λ_ _ _ _ _ _ _ _ _ g=>by rw[WB,WB,g]
def a9.put{k:Key}{w:V}{t:T}(hw:aI K dl H w t []):∀{vs:List (Key×V)}{ts:List (Key×T)},a9 K dl H vs ts []->a9 K dl H (putK vs k w) (ju ts k t) []:=by
 have mp:∀{vs:List (Key×V)}{ts:List (Key×T)}{F:List J},a9 K dl H vs ts F->F=[]->a9 K dl H (vs.map λp=>if p.1=k then(p.1,w)else p) (ts.map λp=>if p.1=k then(p.1,t)else p) []:=by
  intro vs ts F h
  induction ts generalizing vs F with
  |nil=>intro _;cases h;exact .nil
  |cons p ts q =>
   cases h with
   |@cons k0 v x vs _ F1 F2 h1 h2 =>
    intro e;let(Q,P):=xq.mp e;subst Q P;have z:=q h2 U;rw[E3,E3];by_cases g:k0=k
    ·rw[if_pos g,if_pos g];exact .cons hw z
    ·rw[if_neg g,if_neg g];exact .cons h1 z
 have sn:∀{vs:List (Key×V)}{ts:List (Key×T)}{F:List J},a9 K dl H vs ts F->a9 K dl H (vs ++ [(k,w)]) (ts ++ [(k,t)]) F:=by
  intro vs ts F h
  induction ts generalizing vs F with
  |nil=>cases h;exact .cons hw .nil
  |cons p ts q =>
   cases h with
   |cons h1 h2=>exact .cons h1 (q h2)
 intro vs ts h;unfold putK ju;rw[h.keys k]
 split
 ·exact mp h U
 ·exact sn h
def Rel.GF{i:Nat}{p:J}{ws:List (Key×V)}{xs ys:List (Key×T)}(r:Rel K dl H₀ hs H σ q F)(hi:q[i]?=Z (.o (.d xs)))(hv:σ[i]?=Z (Z (.ref p)))(e:Evo dl H H')
  (rs:a9 K dl H' ws ys []):fc K dl H₀ hs (upd H' p (.dK ws)) σ (q.set i (.o (.d ys))):=by
 have r':=r.evo e;let(v',Q,rp):=r'.g i _ _ hi U;rw[hv]at Q;cases Q;let(p2,ar,G2,e2,eF,h1,h2):=rp.r.dic;cases e2;have pn:=rp.n p (by rw[eF];exact lD)
 have tf:TF H' (upd H' p (.dK ws)):=(λa us h=>(by
  rw[aj];exact h;intro z;subst z;rw[h]at h1;cases h1),λa ob u h=>(by
  rw[aj];exact h;intro z;subst z;rw[h]at h1;cases h1),λa φ h=>(by
  rw[aj];exact h;intro z;subst z;rw[h]at h1;cases h1),λa P h=>(by
  have ne:a≠p:=by
   intro z;subst z;rw[h]at h1;cases h1
  exact(P,by rw[aj ne];exact h)),λa x h=>(x,Wj _,by
  rw[aj];exact h;intro z;subst z;rw[h]at h1;cases h1))
 have ak:=rs.dj tf (λ_ z=>z) λ_ z=>nomatch z
 exact(_,r'.write hi hv (by rw[eF];exact lD) (λP h=>by rw[h1]at h;cases h) (.d au ak,λb hb=>by rw[fy.mp hb];exact pn) (by simp) λb hb=>by rw[fy.mp hb,eF];exact .inl lD)
def PN(i:Nat)(qk qv:QE):QS:=λD q=>match q[i]? with
 |some (.o (.d xs))=>qv q λt=>qk q λu=>match u.key with
  |some k=>xs.length<pq/\T.imk xs=O/\t.im=O/\D.nx (q.set i (.o (.d (ju xs k t))))
  |none=>False
 |_=>False
def K5{i:Nat}(hk:fY K tk qk)(hv:fY K tv qv):lB K (GA (bZ i) tk tv) (PN i qk qv):=λdl H₀ hs H σ q Dq D (F,r) hq E=>by
 unfold PN at hq
 split at hq
 ·rename_i xs ei;refine hv dl H σ q _ _ r.rd hq λw t F1 H1 P r1 hq=>?_
  let(v,z,rp):=(r.evo P).g i _ _ ei U;refine(v,z,hk dl H1 σ q _ _ (r.rd.evo P) hq λy u F2 H2 V r2 hq=>?_)
  split at hq
  ·rename_i k ek;let(hz,hm,ht,hq):=hq;obtain rfl:=r1.r.im ht;have Q:=rp.evo P.d V;let(p,vs,G,U,eF,h1,h2):=Q.r.dic;obtain rfl:=h2.im hm;rw[r2.r.key ek];exact(p,_,U,xu.k h1 (by rw[h2.len];exact hz),E.nx _ _ _ (r.GF ei z (P.trans V) (a9.put (r1.evo P.d V).r h2)) hq)
  ·exact hq.elim
 ·exact hq.elim
def qQ{i:Nat}(g:X.A.units+1<cLine)(ho:PE X o (bZ i))(hk:QPE X K a tk qk)(hv:QPE X K b tv qv)(hs:‹swapsWith b (Z (.Subscript o a pos')) pos.line X.env=pure false›):
  QPS X K (.Assign [.Subscript o a pos'] b pos) (GA (bZ i) tk tv) (PN i qk qv):=(pN g ho hk.h hv.h hs,K5 hk.s hv.s)
def LI:QPF X K (.Dict [] [] pos) FX (qC (.d [])):=(HS,λdl H σ q Q R rd hq k=>λp hp=>k _ _ [p] _ ((Evo.refl rd.d).new hp) (.d au .nil,λb g=>by rw[fy.mp g];exact rd.d.nd0 hp) (λb g=>by rw[fy.mp g];exact hp) (by simp) hq)
inductive Pq(neg:Bool)(y:V)(x:V)(H:Hp)(Q:VK):Prop
 |mk(a o:_)(h1:x=.ref a)(h2:ie H a y o)(h3:Q (.bl (if neg then !o.isSome else o.isSome)) H)
def Qo(P:X.A.units+1<cLine):OpR X (compareOp .In) (Pq ϊ):=by
 intro gd s σ H y x u v Q I z K h;let(a,o,U,g,q):=h;cases K;exact VQ P I g z λs' V=>(.bl _,H,V,U,q)
def Ee(P:X.A.units+1<cLine):OpR X (compareOp .NotIn) (Pq O):=by
 intro gd s σ H y x u v Q I z K h;let(a,o,U,g,q):=h;cases K;exact Ng P I g z λs' V=>(.bl _,H,V,U,q)
def VU:T->Option Str
 |.s x=>Z x
 |_=>Y
abbrev txs:List T->Option (List Str):=picks VU
theorem ay.txs{vs:List V}{ts:List T}{F:List J}{bs:List Str}(h:ay K dl H vs ts F)(e:L2.txs ts=Z bs):vs=bs.map V.str :=
 h.picks (λv t F a h e=>by cases t <;> first|(cases e;exact h.str.1)|cases e) e
def KL(bs:List Str):txs (bs.map T.s)=Z bs:=by
 induction bs with
 |nil=>rfl
 |cons b r g=>show(txs (r.map T.s)).map (b :: ·)=_;rw[g];rfl
def S7(qo qe:QE):QE:=λq Q=>qo q λs=>match s with
 |.s sep=>qe q λt=>match t with
  |.l xs=>Ex4 (λys=>txs xs=Z ys) (λys=>(ys.map (·.length)).sum+ys.length*sep.length<=16777216) (λys=>(.s (Txt.join sep ys))) Q
  |_=>False
 |_=>False
def LC(ho:QPE X K o to qo)(he:QPE X K e te qe)(hK:‹X.K=K›)(cE:‹attributeBase o "join" X.env (eval o X.env)=eval o X.env›)
  (nR:‹At X aS [e]›)
  (cD:‹(apos.endLine==aS.line)=true›) (hs:‹AC X e []›) (eO:‹(backTo aS (m4 [] X.env)).any (·.1)=false›):
  QPF X K (.Call (.Attribute o "join" apos) [e] [] aS) (tBM K "str" (rJoin K) to (bL te fg)) (S7 qo qe):=(by
 subst hK;exact Ci PySem.F.plainAttrs_str PySem.F.slot_str_join PySem.F.type_str_join MC ho.h (bh he.h cJ hs) cE nR cD hs eO,λdl H σ q Q R rd hq k=>ho.s dl H σ q _ _ rd hq λv t F H1 g V hq=>by
  split at hq
  ·let(U,_):=V.r.str;refine(U,he.s dl H1 σ q _ _ (rd.evo g) hq λw u F2 H2 e2 P hq=>?_)
   split at hq
   ·let(ys,hy,hz,hq):=hq;let(p,vs,G,U,eF,h1,h2):=P.r.lst;have ev:=h2.txs hy;subst ev;exact(_,p,ys,U,U,SqL.of h1,hz,k _ _ [] H2 (g.trans e2) (.c (.s _)) (λ_ z=>nomatch z) n6 hq)
   ·exact hq.elim
  ·exact hq.elim)
def NS(i:Nat)(qk qv:QE):QS:=λD q=>qv q λt=>match q[i]? with
 |some (.o (.l xs))=>qk q λu=>match u with
  |.i k=>∃j,ixN xs.length k=Z j/\T.ims xs=O/\t.im=O/\D.nx (q.set i (.o (.l (xs.set j t))))
  |_=>False
 |_=>False
end
def yS(vs ws:List V):Bool:=vs.length==ws.length&&(Fh vs.length).all λj=>match vs[j]?,ws[j]? with|some x,Z y=>eqV x y|_,_=>ϊ
variable{its:List B}
section
variable{X:Cx}{K:BT}
def Vals.at'{vs:List V}(r:Vals vs its)(h:j<its.toArray.size):∃v,vs[j]?=Z v/\RelV v its.toArray[j]:=by
 have hl:=r.length;have g:=by simpa using h
 have hv:j<vs.length:=by lia
 let(u,h1,h2):=r.get (i:=j) (x:=vs[j]) (by simp[hv])
 have:its[j]?=Z its[j]:=by simp[g]
 rw[this]at h1;cases h1;exact(vs[j],by simp[hv],by simpa using h2)
def pU{vs:List V}{v:V}(h:vs.all gj=O)(e:vs[j]?=Z v):gj v=true:=R4.mp h v (mu e)
inductive SR(K:BT)(x:V)(y:V)(H:Hp)(Q:VK):Prop
 |mk(p q vs ws:_)(h1:x=.ref p)(h2:y=.ref q)(h3:((SqL K H p vs/\SqL K H q ws)\/(SqT K H p vs/\SqT K H q ws)))(h4:vs.all gj=O)(h5:ws.all gj=O)(h6:Q (.bl (yS vs ws)) H)
def Qn(hu:X.A.units+1<cLine):OpR X (compareOp .Eq) (SR X.K):=by
 intro gd s σ H x y v u Q I rx ry h;let(p,q,vs,ws,U,U,hs,f1,f2,k):=h;cases rx;cases ry;obtain⟨h1,h2⟩|⟨h1,h2⟩:=hs
 ·let(its,z,p1,_):=I.list h1;let(iE,g,p2,_):=I.list h2;have l1:=z.length;have l2:=g.length;by_cases hl:its.length=iE.length
  ·refine SeqAt.eq_listAt (e:=λj=>match vs[j]?,ws[j]? with|some x,Z y=>eqV x y|_,_=>ϊ) p1.isList p2.isList (by simpa using hl) (by omega) (λj g1 g2=>?_) (.bl _,H,I,U,?_)
   ·let(a,V,ra):=z.at' g1;let(b,P,rb):=g.at' g2;simp only[V,P];exact Bo ra rb (pU f1 V) (pU f2 P)
   ·have e:yS vs ws=(Fh its.toArray.size).all λj=>match vs[j]?,ws[j]? with|some x,Z y=>eqV x y|_,_=>false:=by
     unfold yS;rw[show(vs.length==ws.length)=O from by simp;lia,Bool.true_and,ri,l1]
    rw[<- e];exact k
  ·refine SeqAt.eq_list_lengthsAt p1.isList p2.isList (by simpa using hl) (by omega) (.bl _,H,I,U,?_)
   have e:yS vs ws=false:=by
    unfold yS;rw[show(vs.length==ws.length)=ϊ from by simp;lia,Bool.false_and]
   rw[<- e];exact k
 ·let(its,z,p1,_):=I.tuple h1;let(iE,g,p2,_):=I.tuple h2;have l1:=z.length;have l2:=g.length;refine SeqAt.eq_tupleAt (e:=λj=>match vs[j]?,ws[j]? with|some x,Z y=>eqV x y|_,_=>ϊ) (p1) (p2) (by omega) (λj g1 g2=>?_) (.bl _,H,I,U,?_)
  ·let(a,V,ra):=z.at' g1;let(b,P,rb):=g.at' g2;simp only[V,P];exact Bo ra rb (pU f1 V) (pU f2 P)
  ·have e:yS vs ws=((Fh (min its.toArray.size iE.toArray.size)).all (λj=>match vs[j]?,ws[j]? with|some x,Z y=>eqV x y|_,_=>ϊ)&&its.toArray.size==iE.toArray.size):=by
    unfold yS;rw[ri,ri,<- l1,<- l2,Bool.and_comm];by_cases hl:vs.length=ws.length
    ·rw[hl,Nat.min_self]
    ·rw[show(vs.length==ws.length)=ϊ from by simpa using hl,XW,XW]
   rw[<- e];exact k
def eqF(xs ys:List T):Bool:=yS (xs.map T.v) (ys.map T.v)
def Ar:Q2:=λt u Q=>match t,u with
 |.l xs,.l ys=>(fls xs&&fls ys)=O/\Q (.b (eqF xs ys))
 |.t xs,.t ys=>(fls xs&&fls ys)=O/\Q (.b (eqF xs ys))
 |t,u=>qEq t u Q
def Pp(K:BT):R2:=λx y H Q=>rEq x y H Q\/SR K x y H Q
def wz(g:X.A.units+1<cLine)(q:X.K=K):OpR X (compareOp .Eq) (Pp K):=by subst q;exact N0.or (Qn g)
def pE:dy K (Pp K) Ar:=by
 intro dl H x y t u F G Q R D P q hq k;unfold Ar at hq
 split at hq
 ·let(p,vs,G1,U,U,h1,h2):=P.r.lst;let(V,g,G2,U,U,h3,h4):=q.r.lst;let(f,hq):=hq;rw[sU]at f;let(U,U):=h2.vs f.1;let(U,U):=h4.vs f.2;exact .inr (p,V,_,_,U,U,.inl (SqL.of h1,SqL.of h3),sd f.1,sd f.2,k _ _ [] H (.refl D) (.c (.b _)) (λ_ z=>nomatch z) n6 hq)
 ·let(p,vs,U,h1,h2):=P.r.tup;let(V,g,U,h3,h4):=q.r.tup;let(f,hq):=hq;rw[sU]at f;let(U,U):=h2.vs f.1;let(U,U):=h4.vs f.2;exact .inr (p,V,_,_,U,U,.inr (SqT.of h1,SqT.of h3),sd f.1,sd f.2,k _ _ [] H (.refl D) (.c (.b _)) (λ_ z=>nomatch z) n6 hq)
 ·exact .inl (Pj dl H x y t u F G Q R D P q hq k)
end
end L2
namespace PySem
open Sem (wp)
section
variable{prog:Da}{w:Cl}{A:Db}{E:B->ϋ->Prop}
def oV:typeLookup (.type "tuple") "keys"=pure none:=am_miss_of_fast (by decide +kernel)
def rO:typeLookup (.type "list") "keys"=pure none:=am_miss_of_fast (by decide +kernel)
set_option maxRecDepth 8000 in
theorem iW{s:ϋ}{a:J}{o:Obj}{xs:Array B}{k:Nat}{Q:Option B->ϋ->Prop}
  (hx:s.heap.get? a=Z o) (P:o.cls=.type "tuple") (K:o.data=.seq xs k) (hd:o.dict=Y) (V:A.handled=Y)
  (h:∀h' tk,(∀b o,s.heap.get? b=Z o->h'.get? b=Z o)->Q Y {s with heap:=h',toks:=tk}):
  wpAny (model prog w) A (getAttr? (.ref a) "keys") Q E s:=by
 let(c,ak,dat,sl):=o;simp only at P K hd;subst P K hd;let(hp,g,d,tk,os):=s;have hT:∀q,((hp,g,d,q,os):ϋ).TypeIs (.ref a) "tuple":=λ_=>(_,hx,U)
 have f1:=sub_AttributeError;have f3:=F.slot_tuple_getattribute.lookup;have f4:=F.slot_tuple_getattribute.bind (.ref a);have f5:=am_tuple_getattr_none;unfold getAttr? getAttrBy? getAttrBy
 repeat (any_goals (first|assumption|exact hT _|((with_reducible show wpAny _ _ (call (B.builtin "tuple.__getattribute__") _ _) _ _ _);refine call_meets F.slot_tuple_getattribute (hT _) am_entry_tuple_getattribute (F.args_tuple_getattribute_2 _ _) (meets_getattribute_miss_tuple a xs k sl "keys" _ oV (by decide +kernel) (by decide +kernel)) (hx,V,λh' q e z=>?_))|wp_step))
 let(t',u',he):=z.there;show wpAny _ _ (getattributeRaised _ _ _ _ _ _ _) _ _ _;unfold getattributeRaised
 repeat (any_goals (first|assumption|wp_step))
 exact h _ _ z.keeps
set_option maxRecDepth 8000 in
theorem jD{s:ϋ}{a:J}{o:Obj}{xs:Array B}{k:Nat}{Q:Option B->ϋ->Prop}
  (hx:s.heap.get? a=Z o) (P:o.cls=.type "list") (K:o.data=.seq xs k) (hd:o.dict=Y) (V:A.handled=Y)
  (h:∀h' tk,(∀b o,s.heap.get? b=Z o->h'.get? b=Z o)->Q Y {s with heap:=h',toks:=tk}):
  wpAny (model prog w) A (getAttr? (.ref a) "keys") Q E s:=by
 let(c,ak,dat,sl):=o;simp only at P K hd;subst P K hd;let(hp,g,d,tk,os):=s;have hT:∀q,((hp,g,d,q,os):ϋ).TypeIs (.ref a) "list":=λ_=>(_,hx,U)
 have f1:=sub_AttributeError;have f3:=F.slot_list_getattribute.lookup;have f4:=F.slot_list_getattribute.bind (.ref a);have f5:=am_list_getattr_none;unfold getAttr? getAttrBy? getAttrBy
 repeat (any_goals (first|assumption|exact hT _|((with_reducible show wpAny _ _ (call (B.builtin "list.__getattribute__") _ _) _ _ _);refine call_meets F.slot_list_getattribute (hT _) am_entry_list_getattribute (F.args_list_getattribute_2 _ _) (meets_getattribute_miss_list a xs k sl "keys" _ rO (by decide +kernel) (by decide +kernel)) (hx,V,λh' q e z=>?_))|wp_step))
 let(t',u',he):=z.there;show wpAny _ _ (getattributeRaised _ _ _ _ _ _ _) _ _ _;unfold getattributeRaised
 repeat (any_goals (first|assumption|wp_step))
 exact h _ _ z.keeps
end
end PySem
namespace PySem
open Sem (wp)
namespace F
def bO:entryFor table "dict.update.loop"=Z Builtin.«dict.update.loop»:=entryFor_of_tree (by kernel_rfl)
def aM:plainId "dict.update.loop"=true:=by decide +kernel
end F
section
variable{prog:Da}{w:Cl}{A:Db}{R:Result->ϋ->Prop}{I:J}{fp wr:List J}{n:Nat}{P:Nat->B->Prop}{St:Nat->Do->Prop}{κ:Type}[DecidableEq κ]{knd:KeyKind prog w κ}
def tS(kvs:List (κ×B))(k:κ)(v:B):(stored kvs k v).length<=kvs.length+1:=by
 unfold stored
 split <;> simp
def ub(kvs:List (κ×B)):∀(more:List (κ×B)),(merged kvs more).length<=kvs.length+more.length:=by
 intro more
 induction more generalizing kvs with
 |nil=>exact nY _
 |cons p r g =>
  have h1:=g (stored kvs p.1 p.2);have h2:=tS kvs p.1 p.2;show(merged (stored kvs p.1 p.2) r).length<=_;simp only[qf]
  lia
theorem gF(W:Walks prog w A.in1 I fp wr n P St)(S:J)(aP:S ∉ fp)(res:B)(h0:Do)(kvs pairs:List (κ×B))(hsz:kvs.length+pairs.length<=pq)(a3:pairs.length=n)
  (hp:∀i v,P i v->∃(a:J)(o:Obj)(key val:B)(k:κ)(m:Nat),v=.ref a/\pairs[i]?=Z (k,val)/\knd.is k key=O/\h0.get? a=Z o/\o.cls=.type "tuple" /\ o.data=.seq #[key,val] m/\a ∉ wr/\a≠S):
  ∀(j i:Nat)(s:ϋ),n - i=j->i<=n->St i s.heap->s.heap.DictOf knd S (merged kvs (pairs.take i))->(∀b o,b ∉ wr->b≠S->h0.get? b=Z o->s.heap.get? b=Z o) ->
  (∀h' tk,(∀b o,b ∉ wr->b≠S->s.heap.get? b=Z o->h'.get? b=Z o)->h'.DictOf knd S (merged kvs pairs)->R (.ok (.ret res)) {s with heap:=h',toks:=tk}) ->
  codeAny (model prog w) A (.builtin "dict.update.loop" ([.ref S,.ref I,rawInt i,res],[])) R s:=by
 have aN:=λh=>aP (W.sub _ h)
 intro j
 induction j with
 |zero =>
  intro i s hk hi Q hS V hR;have a8:i=n:=by lia
  subst a8;refine Uw F.bO ?_;rw[Xh F.aM _];refine cZ (W.done s _ _ Q λh' tk g=>?_)
  refine cZ (kq (kq (hR h' tk (λb o K _ e=>g b o K e) ?_)))
  rw[<- a3,rr]at hS;let(o,es,ep,ho,r):=hS;exact(o,es,ep,g S o aN ho,r)
 |succ j ih =>
  intro i s hk hi Q hS V hR;have ar:=WN hk;refine Uw F.bO ?_;refine cZ (W.item i s _ _ ar Q λv h' tk hP uo g=>?_)
  let(a,o,key,val,k,m,U,a0,Bh,ho,hc,hd,aA,bb):=hp i v hP;have ak:=g a o aA (V a o aA bb ho);have bt:h'.DictOf knd S (merged kvs (pairs.take i)):=by
   let(o,es,ep,ho,r):=hS;exact(o,es,ep,g S o aN ho,r)
  refine cZ (BI (cZ (wpAny_tryCatch ?_)));refine cZ (VD (o,ak,hc) ?_);refine cZ (wpAny_seqItems ak hd (kq ?_));have bE:(merged kvs (pairs.take i)).length<=pq:=by
   have h1:=ub kvs (pairs.take i);rw[qp]at h1;omega
  refine BI (wpAny_dictSet_pairs Bh bt λbC Bk aT=>?_)
  have e:=merged_take_succ kvs pairs i (k,val) a0;rw[<- e]at Bk;have fr:∀b o,b≠S->h'.get? b=Z o->bC.get? b=Z o:=λb o K eb=>(aT.2 b K).trans eb
  exact kq (R3 F.aM _,ih (i+1) _ (by rw[Xm,hk];rfl) ar (W.frame _ _ _ uo λb K o eb=>fr b o (λz=>aP (z▸K)) eb) Bk (λb o K q eb=>fr b o q (g b o K (V b o K q eb))) λh3 aS a7 bj=>(hR h3 aS (λb o K q eb=>a7 b o K q (fr b o q (g b o K eb))) bj))
end
end PySem
namespace PySem
open Sem (wp)
section
variable{prog:Da}{w:Cl}{A:Db}{s:ϋ}{κ:Type}[DecidableEq κ]{knd:KeyKind prog w κ}
theorem gI{S p:J}{its:Array B}{kvs pairs:List (κ×B)}{id:String}{res:B}{R:Result->ϋ->Prop}(Q:A.handled=Y)(hS:s.heap.DictOf knd S kvs)(ar:p≠S)
  (ho:∃(o:Obj)(n:Nat),s.heap.get? p=Z o/\o.dict=Y/\o.data=.seq its n/\(o.cls=.type "tuple" \/ o.cls=.type "list")) (hsz:kvs.length+pairs.length<=pq) (aA:pairs.length=its.size)
  (hp:∀(i:Nat)(v:B),its[i]?=Z v->∃(a:J)(o:Obj)(key val:B)(k:κ)(m:Nat),v=.ref a/\pairs[i]?=Z (k,val)/\knd.is k key=O/\s.heap.get? a=Z o/\o.cls=.type "tuple" /\ o.data=.seq #[key,val] m)
  (hR:∀h' tk,(∀b o,b≠S->s.heap.get? b=Z o->h'.get? b=Z o)->h'.DictOf knd S (merged kvs pairs)->R (.ok (.ret res)) {s with heap:=h',toks:=tk}):
  wpAny (model prog w) A.in1 (Builtin.Dict.updateFrom id S (.ref p) [] res) (λfin s'=>match fin with|.done f=>R (.ok f) s' |.again c'=>c'.quiet=O/\codeAny (model prog w) A c' R s') (λe s'=>R (.error e) s') s:=by
 let(o,n,hg,P,q,g):=ho;have fin:∀(h1:Do) tk h2 I St,(∀b o,s.heap.get? b=Z o->h1.get? b=Z o)->(∀b o,h1.get? b=Z o->h2.get? b=Z o)->h1.objs.size<=I->Walks prog w A.in1 I [I,p] [I] its.size (λi v=>its[i]?=Z v) St->St 0 h2 ->
   codeAny (model prog w) A (.builtin "dict.update.loop" ([.ref S,.ref I,rawInt 0,res],[])) R {s with heap:=h2,toks:=tk}:=by
  intro h1 tk h2 I St k1 k2 hI W ak;have K:∀b o,s.heap.get? b=Z o->b≠I:=λb o e z=>by
   have:=jR (k1 b o e)
   exact absurd (rE this hI) (by rw[z];exact BH _)
  have aN:S ∉ [I,p]:=λz=>by
   let(o,_,_,e,_):=hS;obtain z|z:=ot.mp z
   ·exact K S o e z
   ·exact ar (fy.mp z).symm
  refine gF (knd:=knd) W S aN res s.heap kvs pairs hsz aA (λi v hP=>?_) its.size 0 _ U (wh _) ak ?_ (λb o _ _ e=>k2 b o (k1 b o e)) λh' V hk aP=>?_
  ·let(a,oa,key,val,k,m,e1,e2,e3,e4,e5,e6):=hp i v hP;refine(a,oa,key,val,k,m,e1,e2,e3,e4,e5,e6,λz=>K a oa e4 (fy.mp z),λz=>?_)
   let(o,_,_,e,hc,hd,_):=hS;rw[<- z,e4]at e;cases e;rw[e6]at hd;cases hd
  ·let(o,es,ep,e,r):=hS;exact(o,es,ep,k2 _ _ (k1 _ _ e),r)
  ·exact hR h' V (λb o hb e=>hk b o (λz=>K b o e (fy.mp z)) hb (k2 b o (k1 b o e))) aP
 obtain g|g:=g
 ·refine cZ (VD (o,hg,g) ?_);refine cZ (iW hg g q P Q λh1 tk k1=>?_)
  refine cZ (Wo ?_);have hT:h1.IsTuple p its:=(o,k1 _ _ hg,g,n,q);exact cZ (wpAny_pyIter_tuple hT (kq (R3 F.aM _,(fin h1 tk _ h1.objs.size _ k1 (λb o e=>ft _ e) (nY _) (Walks.tuple (show A.in1.handled=Y from Q) _ p (rz (jR (k1 _ _ hg))) its) ((_,px _ U,U,U),hT.push _)))))
 ·refine cZ (VD (o,hg,g) ?_);refine cZ (jD hg g q P Q λh1 tk k1=>?_)
  refine cZ (Wo ?_);have hT:h1.IsList p its:=(o,k1 _ _ hg,g,n,q);exact cZ (wpAny_pyIter_list hT (kq (R3 F.aM _,(fin h1 tk _ h1.objs.size _ k1 (λb o e=>ft _ e) (nY _) (Walks.list (show A.in1.handled=Y from Q) _ p (rz (jR (k1 _ _ hg))) its) ((_,px _ U,U,U),hT.push _)))))
end
end PySem
namespace L2
open PySem PySem.Spec PyProof.Rows
variable{gd:List (J×Obj)}{H:Hp}{a:J}
section
variable{X:Cx}
def Inv.OU{σ:St}{s:ϋ}{xs:List V}(I:Inv X gd σ H s)(h:H a=Z (.tup xs)):∃its:List B,Vals xs its/\jQ s.heap a its.toArray/\xs.length<=pq:=by
 let(z,its,r,p):=(I.hok a _ h);exact(its,r,p,z)
def ye{σ:St}{s:ϋ}(I:Inv X gd σ H s):∀{ps:List J}{kvs:List (Key×V)}{us:List B},Vals (ps.map V.ref) us->ps.length=kvs.length->(∀(i:Nat)(p:J)(kv:Key×V),ps[i]?=Z p->kvs[i]?=Z kv->H p=Z (.tup [kV kv.1,kv.2])) ->
  ∃pairs:List (Key×B),KV kvs pairs/\∀(i:Nat)(v:B),us[i]?=Z v->∃(a:J)(o:Obj)(key val:B)(k:Key)(m:Nat),v=.ref a/\pairs[i]?=Z (k,val)/\(bq X.prog X.w).is k key=O/\s.heap.get? a=Z o/\o.cls=.type "tuple" /\ o.data=.seq #[key,val] m:=by
 intro ps
 induction ps with
 |nil =>
  intro kvs us r hl _;have e:kvs=[]:=by cases kvs with|nil=>rfl|cons _ _=>simp at hl
  subst e;cases r;exact([],.nil,λi v h=>by simp at h)
 |cons p ps ih =>
  intro kvs us r hl h;cases kvs with
  |nil=>simp at hl
  |cons kv kvs =>
   cases r with
   |@cons _ u _ us P K =>
    let(pairs,h1,h2):=ih K (by simpa using hl) λi p kv q g=>h (i+1) p kv (by simpa using q) (by simpa using g)
    have hp:=h 0 p kv (by simp) (by simp)
    let(its,z,(o,ho,hc,m,hd),_):=I.tuple (SqT.of hp);cases z with
    |@cons _ key _ rest k1 k2 =>
     cases k2 with
     |@cons _ val _ SD k3 Q =>
      cases Q;refine((kv.1,val)::pairs,.cons (U,k3) h1,λi v hv=>?_)
      cases i with
      |zero =>
       simp at hv;subst hv
       cases(P)
       exact(p,o,key,val,kv.1,m,U,by simp,mv k1,ho,hc,hd)
      |succ i =>
       let(a,oa,Vx,OO,k,m',q,g,e3):=h2 i v (by simpa using hv)
       exact(a,oa,Vx,OO,k,m',q,by simpa using g,e3)
inductive v7(xs:List V)(H:Hp)(Q:VK):Prop
 |mk(p:J)(ps:List J)(kvs:List (Key×V))(h1:xs=[.ref p])(h2:(H p=Z (.tup (ps.map V.ref))\/H p=Z (.lst (ps.map V.ref))))(h3:ps.length=kvs.length)(h4:(∀(i:Nat)(a:J)(kv:Key×V),ps[i]?=Z a->kvs[i]?=Z kv->H a=Z (.tup [kV kv.1,kv.2])))(h5:∀d,H d=Y->Q (.ref d) (upd H d (.dK (iB [] kvs))))
theorem cB(hc:X.calm=O):bY X (.type "dict") v7:=by
 intro gd s σ H xs us Q I r h;let(p,ps,kvs,U,hp,hl,ak,q):=h;let(u,U,ru):=vals1 r;cases ru;have hh:=I.ok.hd hc;obtain⟨its,z,K,ob⟩:∃its:List B,Vals (ps.map V.ref) its/\(ps.map V.ref).length<=pq/\∃(o:Obj)(n:Nat),s.heap.get? p=Z o/\o.dict=Y/\o.data=.seq its.toArray n/\(o.cls=.type "tuple" \/ o.cls=.type "list"):=by
  obtain hp|hp:=hp
  ·let(its,z,((o,ho,h1,n,h2),o',P,h3),K):=I.OU hp;rw[ho]at P;cases P;exact(its,z,K,o,n,ho,h3,h2,.inl h1)
  ·let(K,its,n,z,e):=(I.hok p _ hp);exact(its,z,K,_,n,e,U,U,.inr U)
 let(pairs,kv,rW):=ye I z hl ak;refine callType_codes (Q₁:=λobj g=>obj=.ref s.heap.objs.size/\g={s with heap:=s.heap.push {cls:=.type "dict",data:=.dict #[]}}) F.kt_called_dict (F.kt_typeCall_dict_1 _) F.entry_dict_init (kt_code_dict_new _ (U,U)) ?_
 rintro obj g ⟨rfl,rfl⟩
 have rY:(s.heap.push {cls:=.type "dict",data:=.dict #[]}).DictOf (bq X.prog X.w) s.heap.objs.size []:=Heap.DictOf.new s.heap;refine(rY.typeIs,F.args_dict_init_2 _ _,?_);refine cZ ?_;refine cZ (wpAny_notOrdered_dict rY.typeIs ?_);refine kq ?_;let(o,n,ho,aN,aA,aP):=ob;have ar:=z.length;rw[dN]at ar K;have aS:=kv.length;refine gI (pairs:=pairs) hh rY (rz (jR ho)) (o,n,ft _ ho,aN,aA,aP) (by simp only[Wv];lia) (by rw[ri];lia) (λi v hv=>?_) λh' tk hk hd=>?_
 ·let(a,oa,key,val,k,m,e1,e2,e3,e4,e5,e6):=rW i v (by simpa using hv)
  exact(a,oa,key,val,k,m,e1,e2,e3,ft _ e4,e5,e6)
 ·refine(U,.ref s.heap.objs.size,_,I.laid (λb u e=>hk b u (rz (jR e)) (ft _ e)) (nY _) ?_,U,q _ (I.hok.fresh (nY _)))
  refine si ?_ ?_ (KV.merge kv .nil) hd
  ·have:=eU kvs []
   simp only[Wv]at this
   lia
  ·have:=I.big
   exact beq_eq_false_iff_ne.mpr (zj this)
end
def cn:List T->Option (List (Key×T))
 |[]=>Z []
 |.t [k,x]::r=>match k.key,cn r with
  |some k,Z r=>Z ((Prod.mk k x)::r)
  |_,_=>Y
 |_=>Y
def cX(ks more:List (Key×T)):List (Key×T):=more.foldl (λacc p=>ju acc p.1 p.2) ks
section
variable{K:BT}{dl:Dl}
def yg{x:T}{r:List T}{g:List (Key×T)}(h:cn (x::r)=Z g):∃k y k0 q,x=.t [k,y]/\k.key=Z k0/\cn r=Z q/\g=(k0,y)::q:=by
 unfold cn at h
 split at h
 ·rename_i z;cases z
 ·rename_i k y K z;cases z
  split at h
  ·cases h;exact(_,_,_,_,U,(by assumption),(by assumption),U)
  ·cases h
 ·cases h
def ay.pairs{vs:List V}{xs:List T}{F:List J}(h:ay K dl H vs xs F):∀{g:List (Key×T)},F=[]->cn xs=Z g ->
  ∃(ps:List J)(kvs:List (Key×V)),vs=ps.map V.ref/\ps.length=kvs.length/\(∀(i:Nat)(a:J)(kv:Key×V),ps[i]?=Z a->kvs[i]?=Z kv->H a=Z (.tup [kV kv.1,kv.2]))/\a9 K dl H kvs g [] :=
 h.ind (M:=λvs xs F=>∀{g:List (Key×T)},F=[]->cn xs=Z g ->   ∃(ps:List J)(kvs:List (Key×V)),vs=ps.map V.ref/\ps.length=kvs.length/\(∀(i:Nat)(a:J)(kv:Key×V),ps[i]?=Z a->kvs[i]?=Z kv->H a=Z (.tup [kV kv.1,kv.2]))/\a9 K dl H kvs g []) (λ{g} _ h=>by
  cases h;exact([],[],U,U,λi a kv h=>by simp at h,.nil)) λ_ _ _ _ _ _ h _ ih g e q=>by
  let(e1,e2):=xq.mp e;let(k,y,k0,r0,U,ek,er,U):=yg q;let(ps,kvs,U,hl,ht,hk):=ih e2 er;let(a,ws,U,ha,Q):=h.tup;cases Q with
  |@cons w1 _ _ _ G1 G2 P z =>
   cases z with
   |@cons w2 _ _ _ G3 G4 h2 h3 =>
    cases h3;have e3:=P.key ek;subst e3;let(z1,z2):=xq.mp e1;rw[qg]at z2;subst z1 z2;refine(a::ps,(k0,w2)::kvs,U,by simp[hl],λi b kv h1 h2=>?_,.cons h2 hk)
    cases i with
    |zero =>
     simp at h1 h2;subst h1 h2;exact ha
    |succ i=>exact ht i b kv (by simpa using h1) (by simpa using h2)
theorem a9.cX{kvs':List (Key×V)}{kts':List (Key×T)}{kvs:List (Key×V)}{g:List (Key×T)}{F:List J}(h:a9 K dl H kvs g F):F=[]->∀{vs:List (Key×V)}{ts:List (Key×T)},a9 K dl H vs ts []->a9 K dl H (iB vs kvs) (L2.cX ts g) [] :=
 h.ind (λ_ _ _ h=>h) λ_ _ _ _ _ _ _ h1 _ q e _ _ h=>by
  let(P,z):=xq.mp e;subst P;exact q z (a9.put h1 h)
def LN:QC:=λts Q=>on1 ts λt=>match t with
 |.t xs=>T.ims xs=O/\Ex3 (λg=>cn xs=Z g) (λg=>(.d (cX [] g))) Q
 |.l xs=>T.ims xs=O/\Ex3 (λg=>cn xs=Z g) (λg=>(.d (cX [] g))) Q
 |_=>False
def dF:mX K v7 LN:=by
 intro dl H vs ts F Q R D r hq k;have go:∀p ws xs,vs=[.ref p]->(H p=Z (.tup ws)\/H p=Z (.lst ws))->ay K dl H ws xs []->(Ex3 (λg=>cn xs=Z g) (λg=>(.d (cX [] g))) Q)->v7 vs H R:=by
  rintro p ws xs rfl hp rs ⟨g,e,hq⟩
  let(ps,kvs,U,hl,V,hk):=rs.pairs U e;refine(p,ps,kvs,U,hp,hl,V,λd hd=>?_)
  have ev:=(Evo.refl D).new (o:=.dK (iB [] kvs)) hd;have h2:=a9.cX (kvs':=[]) (kts':=[]) hk U .nil;exact k _ _ [d] _ ev (.d au (h2.dj (ev.tf D) (λ_ z=>z) λ_ z=>nomatch z),λb P=>by rw[fy.mp P];exact D.nd0 hd) (λb P=>by rw[fy.mp P];exact hd) (by simp) hq
 replace hq:=on1.inv hq
 let(t,U,hq):=hq;cases t with
 |t xs =>
  let(v,U,q):=r.one;let(p,ws,U,h1,h2):=q.r.tup;have e:=h2.im hq.1;subst e;exact go p ws _ U (.inl h1) h2 hq.2
 |l xs =>
  let(v,U,q):=r.one;let(p,ws,G,U,_,h1,h2):=q.r.lst;have e:=h2.im hq.1;subst e;exact go p ws _ U (.inr h1) h2 hq.2
 |_=>exact hq.elim
end
variable{j:Nat}{x:Str}{py:Pos}{P:Da}{mg:Str->Option B}{base:Do}{fd:Ch}{ps:List Str}
section
variable{X:Cx}{K:BT}{a b:Ev}{ta tb:TE}{qa qb:QE}{pos:Pos}
def Pw{i:Nat}{y:Str}{q pt:Pos}{kt k2 g}(hc:X.calm=O)(hN:X.N.Nodup)(hi:X.N[i]?=Z x)(V:X.N[j]?=Z y)(z:i≠j)
  (hx:BC X x) (Q:BC X y) (ha:QPE X K a ta qa) (P:QPE X K b tb qb)
  (hw:swappedStores [.Tuple [.Name x q,.Name y py] kt pt] (.Tuple [a,b] k2 g) X.env=pure (Z [x,y]))
  (hs:‹swapsWithSole [.Tuple [.Name x q,.Name y py] kt pt] (.Tuple [a,b] k2 g) pos.line X.env=pure false›)
  (h1:‹m4 [a,b] X.env=(ϊ,eval a X.env)::m4 [b] X.env›) (h2:‹AC X b []›):
  QPS X K (.Assign [.Tuple [.Name x q,.Name y py] kt pt] (.Tuple [a,b] k2 g) pos) (O0 i j (bL ta (bL tb fg))) (S1 i j qa qb) :=
 (P6 hc hN hi V z hx Q (bh ha.h (bh P.h cJ h2) h1) hw hs,K7 ha.s P.s)
def nJ:PSp:=λts Q=>on2 ts λt u=>match t with
 |.dw=>match u with|.i m=>0<m/\m<18446744073709551616/\∀r,0<=r->r<m->Q (.i r)|_=>False
 |_=>False
theorem jI{w:Cl}{K:BT}{k:Nat}{f:J}(F:bf P w K mg base CX0 k f fd ps F6):bf P w K mg base CX0 k f fd ps (spQ K nJ):=by
 refine F.imp λvs H Q E h=>?_
 let(dl,ts,Fp,Qp,D,r,h,fin):=h
 replace h:=on2.inv h
 let(t,u,U,h):=h
 split at h
 ·split at h
  ·let(v,w',F1,F2,U,r1,r2):=r.two;let(a,l,U,hm,_):=r1.r.dea;let(U,_):=r2.r.int;refine(a,l,_,U,D _ hm,h.1,h.2.1,λr H' r0 ak D' q=>fin _ _ [] H' (λb o e n _=>q b o e (n _ hm).1 (n _ hm).2,λp hp=>?_,λb x e=>(x,Wj _,by
    let(s2,n2,l2,Q2):=D _ hm;exact q b _ e (gT e Q2.hd (λz=>nomatch z)) (gT e Q2.hl (λz=>nomatch z)))) (.c (.i _)) (λ_ z=>nomatch z) n6 (h.2.2 r r0 ak))
   by_cases e:p=(a,l)
   ·rw[e];exact D'
   ·let(s1,n1,l1,Q1):=D p hp;let(s2,n2,l2,Q2):=D _ hm;let(s3,n3,l3,Q3):=D';have pa:p.1≠a:=λz=>by
     have z1:=Q1.hd;have z2:=Q2.hd;rw[z]at z1;rw[z1]at z2;have z3:=by injection (Option.some.inj z2)
     have z4:=congrArg (λkv=>cz kv (.inr "left")) z3
     exact e (Prod.ext z (V.ref.inj (Option.some.inj z4)))
    have pl:=gT Q1.hd Q2.hl (λz=>nomatch z)
    have ar:=gT Q1.hl Q2.hd (λz=>nomatch z)
    by_cases g:p.2=l
    ·exact(s1,n1,l3,q _ _ Q1.hd pa pl,by rw[g];exact Q3.hl,Q1.s0,Q1.s1,Q1.n0,Q3.l0)
    ·exact(s1,n1,l1,q _ _ Q1.hd pa pl,q _ _ Q1.hl ar g,Q1.s0,Q1.s1,Q1.n0,Q1.l0)
  ·exact h.elim
 ·exact h.elim
end
section
variable{X:Cx}{K:BT}{a b e o:Ev}{tk tv:TE}{qk qv:QE}{pos pos':Pos}
theorem ay.set{dl:Dl}{H:Hp}{w:V}{t:T}(hw:aI K dl H w t []):∀{vs:List V}{xs:List T}{F:List J}(j:Nat),ay K dl H vs xs F->F=[]->ay K dl H (vs.set j w) (xs.set j t) []
 |_,_,_,_,.nil,_=>.nil
 |_,_,_,0,.cons h r,e=>by
  let(q,g):=xq.mp e;subst q g;exact .cons hw r
 |_,_,_,j+1,.cons h r,e=>by
  let(q,g):=xq.mp e;subst q g;exact .cons h (ay.set hw j r U)
def Gd{i:Nat}(hk:fY K tk qk)(hv:fY K tv qv):lB K (ja tv (Ji (bZ i) tk GJ)) (NS i qk qv):=λdl H₀ hs H σ q Dq D (F,r) hq E=>by
 refine hv dl H σ q _ _ r.rd hq λw t F1 H1 Q r1 hq=>?_
 split at hq
 ·rename_i xs ei;let(v,P,rp):=(r.evo Q).g i _ _ ei U;refine(v,P,hk dl H1 σ q _ _ (r.rd.evo Q) hq λy u F2 H2 e2 r2 hq=>?_)
  split at hq
  ·let(j,hj,hm,ht,hq):=hq;let(U,_):=r2.r.int;obtain rfl:=r1.r.im ht;have V:=rp.evo Q.d e2;let(p,vs,G,U,eF,h1,h2):=V.r.lst;have eG:=h2.im hm;subst eG;exact(p,vs,_,j,U,U,h1,by rw[h2.len];exact hj,(E.nx _ _ _ (r.vY ei P eF (Q.trans e2) (ay.set (r1.evo Q.d e2).r j h2 U) n6 λ_ z=>nomatch z) hq))
  ·exact hq.elim
 ·exact hq.elim
def Lv{i:Nat}(ho:PE X o (bZ i))(hk:QPE X K a tk qk)(hv:QPE X K b tv qv)(hs:‹swapsWithSole [.Subscript o a pos'] b pos.line X.env=pure false›)(hw:‹swappedStores [.Subscript o a pos'] b X.env=pure none›)
  (h1:‹(assignEach [.Subscript o a pos'] X.env).map (·.2)=[assign (.Subscript o a pos') X.env]›)
  (ha:∀v,assign (.Subscript o a pos') X.env v=(do
   let g <- holding [v] (eval o X.env)
   let iv <- holding [v,g] (eval a X.env)
   standAt pos'
   holding [v,g,iv] (setItem g iv v)
   release [v,g,iv] []):=by intro _;rfl):QPS X K (.Assign [.Subscript o a pos'] b pos) (ja tv (Ji (bZ i) tk GJ)) (NS i qk qv) :=
 (wk hv.h (HK ho hk.h set_list ha) hs hw h1,Gd hk.s hv.s)
end
section
def Kt(xs ys:List T):List T:=(xs.zip ys).map λp=>.t [p.1,p.2]
end
variable{H2:Hp}
section
variable{X:Cx}{K:BT}{e a b:Ev}{tl:TA}{ql:QA}{pos p fk p2:Pos}{dl:Dl}
def x4(ql:QA):QE:=λq Q=>ql q λts=>on2 ts λt u=>match t with|.t xs=>(match u with|.t ys=>T.ims xs=O/\T.ims ys=O/\Q (.l (Kt xs ys))|_=>False)|_=>False
def DU{vs:List V}{xs:List T}{F:List J}(h:ay K dl H2 vs xs F):F=[]->∀{ws:List V}{ys:List T}{G:List J},ay K dl H2 ws ys G->G=[]->∀{ps:List J},ps.length=min vs.length ws.length ->
  (∀(j:Nat) p x y,ps[j]?=Z p->vs[j]?=Z x->ws[j]?=Z y->H2 p=Z (.tup [x,y]))->ay K dl H2 (ps.map V.ref) (Kt xs ys) [] :=
 h.ind (λ_ _ _ _ _ _ ps hl _=>by
   have e:=uy.mp (by rw[hl];exact Nat.zero_min _)
   subst e;exact .nil) λv x vs xs F G h _ q e ws ys G' h' e' ps hl hp=>by
  let(e1,Q):=xq.mp e;subst e1;cases h' with
  |nil =>
   have e:=uy.mp (by rw[hl];exact Nat.min_zero _)
   subst e;exact .nil
  |cons h' g =>
   let(P,z):=xq.mp e';subst P;cases ps with
   |nil=>simp at hl
   |cons p ps =>
    exact ay.cons (.t (hp 0 p _ _ U U U) (ay.cons h (ay.cons h' .nil))) (q Q g z (by simp at hl;omega) λj p x y h1 h2 h3=>hp (j+1) p x y h1 h2 h3)
def xK(ha:JS K 2 tl ql):gH K (qw K tl) (x4 ql):=by
 intro dl H σ q Q R rd hq k;refine ha dl H σ q _ _ rd hq λvs ts F H1 V r1 _ g=>?_
 replace g:=on2.inv g
 let(t,u,U,g):=g
 split at g
 ·split at g
  ·let(v,w,F1,F2,U,ar,ak):=r1.two;let(l1,aN,U,h1,h2):=ar.r.tup;let(l2,aA,U,h3,h4):=ak.r.tup;let(i1,i2,g):=g;obtain rfl:=h2.im i1;obtain rfl:=h4.im i2;refine(l1,l2,aN,aA,U,SqT.of h1,SqT.of h3,λH2 L ps hL hl hn hf hk aP hp=>?_)
   have P:∀b o,H1 b=Z o->H2 b=Z o:=λb o e=>by
    rw[hk b (λz=>by rw[(hf b z).1]at e;cases e) (λz=>by rw[z,hL]at e;cases e)]
    exact e
   have ev:Evo dl H1 H2:=(λb o e _ _=>P b o e,λp hp=>(by
    let(s,n,ls,D):=V.d p hp;exact(s,n,ls,P _ _ D.hd,P _ _ D.hl,D.s0,D.s1,D.n0,D.l0)),λb x e=>(x,Wj _,P _ _ e))
   let(_,V7,z1,b1,c1):=(ar.evo V.d ev).r.tup;cases z1;rw[P _ _ h1]at b1;cases b1;let(_,V6,z2,b2,c2):=(ak.evo V.d ev).r.tup;cases z2;rw[P _ _ h3]at b2;cases b2;exact k _ _ [L] H2 (V.trans ev) (.l aP (DU c1 U c2 U hl hp),λb hb=>by rw[fy.mp hb];exact V.d.nd0 hL) (λb hb=>by rw[fy.mp hb];exact V.free hL) (by simp) g
  ·exact g.elim
 ·exact g.elim
def Ao(V:X.K=K)(hg:Gl X "list")(hm:X.mg "list"=Y)(P:Gl X "zip")(z:X.mg "zip"=Y)(ha:QPA X K [a,b] tl ql)
  (hs:‹m4 [a,b] X.env=[(ϊ,eval a X.env),(ϊ,eval b X.env)]›) (q:‹AD X b›)
  (g:‹m4 [.Call (.Name "zip" p2) [a,b] [] fk] X.env=(ϊ,eval (.Call (.Name "zip" p2) [a,b] [] fk) X.env)::m4 [] X.env›) (Q:‹X.calm=true›):
  QPF X K (.Call (.Name "list" p) [.Call (.Name "zip" p2) [a,b] [] fk] [] pos) (qw K tl) (x4 ql):=(by subst V;exact AA hg hm P z ha.h hs q g Q,xK ha.s)
end
inductive qE(K:BT)(vs:List V)(H:Hp)(Q:VK)(_:XK):Prop
 |mk(a:J)(ns:List Int)(h1:vs=[.ref a])(h2:FzL K H a (ns.map V.int))(h3:ns.length<=63)(h4:∀H',Q (.bl O) H')
theorem Uv{K:BT}{xs:List V}(h:Nw H)(g:SqL K H a xs):FzL K H a xs:=by
 obtain(z |⟨o,z⟩)|z:=g
 ·obtain e |⟨o,ys,e⟩:=h a
  ·rw[e]at z;cases z
  ·rw[e]at z;cases z
 ·exact .inl (o,z)
 ·exact .inr z
variable{H':Hp}
theorem FzL.same{K:BT}{xs:List V}(h:FzL K H a xs)(s:lC H H'):FzL K H' a xs:=by
 obtain⟨o,z⟩|z:=h
 ·exact .inl (o,s _ _ z)
 ·exact .inr z
variable{qual:Str}{st:EQ}{N:List Str}{n:Nat}{rest:List EQ}
theorem Fun.Vu{w:Cl}{K:BT}{f:J}{k:Nat}{s1:EQ}(F:Fun K x qual st f fd)(S:aG N ["_law_script"] (aw st))(hN:N.length=n+2)(g:bP st=s1::rest)
  (jH:∀(cdv:B)(A:Db)(outer:List Env)(s:ϋ)(H:Hp)(E:XK),cK k (A.deeper (envOfC qual (aw st) s.heap.objs.size f cdv)) ->
   ∃t1 t qs,PS (nS CX0 P w K mg base N qual (aw st) f cdv A outer s H E).nox s1 t1/\pj (nS CX0 P w K mg base N qual (aw st) f cdv A outer s H E).nox K rest t qs /\
    (∀(a:J)(ns:List Int)(D:Ends),SqL K H a (ns.map V.int)->ns.length<=63->(∀(d l:J)(H':Hp),H d=Y->H l=Y->m7 H' d l->lC H H'->D.nx ([Z (.ref a),Z (.ref d)]++Fi n Y) H')->t1 D ([Z (.ref a),Y]++Fi n Y) H) /\
    ∀ns:List Int,ns.length<=63->qs {nx:=λ_=>False,rt:=λt=>t=.b O} ([.r (.z ns),.r .dw]++Fi n .no)):bf P w K mg base CX0 (k+1) f fd ["_law_script"] (qE K):=by
 refine F.ok S (λvs H Q E h=>?_) (λcdv A outer s H vs Q E hr h=>?_)
 ·let(a,ns,U,_):=h;rfl
 ·let(a,ns,U,hS,hlen,k):=h;let(t1,t,qs,h1,q,r1,hq):=jH cdv A outer s H E hr;rw[g];refine(_,bz h1 q.h,?_);have es:start N [V.ref a]=[Z (.ref a),Y]++Fi n none:=by
   unfold start;rw[hN];rfl
  rw[es];refine r1 a ns _ hS.sq hlen λd l H' hd hl D1 sm=>?_
  have Dq:Dls [(d,l)] H':=λp hp=>by rw[fy.mp hp];exact D1
  have rp:Rps K [(d,l)] H' [.ref a,.ref d] [.z ns,.dw] ([]++([] ++ [])):=(.cons (.z (hS.same sm)) (.cons (.x (l:=l) (fy.mpr U)) .nil),λ_ z=>nomatch z)
  have R:=nF (n:=n+2) Dq rp (by simp)
  refine q.s [(d,l)] H' [] H' _ _ _ _ R (hq ns hlen) (λ_ _ _ _ z=>z.elim,λ_ _ _ _ z=>z.elim,λ_ _ _ _ z=>z.elim,λv t F H2 _ r' _ _ _ hz=>?_,λ_ _ _ _ _ _ _ _ _ _ _ _ z=>z.elim)
  subst hz;let(U,_):=r'.r.bl;exact k H2
variable{elts:List Ev}{pos':Pos}{tp:Bool}
section
variable{X:Cx}{K:BT}{dl:Dl}
def g8(xs:List T):List T:=xs.zipIdx.map λp=>.t [.i (p.2:Nat),p.1]
def cb{xs:List T}{i:Nat}{z:T}(h:(g8 xs)[i]?=Z z):∃x,xs[i]?=Z x/\z=.t [.i (i:Nat),x]:=by
 unfold g8 at h;rw[gs]at h;let(p,hp,U):=gV.mp h;rw[List.getElem?_zipIdx]at hp;let(x,hx,U):=gV.mp hp;exact(x,hx,by simp)
def aZ{xs:List T}:(g8 xs).length=xs.length:=by simp[g8]
def Cy{xs:List T}:xp K dl (Ite K O a) (g8 xs) [(.ref a,.t xs)] where
 go:=λH i D h hi=>by
  let(F,r):=h (.ref a,.t xs) (by simp)
  let(p,vs,e,h1,h2):=r.r.tup;cases e;rw[aZ]at hi;have l1:i<vs.length:=by rw[h2.len];omega
  exact(vs,vs[i],SqT.of h1,by simp[l1])
 yld:=λH i x fp v H' D h hx y=>by
  have r:=h (.ref a,.t xs) (by simp)
  let(p,vs,e,h1,h2):=r.r.tup;cases e;let(x1,ak,U):=cb hx;let(w1,G1,ar,V,g):=h2.get ak;let(q,u1,hq,U,U,Q):=y;have e1:=Q vs (SqT.of h1);rw[ar]at e1;cases e1;have rs:Rps K dl H [.int (i),w1] [.i (i),x1] ([]++(G1 ++ [])):=Rps.cons (.i _,λ_ z=>nomatch z) (Rps.cons (V,λb P=>r.n b (g b P)) (.nil,λ_ z=>nomatch z))
  refine((Evo.refl D).new hq,_,rs.tup D hq,λc P=>.inr ?_)
  rw[qg]at P;exact(_,by simp,g c P)
 stop:=λH D h=>by
  let(F,r):=h (.ref a,.t xs) (by simp)
  let(p,vs,e,h1,h2):=r.r.tup;cases e;exact(vs,SqT.of h1,by rw[aZ,h2.len];exact nY _)
variable{e a b:Ev}{te ta:TE}{qe:QE}{tl:TA}{ql:QA}{pos p:Pos}
def VW(ql:QA):QI:=λq Q=>ql q λts=>match ts with|[.t xs]=>Q (g8 xs)|_=>False
def jw{g}{ta:TA}(z:X.K=K)(hg:Gl X "enumerate")(hm:X.mg "enumerate"=Y)(q:bootBuiltins "enumerate"=Z (.type "enumerate"))(ha:PA X [a] ta)(hs:AD X a):
  PI X (.Tuple elts g pos') (.Call (.Name "enumerate" p) [a] [] pos) (rT K tp ta):=by subst z;exact L5 hg hm q ha hs
def wb{V}(hg:Gl X "enumerate")(hm:X.mg "enumerate"=Y)(jG:bootBuiltins "enumerate"=Z (.type "enumerate"))(ha:QPA X K [a] tl ql)(hs:‹AD X a›)(hK:‹X.K=K›):
  QPI X K (.Tuple elts V pos') (.Call (.Name "enumerate" p) [a] [] pos) (rT K O tl) (VW ql):=(jw hK hg hm jG ha.h hs,λdl H σ q Q R rd hq k=>ha.s dl H σ q _ _ rd hq λvs ts F H' e1 r _ z=>by
 split at z
 ·let(v,U,P):=r.one;let(l1,g,U,h1,h2):=P.r.tup;exact(l1,U,(g,SqT.of h1),k _ _ _ H' e1 Cy (λp hp=>by rw[fy.mp hp];exact(_,P)) z)
 ·exact z.elim)
def ay.snoc{v:V}{t:T}(hv:aI K dl H v t []){vs:List V}{ts:List T}{F:List J}(h:ay K dl H vs ts F):F=[]->ay K dl H (vs ++ [v]) (ts ++ [t]) [] :=
 h.ind (λ_=>.cons hv .nil) λ_ _ _ _ _ _ h _ g e=>by
  let(z,q):=xq.mp e;subst z;exact .cons h (g q)
def ay.rev{vs:List V}{ts:List T}{F:List J}(h:ay K dl H vs ts F):F=[]->ay K dl H vs.reverse ts.reverse [] :=
 h.ind (λ_=>.nil) λ_ _ _ _ _ _ h _ g e=>by
  let(z,q):=xq.mp e;subst z;rw[W8,W8];exact ay.snoc h (g q) U
inductive GU(x:V)(vs:List V)(H:Hp)(Q:VK):Prop
 |mk(a p:J)(ps:List J)(kvs more:List (Key×V))(h1:x=.ref a)(h2:vs=[.ref p])(h3:H a=Z (.dK kvs))(h4:H p=Z (.lst (ps.map V.ref)))(h5:ps.length=more.length)(h6:(∀(i:Nat)(b:J)(kv:Key×V),ps[i]?=Z b->more[i]?=Z kv->H b=Z (.tup [kV kv.1,kv.2])))(h7:kvs.length+more.length<=pq)(h8:Q .non (upd H a (.dK (iB kvs more))))
def Iz(hc:X.calm=O):MtR X "dict.update" GU:=by
 intro gd s σ H x vs v us Q I rx rv h;let(a,p,ps,kvs,more,U,U,ha,hp,hl,P,hz,q):=h;cases rx;let(u,U,ru):=rv.one;cases ru;have hh:=I.ok.hd hc;let(z1,ar,aA,r1,d1):=Jr I.hok ha;let(aN,its,n,g,e):=(I.hok p _ hp);let(pairs,kv,rW):=ye I g hl P;have ak:=g.length;rw[dN]at ak;have aP:=Paired.length kv;have l1:=Paired.length r1;have V:=gT hp ha (λz=>nomatch z)
 refine call_meetsIn PySem.F.slot_dict_update d1.typeIs PySem.F.entry_dict_update (PySem.F.args_dict_update_2 _ _) (S:=λA R s'=>s'=s/\A=X.A/\R=wants (EP X gd σ Q) X.xe) (λA R s' (e1,e2,e3)=>?_) (U,U,U)
 subst e1 e2 e3;refine cZ ?_;refine cZ (wpAny_notOrdered_dict d1.typeIs ?_);refine kq ?_;refine gI (pairs:=pairs) hh d1 V (_,n,e,U,U,.inr U) (by lia) (by rw[ri];lia) (λi v hv=>?_) λh' tk hk hd=>?_
 ·let(b,ob,key,val,k,m,e1,e2,e3,e4,e5,e6):=rW i v (by simpa using hv)
  exact(b,ob,key,val,k,m,e1,e2,e3,e4,e5,e6)
 ·refine(.non,_,?_,U,q);have K:=sR (eU more kvs) hz;have he:∃q,h'.get? a=Z q:=let(q,_,_,hq,_):=hd;(q,hq)
  exact I.write (by rw[ha];exact True.intro) (.inl U) (λb q hb z=>hk b q hb z) he (si K ar (KV.merge kv r1) hd)
def PD(i:Nat)(qe:QE):QS:=λD q=>match q[i]? with
 |some (.o (.d xs))=>qe q λt=>match t with
  |.l ys=>T.imk xs=O/\T.ims ys=O/\Ex4 (λg=>cn ys=Z g) (λg=>xs.length+g.length<=pq) (λg=>(q.set i (.o (.d (cX xs g))))) D.nx
  |_=>False
 |_=>False
variable{o:Ev}{apos aS:Pos}
def KZ{i:Nat}(he:gH K te qe):lB K (qz (tBM K "dict" GU (bZ i) (bL te fg))) (PD i qe):=λdl H₀ hs H σ q Dq D (F,r) hq E=>by
 unfold PD at hq
 split at hq
 ·rename_i xs ei;let(v,hv,rp):=r.g i _ _ ei U;let(p,vs,G,U,eF,h1,h2):=rp.r.dic;refine(_,hv,.inr (.inr (.inl (U,.inl (_,h1)))),he dl H σ q _ _ r.rd hq λw t F' H' e1 r1 f1 n1 z=>?_)
  split at z
  ·rename_i ys;let(ar,ak,aN,ek,hl,z):=z;have V:=rp.evo r.d e1;let(p',Q,G',e',aS,aA,P):=V.r.dic;cases e';obtain rfl:=P.im ar;let(p2,ws,G2,U,aP,h3,h4):=r1.r.lst;obtain rfl:=h4.im ak;let(ps,more,U,hlen,ht,hk):=h4.pairs U ek;refine(p,p2,ps,Q,more,U,U,aA,h3,hlen,ht,by rw[P.len,hk.len];exact hl,?_)
   exact E.nx _ _ _ (r.GF ei hv e1 (a9.cX (kvs':=[]) (kts':=[]) hk U P)) z
  ·exact z.elim
 ·exact hq.elim
def Pr{i:Nat}{e7:Pos}(z:X.calm=O)(ho:PE X o (bZ i))(he:QPF X K e te qe)(P:‹X.K=K›)(V:‹attributeBase o "update" X.env (eval o X.env)=eval o X.env›)
  (q:‹At X aS [e]›)
  (cD:‹(apos.endLine==aS.line)=true›) (hs:‹AC X e []›) (Q:‹(backTo aS (m4 [] X.env)).any (·.1)=false›)
  (g:‹swapsWith (.Call (.Attribute o "update" apos) [e] [] aS) Y e7.line X.env=pure false›):
  QPS X K (.Expr (.Call (.Attribute o "update" apos) [e] [] aS) e7) (qz (tBM K "dict" GU (bZ i) (bL te fg))) (PD i qe) :=
 (wj (by subst P;exact Ci PySem.F.plainAttrs_dict PySem.F.slot_dict_update PySem.F.type_dict_update (Iz z) ho (bh he.h cJ hs) V q cD hs Q) g,KZ he.s)
end
variable{d:J}{l:J}{o:HO}
section
variable{K:BT}{dl:Dl}{v:V}{F:List J}
def aI.EJ{o:Obj}{vs:List (Key×V)}{ts:List (Key×T)}(h:aI K dl H v (.fd o vs ts) F):∃a,v=.ref a/\F=[]/\H a=Z (.frz o (.dK vs))/\a9 K dl H vs ts []:=by cases h with|fd h r=>exact(_,rfl,rfl,h,r)
variable{a:Ev}
def m7.oth{a:J}(D:m7 H d l)(h1:a≠d)(h2:a≠l):m7 (upd H a o) d l:=by
 let(s,n,ls,Q):=D;exact(s,n,ls,by rw[aj h1.symm];exact Q.hd,by rw[aj h2.symm];exact Q.hl,Q.s0,Q.s1,Q.n0,Q.l0)
end
variable{C:J}
section
variable{K:BT}{dl:Dl}{v:V}{F:List J}
def aI.exc{ns:List Str}{ts:List T}(h:aI K dl H v (.xc C ns ts) F):∃a b vs,v=.ref a/\F=[]/\ExH H a C b (ns.zip vs)/\ay K dl H vs ts []:=h.inv
theorem ay.lookup{f:Str}:∀{ns:List Str}{vs:List V}{ts:List T}{F:List J}{u:T},ay K dl H vs ts F->(ns.zip ts).lookup f=Z u->∃w G,(ns.zip vs).lookup f=Z w/\aI K dl H w u G/\∀b∈G,b∈F
 |[],_,_,_,_,_,h=>by simp at h
 |_::_,_,_,_,_,.nil,h=>by simp at h
 |n::ns,_,_,_,u,.cons h1 r,h=>by
  rw[List.zip_cons_cons,uj]at h ⊢;cases e:(f==n)with
  |true =>
   rw[e]at h;cases h;exact(_,_,U,h1,λb g=>p7 _ g)
  |false =>
   rw[e]at h;let(w,G,a1,a2,q):=ay.lookup r h;exact(w,G,a1,a2,λb g=>pA _ (q b g))
end
def NW(K:BT)(fn:List Str)(f:Str)(qe:QE):QE:=λq Q=>qe q λt=>match t with
 |.xc C ns ts=>∃bm ini u,bX K fn C bm ini/\(ns.zip ts).lookup f=Z u/\Q u
 |_=>False
variable{dl:Dl}{o1:HO}{o2:HO}{u:B}
section
variable{X:Cx}{K:BT}{e:Ev}{te:TE}{qe:QE}{pos p p2:Pos}{f y:Str}{fn:List Str}{C':J}{bm bm':List B}{wM:Option J}{k:Nat}
def Gn(hf:f∈fn)(fo:FOk f)(h:fY K te qe):gH K (FW K fn te f) (NW K fn f qe):=by
 intro dl H σ q Q R rd hq k;refine h dl H σ q _ _ rd hq λv t F H1 e1 r1 g=>?_
 split at g
 ·let(bm,ini,u,c,l,g):=g;let(a,b,vs,U,U,ex,rs):=r1.r.exc;let(w,G,l2,P,hG):=rs.lookup l;have V:G=[]:=List.eq_nil_iff_forall_not_mem.mpr λb hb=>nomatch hG b hb
  subst V;exact(a,_,b,bm,ini,_,w,U,ex,c,hf,fo,l2,k w u [] H1 e1 (P,λ_ z=>nomatch z) (λ_ z=>nomatch z) n6 g)
 ·exact g.elim
def LG(q:X.K=K)(hf:f∈fn)(fo:FOk f)(he:QPE X K e te qe)(g:‹attributeBase e f X.env (eval e X.env)=eval e X.env›):QPF X K (.Attribute e f pos) (FW K fn te f) (NW K fn f qe):=by
 subst q;exact(Mb he.h g,Gn hf fo he.s)
def Jn(D:Dls dl H)(ha:H a=Y)(hd:H d=Y)(ne:d≠a):Evo dl H (upd (upd H d o1) a o2):=((Evo.refl D).new hd).new (by rw[aj (Ne.symm ne)];exact ha)
inductive Lp(K:BT)(fn:List Str)(c:B)(xs:List V)(H:Hp)(Q:VK):Prop
 |mk(a C b fs bm ini r y:_)(h1:xs=[.ref a,y])(h2:RelV y c)(h3:ExH H a C b fs)(h4:bX K fn C bm ini)(h5:W.kitOne K (.ref C) c=Z r)(h6:Q (.bl r) H)
def fR(h:RelV (.ref a) u):u=.ref a:=h
def za{c:B}(hc:∀y u,RelV y u->RelV y c->u=c):bY X (.builtin "isinstance") (Lp X.K fn c):=by
 intro gd s σ H xs us Q I r h;let(a,C,b,fs,bm,ini,z,y,U,g,ex,cx,ek,q):=h;cases r with
 |cons h1 V =>
  cases V with
  |cons h2 P =>
   cases P
   cases(fR h1)
   cases hc _ _ h2 g;exact Rc I ex cx ek λtk=>(.bl z,H,I.tok tk,U,q)
def PX(K:BT)(fn:List Str)(c:B)(qe:QE):QE:=λq Q=>qe q λt=>match t with
 |.xc C _ _=>∃bm ini,bX K fn C bm ini/\Q (.b ((B.ref C::bm).contains c))
 |_=>False
theorem BW{c:B}{y:V}(ry:RelV y c)(hk:∀C bm ini,bX K fn C bm ini->W.kitOne K (.ref C) c=Z ((B.ref C::bm).contains c))(h:fY K te qe):gH K (tCB (Lp K fn c) (bL te (bL (tC y) fg))) (PX K fn c qe):=by
 intro dl H σ q Q R rd hq k;refine h dl H σ q _ _ rd hq λv t F H1 e1 r1 g=>?_
 split at g
 ·let(bm,ini,P,g):=g;let(a,b,vs,U,U,ex,rs):=r1.r.exc;exact(a,_,b,_,bm,ini,_,y,U,ry,ex,P,hk _ bm ini P,k _ _ [] H1 e1 (.b _,λ_ z=>nomatch z) (λ_ z=>nomatch z) n6 g)
 ·exact g.elim
def Pz(V:X.K=K)(c':bX K fn C' bm' wM)(hg:Gl X "isinstance")(hm:X.mg "isinstance"=Y)(P:Gl X y)(q:X.mg y=Z (.ref C'))(h:QPE X K e te qe)(hd:autoParam (AS y) zdc._auto_1)
  (he:‹m4 [e,.Name y p2] X.env=(ϊ,eval e X.env)::m4 [.Name y p2] X.env›) (Q:‹m4 [.Name y p2] X.env=(ϊ,eval (.Name y p2) X.env)::m4 [] X.env›) (g:‹(backTo pos (m4 [.Name y p2] X.env)).any (·.1)=false›):
  QPF X K (.Call (.Name "isinstance" p) [e,.Name y p2] [] pos) (tCB (Lp K fn (.ref C')) (bL te (bL (tC (.ref C')) fg))) (PX K fn (.ref C') qe):=by
 subst V;exact(gQ (za λy u h1 h2=>by
  cases y with
  |ref b=>cases(fR h1);cases(fR h2);rfl
  |non=>cases(show B.ref C'=B.none from h2)
  |bl b=>cases(show B.ref C'=B.bool b from h2)
  |int i=>let(_,z):=(show ∃t,B.ref C'=B.int i t from h2);cases z
  |str i=>let(_,z):=(show ∃t,B.ref C'=B.str i t from h2);cases z
  |flt i=>let(_,z):=(show ∃t,B.ref C'=B.float i t from h2);cases z
  |ty n=>cases(show B.ref C'=B.type n from h2)
  |byt i=>(let(_,z):=h2;cases z)) hg hm U (bh h.h (bh (rh P q hd) cJ Q) he) (by decide) (by decide) he g,BW (y:=.ref C') U (λC bm ini c=>Cu c c') h.s)
theorem PB{n:String}(hK:X.K=K)(hT:W.kitMeta n=O)(hg:Gl X "isinstance")(hm:X.mg "isinstance"=Y)(P:Gl X y)(q:X.mg y=Y)(hv:bootBuiltins y=Z (.type n))(h:QPE X K e te qe)(hn:autoParam (y ≠ "__name__") zdc._auto_1)(hd:autoParam (AS y) zdc._auto_1)
  (he:‹m4 [e,.Name y p2] X.env=(ϊ,eval e X.env)::m4 [.Name y p2] X.env›) (Q:‹m4 [.Name y p2] X.env=(ϊ,eval (.Name y p2) X.env)::m4 [] X.env›) (g:‹(backTo pos (m4 [.Name y p2] X.env)).any (·.1)=false›):
  QPF X K (.Call (.Name "isinstance" p) [e,.Name y p2] [] pos) (tCB (Lp K fn (.type n)) (bL te (bL (tC (.ty n)) fg))) (PX K fn (.type n) qe):=by
 subst hK;exact(gQ (za λy u h1 h2=>by
  cases y with
  |ref b=>cases(fR h2)
  |non=>cases(show B.type n=B.none from h2)
  |bl b=>cases(show B.type n=B.bool b from h2)
  |int i=>let(_,z):=(show ∃t,B.type n=B.int i t from h2);cases z
  |str i=>let(_,z):=(show ∃t,B.type n=B.str i t from h2);cases z
  |flt i=>let(_,z):=(show ∃t,B.type n=B.float i t from h2);cases z
  |byt i=>(let(_,z):=h2;cases z)
  |ty m =>
   have z1:u=B.type m:=h1;have V:B.type n=B.type m:=h2;rw[z1,V]) hg hm U (bh h.h (bh (Cj P q hv U hn hd) cJ Q) he) (by decide) (by decide) he g,BW (y:=.ty n) U (λC bm ini c=>by
    rw[IM c hT,vb];rfl) h.s)
end
abbrev QW:=J->List Str->List T->Prop
abbrev QX:=Sq->(T->Prop)->QW->Prop
def V0(K:PySem.W.Frag)(te:(St->XK)->TE)(qx:QX):Prop:=∀(dl:Dl)(H:Hp)(σ:St)(q:Sq)(Q:T->Prop)(W:QW)(R:V->Hp->Prop)(Es:St->XK),RdR K dl H σ q->qx q Q W ->
 (∀v t F H',Evo dl H H'->Rp K dl H' v t F->(∀b∈F,H b=Y)->F.Nodup->Q t->R v H')->(∀a C ns us H',Evo dl H H'->Rp K dl H' (.ref a) (.xc C ns us) []->W C ns us->Es σ (.ref C) (Z a) H')->te Es σ H R
structure QPX(X:Cx)(K:BT)(e:Ev)(te:(St->XK)->TE)(qx:QX):Prop where
 h:∀Es,kl (CX1 X.prog X.w) X Es->PE X e (te Es)
 s:V0 K te qx
abbrev QSX:=(Sq->QW)->QS
def XOk(K:PySem.W.Frag)(dl:Dl)(H₀:Hp)(hs:List (V×T))(W:Sq->QW)(Es:St->XK):Prop:=∀H σ q a C ns us,fc K dl H₀ hs H σ q->Rp K dl H (.ref a) (.xc C ns us) []->W q C ns us->Es σ (.ref C) (Z a) H
def JQ(K:PySem.W.Frag)(ts:(St->XK)->TS)(qs:QSX):Prop:=∀(dl:Dl)(H₀:Hp)(hs:List (V×T))(H:Hp)(σ:St)(q:Sq)(Dq:dz)(D:Ends)(W:Sq->QW)(Es:St->XK),fc K dl H₀ hs H σ q->qs W Dq q->BJ K dl H₀ hs Dq D->XOk K dl H₀ hs W Es->ts Es D σ H
structure BG(X:Cx)(K:BT)(st:EQ)(ts:(St->XK)->TS)(qs:QSX):Prop where
 h:∀Es,kl (CX1 X.prog X.w) X Es->mY X Es->PS X st (ts Es)
 s:JQ K ts qs
structure mZ(X:Cx)(K:BT)(st:List EQ)(ts:(St->XK)->TS)(qs:QSX):Prop where
 h:∀Es,kl (CX1 X.prog X.w) X Es->mY X Es->PSs X st (ts Es)
 s:JQ K ts qs
variable{H₀:Hp}{q:Sq}{ini:Option J}
section
variable{X:Cx}{K:BT}{sa sb:List EQ}{e c:Ev}{es:List Ev}{pos p aS:Pos}{tx:(St->XK)->TE}{qx:QX}{tc:TT}{qc:QT}{t:TS}{qt:QS}{ts us:(St->XK)->TS}{qs qr:QSX}{tl:TA}{ql:QA}
def An(h:QPS X K st t qt):BG X K st (λ_=>t) (λ_=>qt):=(λ_ _ _=>h.h,λdl H₀ hs H σ q Dq D _ _ r hq E _=>h.s dl H₀ hs H σ q Dq D r hq E)
def B2(h:pj X K rest t qt):mZ X K rest (λ_=>t) (λ_=>qt):=(λ_ _ _=>h.h,λdl H₀ hs H σ q Dq D _ _ r hq E _=>h.s dl H₀ hs H σ q Dq D r hq E)
def jo(h:BG X K st ts qs):mZ X K [st] ts qs:=(λEs a b=>eQ (h.h Es a b),h.s)
def j4(h1:BG X K st ts qs)(h2:mZ X K rest us qr):mZ X K (st::rest) (λEs=>OY (ts Es) (us Es)) (λW D q=>qs W {D with nx:=λq'=>qr W D q'} q) :=
 (λEs a b=>bz (h1.h Es a b) (h2.h Es a b),λdl H₀ hs H σ q Dq D W Es r hq E x=>h1.s dl H₀ hs H σ q _ _ W Es r hq (λH σ q z g=>h2.s dl H₀ hs H σ q _ _ W Es z g E x,E.bk,E.ct,E.rt,E.ru) x)
def GY(z:QPT X K c tc qc)(ha:mZ X K sa ts qs)(P:mZ X K sb us qr):BG X K (.If c sa sb pos) (λEs=>O4 tc (ts Es) (us Es)) (λW D q=>qc q λb=>if b=O then qs W D q else qr W D q) :=
 (λEs a b=>Hx z.h (ha.h Es a b) (P.h Es a b),λdl H₀ hs H σ q Dq D W Es (F,r) hq E x=>z.s dl H σ q _ _ r.rd hq λb H' Q g=>by
  cases b with
  |true=>exact ha.s dl H₀ hs H' σ q Dq D W Es (F,r.evo Q) g E x
  |false=>exact P.s dl H₀ hs H' σ q Dq D W Es (F,r.evo Q) g E x)
def XOk.at{hs:List (V×T)}{W:Sq->QW}{Es:St->XK}{σ:St}{F:Nat->List J}(x:XOk K dl H₀ hs W Es)(r:Rel K dl H₀ hs H σ q F):∀a C ns us H',Evo dl H H'->Rp K dl H' (.ref a) (.xc C ns us) []->W q C ns us->Es σ (.ref C) (Z a) H' :=
 λa C ns us H' z g hw=>x H' σ q a C ns us (F,r.evo z) g hw
def Ls{i:Nat}(Q:X.N.Nodup)(hi:X.N[i]?=Z x)(hx:Loc X.env.scope x)(he:QPX X K e tx qx)(hs:‹swapsWith e (Z (.Name x pos')) pos.line X.env=pure false›)(hf:AT X x:=by first|exact .inl rfl|exact .inr rfl|assumption):
  BG X K (.Assign [.Name x pos'] e pos) (λEs=>ja (tx Es) (fW i)) (λW D q=>qx q (λt=>D.nx (q.set i (.o t))) (W q)) :=
 (λEs a _=>iy Q hi hx (he.h Es a) hs hf,λdl H₀ hs H σ q Dq D W Es (F,r) hq E x=>he.s dl H σ q _ _ _ Es r.rd hq (λv t F' H' V g f1 z P=>E.nx H' _ _ (r.Hs V g f1 z) P) (x.at r))
variable{fa:J}{fn fsN:List Str}{bm:List B}{k:Nat}
def UY{o':HO}:upd (upd H a o) a o'=upd H a o':=by
 funext b
 by_cases h:b=a
 ·rw[h,au,au]
 ·rw[aj h,aj h,aj h]
def z7(M:bX K fn C bm ini)(h:JS K n tl ql):JQ K (λEs=>zW K fn Es (zY C fsN tl)) (λW _ q=>ql q λts=>T.ims ts=O/\ts.length=fsN.length/\ts.length<=1000/\W q C fsN ts):=by
 intro dl H₀ hs H σ q Dq D W Es ⟨F,r⟩ hq E x;refine h dl H σ q _ _ r.rd hq λvs ts F1 H1 P g _ hz=>?_
 let(z1,z2,V,Q):=hz;have f:=g.r.im z1;subst f;have hl:=g.r.len;refine(hl.trans z2,by rw[hl];exact V,λa d ha hd ne=>(a,C,bm,ini,Z d,U,M,au,?_))
 rw[UY];have ev:=Jn (o1:=.ext (XD d (fsN.zip vs))) (o2:=.ext (XAt a C (Z d) ϊ)) P.d ha hd ne;have r2:=g.evo P.d ev;exact x.at r a C fsN ts _ (P.trans ev) (.e (.inr (d,ne,au,by rw[aj ne,au])) r2.r,λ_ z=>nomatch z) Q
theorem uL(hK:X.K=K)(Q:X.calm=O)(M:bX K fn C bm (Z fa))(z:W.isFn K (.ref fa)=O)(kp:W.keepIn K (.ref C)=O)(F:bf X.prog X.w X.K X.mg X.base CX0 k fa fd ps (xJ C fsN))(hr:cK (k+1) X.A)(hg:Gl X x)(hm:X.mg x=Z (.ref C))(V:Binds X.K fd ps [])
  (ha:QPA X K (e::es) tl ql) (P:autoParam (AS x) zdc._auto_1) (he:‹AC X e es›) (g:‹AM X aS es›):
  BG X K (.Raise (Z (.Call (.Name x p) (e::es) [] aS)) Y pos) (λEs=>zW K fn Es (zY C fsN tl)) (λW _ q=>ql q λts=>T.ims ts=O/\ts.length=fsN.length/\ts.length<=1000/\W q C fsN ts):=by
 subst hK;exact(λEs _ b=>Hw Q b (HM M z kp F hr hg hm V ha.h P he g),z7 M ha.s)
end
abbrev JT:=List T->(T->Prop)->QW->Prop
inductive DK(K:BT)(ps:JT)(vs:List V)(H:Hp)(Q:VK)(E:XK):Prop
 |mk(dl:Dl)(ts:List T)(F:List J)(Qp:T->Prop)(Wp:QW)(h1:Dls dl H)(h2:Rps K dl H vs ts F)(h3:ps ts Qp Wp)(h4:(∀v t F' H',Evo dl H H'->Rp K dl H' v t F'->(∀b∈F',H b=Y)->F'.Nodup->Qp t->Q v H'))(h5:∀a C ns us H',Evo dl H H'->Rp K dl H' (.ref a) (.xc C ns us) []->Wp C ns us->E (.ref C) (Z a) H')
section
variable{X:Cx}{K:BT}{e:Ev}{es:List Ev}{tl:TA}{ql:QA}{pos p:Pos}{k:Nat}{f:J}{prs:List Str}{ps:JT}
theorem Lr(F:bf X.prog X.w X.K X.mg X.base (CX1 X.prog X.w) k f fd prs (DK K ps))(hr:cK k X.A)(hg:Gl X x)(hm:X.mg x=Z (.ref f))(hk:W.keepIn X.K (.ref f)=O)(hb:Binds X.K fd prs [])(ha:QPA X K (e::es) tl ql)
  (V:autoParam (AS x) zdc._auto_1) (he:‹AC X e es›) (P:‹AM X pos es›):
  QPX X K (.Call (.Name x p) (e::es) [] pos) (λEs=>zZ (DK K ps) Es tl) (λq Q W=>ql q λts=>ps ts Q W) :=
 (λEs a=>HV F hr hg hm hk hb a ha.h V he P,λdl H σ q Q W R Es rd hq k1 k2=>ha.s dl H σ q _ _ rd hq λvs ts F H1 g r1 _ z =>
  (dl,ts,F,Q,W,g.d,r1,z,λv t F' H' e r f n z=>k1 v t F' H' (g.trans e) r (λb hb=>g.free (f b hb)) n z,λa C ns us H' e r hw=>k2 a C ns us H' (g.trans e) r hw))
end
theorem Fun.Vd{w:Cl}{K:PySem.W.Frag}{f:J}{k:Nat}{V:JT}(F:Fun K x qual st f fd)(S:aG N ps (aw st))(len:∀ts Q W,V ts Q W->ts.length=ps.length)
  (jH:∀(cdv:B)(A:Db)(outer:List Env)(s:ϋ)(H:Hp)(E:XK),cK k (A.deeper (envOfC qual (aw st) s.heap.objs.size f cdv)) ->
   ∃t qs,mZ (nS (CX1 P w) P w K mg base N qual (aw st) f cdv A outer s H E) K (bP st) t qs/\∀ts Q W,V ts Q W->qs (λ_=>W) {nx:=λ_=>Q .n,rt:=Q} (ts.map Sl.r++Fi (N.length - ts.length) .no)):bf P w K mg base (CX1 P w) (k+1) f fd ps (DK K V):=by
 have ak:ps.length<=N.length:=by have:=congrArg Nv S.pre;rw[qp]at this;omega
 refine F.okX S (λvs H Q E h=>?_) (λcdv A outer s H vs Q E hr h=>?_)
 ·let(dl,ts,F,Qp,Wp,_,r,h,_):=h;rw[r.r.len];exact len ts Qp Wp h
 ·let(dl,ts,Fp,Qp,Wp,D,r,h,fin,fix):=h;let(t,qs,hb,hq):=jH cdv A outer s H E hr;refine(t λ_=>E,hb.h _ AB Al,?_)
  have hlen:=len ts Qp Wp h;have hl:=r.r.len;have z:=hq ts Qp Wp h;have R:=nF (n:=N.length) D r (by omega)
  rw[<- hl]at z;refine hb.s dl H [] H _ _ _ _ _ _ R z (λH' σ q (F,g) hz=>?_,λ_ _ _ _ hz=>hz.elim,λ_ _ _ _ hz=>hz.elim,λv t F H' D' g f' n' fr hz=>?_,λ_ _ _ _ _ _ _ _ _ _ _ _ z=>z.elim) λH' σ q a C ns us (F,g) rp hw=>?_
  ·exact fin .non .n [] H' (g.f.evo g.d) (.n,λ_ z=>nomatch z) (λ_ z=>nomatch z) n6 hz
  ·exact fin v t F H' (fr.evo D') g f' n' hz
  ·exact fix a C ns us H' (g.f.evo g.d) rp hw
abbrev QH:=J->List Str->List T->QS
def V3(K:BT)(th:TH)(qh:QH):Prop:=∀(dl:Dl)(H₀:Hp)(hs:List (V×T))(H:Hp)(σ:St)(q:Sq)(Dq:dz)(D:Ends)(a C:J)(ns:List Str)(us:List T),fc K dl H₀ hs H σ q->Rp K dl H (.ref a) (.xc C ns us) []->qh C ns us Dq q->BJ K dl H₀ hs Dq D->th a C D σ H
structure QPH(X:Cx)(K:BT)(hs:List ExceptHandler)(th:TH)(qh:QH):Prop where
 h:PH X hs th
 s:V3 K th qh
def dz.go(D:dz)(i:Nat):dz:={nx:=λq=>D.nx (q.set i .no),rt:=D.rt,bk:=λq=>D.bk (q.set i .no),ct:=λq=>D.ct (q.set i .no),ru:=λq t=>D.ru (q.set i .no) t}
theorem Rel.JD{K:BT}{hs:List (V×T)}{σ:St}{F:Nat->List J}(r:Rel K dl H₀ hs H σ q F)(i:Nat):Rel K dl H₀ hs H (σ.set i Y) (q.set i .no) (xO F i []):=by
 refine(r.d,λj x t h1 h2=>?_,λj x h1 h2=>?_,λj P=>?_,λj u h1=>?_,λp hp=>?_,r.f,by simp[r.l])
 ·obtain⟨rfl,rfl,_⟩|⟨ne,h1⟩:=get_set h1
  ·cases h2
  ·let(w,h3,h4):=r.g j x t h1 h2;exact(w,by rw[M1 (λz=>ne z.symm)];exact h3,by rw[aV ne];exact h4)
 ·obtain⟨rfl,rfl,_⟩|⟨ne,h1⟩:=get_set h1
  ·rw[bo]
  ·rw[aV ne];exact r.n j x h1 h2
 ·by_cases ej:j=i
  ·rw[ej,bo]
  ·rw[aV ej];rw[Wn]at P;exact r.z j P
 ·obtain⟨rfl,e,_⟩|⟨ne,h1⟩:=get_set h1
  ·cases e
  ·rw[aV ne];let(o1,o2,o3):=r.o j u h1;refine(o1,o2,λk hk b Q=>?_)
   by_cases ek:k=i
   ·rw[ek,bo];exact λz=>nomatch z
   ·rw[aV ek];exact o3 k hk b Q
 ·let(Fp,h1,h2):=r.h p hp;refine(Fp,h1,λj u P b Q z=>?_)
  obtain⟨rfl,e,_⟩|⟨ne,P⟩:=get_set P
  ·cases e
  ·rw[aV ne]at Q;exact h2 j u P b Q z
theorem fc.clear{K:BT}{hs:List (V×T)}{σ:St}(r:fc K dl H₀ hs H σ q)(i:Nat):fc K dl H₀ hs H (σ.set i Y) (q.set i .no):=r.elim λ_ r=>(_,r.JD i)
variable{hs:List ExceptHandler}{body:List EQ}
section
variable{X:Cx}{K:BT}{fn:List Str}{C':J}{bm':List B}{wM:Option J}{n:Str}{p pos:Pos}{b0:EQ}{xI:List EQ}{rest:List ExceptHandler}{ts:TS}{qs:QS}{tr:TH}{qr:QH}{i:Nat}
def Lw:QH:=λ_ _ _ _ _=>False
def G8:QPH X K hs Jf Lw:=(HJ,λ_ _ _ _ _ _ _ _ _ _ _ _ _ _ h _=>h.elim)
def SW(K:BT)(fn:List Str)(C':J)(i:Nat)(qs:QS)(qr:QH):QH:=λC ns us D q=>∃bm ini,bX K fn C bm ini/\if(B.ref C::bm).contains (.ref C')=O then qs (D.go i) (q.set i (.r (.xc C ns us)))else qr C ns us D q
def SV(hK:X.K=K)(hN:X.N.Nodup)(hi:X.N[i]?=Z n)(hk:BC X n)(hg:Gl X x)(hm:X.mg x=Z (.ref C'))(c':bX K fn C' bm' wM)(g:∀a,pj (X.inX a) K (b0::xI) ts qs)(hr:QPH X K rest tr qr)(Q:autoParam (AS x) zdc._auto_1):
  QPH X K (.ExceptHandler (Z (.Name x p)) (Z n) (b0::xI) pos::rest) (hAs K fn C' i ts tr) (SW K fn C' i qs qr):=by
 subst hK;refine(Tt hN hi hk hg hm c' (λa=>(g a).h) hr.h Q,λdl H₀ hs H σ q Dq D a C ns us r V hq E=>?_)
 let(bm,ini,c,hq):=hq;refine(bm,ini,c,λz=>?_,λz=>?_)
 ·rw[if_pos z]at hq;have r2:fc X.K dl H₀ hs H (σ.set i (Z (.ref a))) (q.set i (.r (.xc C ns us))):=by
   let(F,r):=r;by_cases P:i<q.length
   ·exact(_,r.LQ P V λ_ _ _ _ _ _ z=>nomatch z)
   ·have hl:=r.l;rw[WC (by omega),WC (by omega)]
    exact(F,r)
  exact(g a).s dl H₀ hs H _ _ (Dq.go i) (D.go i) r2 hq (λH σ q r h=>E.nx H _ _ (r.clear i) h,λH σ q r h=>E.bk H _ _ (r.clear i) h,λH σ q r h=>E.ct H _ _ (r.clear i) h,E.rt,λH σ q F0 v t F r h1 h2 h3 h4 h=>E.ru H _ _ _ v t F (r.JD i) h1 h2 h3 (λj b hb z=>by unfold xO at z;split at z;cases z;exact h4 j b hb z) h)
 ·rw[if_neg (by rw[z];decide)]at hq;exact hr.s dl H₀ hs H σ q Dq D a C ns us r V hq E
def Pt{h0:ExceptHandler}{th:TH}{qh:QH}{tb:(St->XK)->TS}{qb:QSX}(P:∀pn xe,mZ (X.oN pn xe) K body tb qb)(z:QPH X K (h0::hs) th qh)(g:‹X.stack=X.env::X.outer›)(hf:‹X.env.frame=Z X.env.locals›):
  QPS X K (.Try body (h0::hs) [] [] pos) (Sw th tb) (λD q=>qb (λq' C ns us=>qh C ns us D q') D q) :=
 (P5 g hf (λEs pn xe a b=>(P pn xe).h Es a b) z.h,λdl H₀ hs H σ q Dq D r hq E=>(P [] λ_ _=>False).s dl H₀ hs H σ q Dq D _ _ r hq E λH σ q a C ns us r Q hw=>(a,C,U,U,z.s dl H₀ hs H σ q Dq D a C ns us r Q hw E))
end
section
variable{X:Cx}{K:BT}{a b:Ev}{ta tb:TE}{qa qb:QE}{pos:Pos}
def U9(qa qb:QE):QE:=λq Q=>qa q λt=>qb q λu=>match t,u with
 |.l xs,.i k=>Ex2 (λx=>atI xs k=Z x) Q
 |_,_=>False
def kU(ha:QPF X K a ta qa)(hb:QPE X K b tb qb)(hs:kj b:=by intro _ _;rfl)(hK:‹X.K=K›):QPF X K (.Subscript a b pos) (tOp (rIx K) ta tb) (U9 qa qb):=by
 refine(by subst hK;exact uO A5 ha.h hb.h hs,λdl H σ q Q R rd hq k=>(ha.s dl H σ q _ _ rd hq λv t F H1 e1 P f1 n1 V=>(hb.s dl H1 σ q _ _ (rd.evo e1) V λw u G H2 e2 r2 g=>?_)))
 have P:=P.evo e1.d e2
 split at g
 ·let(U,U):=r2.r.int;let(p,vs,G,U,U,h1,h2):=P.r.lst;let(z,hz,hq):=g;let(j,hj,hi):=mV hz h2.len.symm;let(v,G',hv,rv,hs):=h2.Uu hj;have sub:∀c∈G',c∈p::G:=λc hc=>g5 _ (hs.subset hc)
  exact .inl (p,vs,_,v,U,U,SqL.of h1,sM hi hv,k v z G' H2 (e1.trans e2) (Rp.sub rv P.n sub) (λc hc=>f1 c (sub c hc)) ((u6.mp n1).2.sublist hs) hq)
 ·exact g.elim
end
variable{p1:Pos}{p2:Pos}{fk:Pos}
section
variable{X:Cx}{K:BT}{a e:Ev}{te:TE}{qe:QE}{tl:TA}{ql:QA}{pos p:Pos}
def UP(ql:QA):QJ:=λq Q=>ql q λts=>match ts with|[.t xs]=>T.ims xs=O/\Q (g8 xs) q|_=>False
def pK{x1}(hg:Gl X "enumerate")(hm:X.mg "enumerate"=Y)(jG:bootBuiltins "enumerate"=Z (.type "enumerate"))(ha:QPA X K [a] tl ql)(hs:‹AD X a›)(hK:‹X.K=K›):
  QPJ X K (.Tuple elts x1 pos') (.Call (.Name "enumerate" p) [a] [] pos) (rT K O tl) (UP ql):=(jw hK hg hm jG ha.h hs,λdl H₀ hs H σ q Q R (F0,r0) hq k=>ha.s dl H σ q _ _ r0.rd hq λvs ts F H' e1 r _ g=>by
 split at g
 ·let(i1,g):=g;let(v,U,V):=r.one;obtain rfl:=V.r.im i1;have q1:=(r0.evo e1).hold V λj u hj b hb z=>nomatch z
  let(l1,P,U,h1,h2):=V.r.tup;exact(l1,U,(P,SqT.of h1),k _ _ _ H' q (F0,q1) Cy g)
 ·exact g.elim)
def PU(qe:QE):QE:=λq Q=>qe q λt=>match t with|.l xs=>T.ims xs=O/\Q (.l xs.reverse)|_=>False
def yd(hK:X.K=K)(hc:X.calm=O)(V:Gl X "list")(P:X.mg "list"=Y)(Q:Gl X "reversed")(z:X.mg "reversed"=Y)(he:PE X e te)
  (q:AD X e) (g:m4 [.Call (.Name "reversed" p2) [e] [] fk] X.env=[(ϊ,eval (.Call (.Name "reversed" p2) [e] [] fk) X.env)]):
  PE X (.Call (.Name "list" p1) [.Call (.Name "reversed" p2) [e] [] fk] [] pos) (qy K te):=by subst hK;exact rg hc V P Q z he q g
def xZ{p1 p2 fk:Pos}(hc:X.calm=O)(aN:Gl X "list")(ar:X.mg "list"=Y)(aA:Gl X "reversed")(ak:X.mg "reversed"=Y)(he:QPE X K e te qe)
  (V:‹AD X e›) (P:‹m4 [.Call (.Name "reversed" p2) [e] [] fk] X.env=[(ϊ,eval (.Call (.Name "reversed" p2) [e] [] fk) X.env)]›) (hK:‹X.K=K›):
  QPF X K (.Call (.Name "list" p1) [.Call (.Name "reversed" p2) [e] [] fk] [] pos) (qy K te) (PU qe) :=
 (yd hK hc aN ar aA ak he.h V P,λdl H σ q Q R rd hq k=>he.s dl H σ q _ _ rd hq λv t F H1 e1 r g=>by
  split at g
  ·let(i1,g):=g;let(l,vs,G,U,U,h1,h2):=r.r.lst;obtain rfl:=h2.im i1;refine(l,vs,U,SqL.of h1,λp hp=>?_)
   have rs:Rps K dl H1 vs.reverse _ []:=(h2.rev U,λ_ z=>nomatch z)
   exact k _ _ [p] _ (e1.new hp) (rs.lst e1.d hp) (λb hb=>by rw[fy.mp hb];exact e1.free hp) (by simp) g
  ·exact g.elim)
end
variable{A:Db}
section
def IY{k:Nat}(hr:cK k A):A.units+150<cLine:=by have:=hr.un;lia
end
def qD1(qk qv:QE):QE:=λq Q=>qk q λt=>qv q λu=>match t.key with
 |some k=>u.fl=O/\Q (.d [(k,u)])
 |none=>False
section
variable{X:Cx}{K:BT}{ek ev:Ev}{tk tv:TE}{qk qv:QE}{pos:Pos}
def TF.dict{p:J}{kv kw:List (Key×V)}(hp:H p=Z (.dK kv)):TF H (upd H p (.dK kw)) :=
 have ne:∀{a:J}{o:HO},H a=Z o->(∀kv,o ≠ .dK kv)->a≠p:=λh n e=>by rw[e,hp]at h;exact n _ (Option.some.inj h).symm
 (λa vs h=>by rw[aj (ne h λ_ z=>nomatch z)];exact h,λa o u h=>by rw[aj (ne h λ_ z=>nomatch z)];exact h,λa φ h=>by rw[aj (ne h λ_ z=>nomatch z)];exact h,λa xs h=>(xs,by rw[aj (ne h λ_ z=>nomatch z)];exact h),λa x h=>(x,Wj _,by rw[aj (ne h λ_ z=>nomatch z)];exact h))
def He(hk:QPE X K ek tk qk)(hv:QPE X K ev tv qv):QPF X K (.Dict [Z ek] [ev] pos) (NL [(tk,tv)]) (qD1 qk qv):=by
 refine(Ce (lX hk.h hv.h Cd) U U (by simp) (by show 1<=15;decide),λdl H σ q Q R rd hq k=>λp hp=>?_)
 have e0:=(Evo.refl rd.d).new (o:=.dK []) hp;have nd:Nd dl p:=rd.d.nd0 hp;refine hk.s dl _ σ q _ _ (rd.evo e0) hq λv t F H1 e1 r1 aA=>?_
 refine hv.s dl H1 σ q _ _ ((rd.evo e0).evo e1) aA λw u G H2 e2 r2 g=>?_
 split at g
 ·rename_i kk aS;let(aN,g):=g;let(U,U):=r2.r.v aN;have aP:=r1.r.key aS;have ak:H2 p=Z (.dK []):=e2.k p _ (e1.k p _ au nd (λ_ z=>nomatch z)) nd (λ_ z=>nomatch z)
  have tf:=TF.dict (kw:=[(kk,u.v)]) ak;refine(ak,[(kk,u.v)],by rw[aP];rfl,(by show 1<=15;decide),?_)
  have e3:Evo dl H (upd H2 p (.dK [(kk,u.v)])):=by
   refine(λb o V hn nr=>?_,λd hd=>?_,λb x V=>?_)
   ·have P:b≠p:=λz=>by rw[z,hp]at V;cases V
    rw[aj P];exact e2.k b o (e1.k b o (by rw[aj P];exact V) hn nr) hn nr
   ·let(s0,n0,ar,D0):=e2.d d hd;have n1:=(nd d hd).1;have n2:=(nd d hd).2;exact(s0,n0,ar,{D0 with hd:=by rw[aj n1.symm];exact D0.hd,hl:=by rw[aj n2.symm];exact D0.hl})
   ·have P:b≠p:=λz=>by rw[z,hp]at V;cases V
    let(y,hy,e4):=(e1.trans e2).r b x (by rw[aj P];exact V)
    exact(y,hy,by rw[aj P];exact e4)
  exact k _ _ [p] _ e3 (.d au (.cons (F:=[]) (G:=[]) (r2.r.dj tf (λ_ z=>z) bN) .nil),λb V=>by rw[fy.mp V];exact nd) (λb V=>by rw[fy.mp V];exact hp) (by simp) g
 ·exact g.elim
end
section
variable{X:Cx}{σ:St}{s:ϋ}{x:Int}
def Inv.N1(I:Inv X gd σ H s){u:HO}(ha:H a=Z u)(g:∀o v,u ≠ .frz o v):∀o v,X.H₀ a≠Z (.frz o v):=λo v e=>by
 have:=I.base.jd a o v e
 rw[ha]at this;exact g o v (Option.some.inj this)
def Inv.FO(I:Inv X gd σ H s)(ha:H a=Z (.lst [.int x])):Inv X gd σ (upd H a (.room x)) s:=by
 let(_,its,n,r,e):=(I.hok a _ ha);exact I.B0 ha (λ_ z=>nomatch z) (λ_ z=>nomatch z) (λ_ z=>nomatch z) (I.N1 ha (λ_ _ z=>nomatch z)) (its,n,r,e)
def Inv.Qt(I:Inv X gd σ H s)(ha:H a=Z (.room x)):Inv X gd σ (upd H a (.lst [.int x])) s:=by
 let(its,n,r,e):=(I.hok a _ ha);exact I.B0 ha (λ_ z=>nomatch z) (λ_ z=>nomatch z) (λ_ z=>nomatch z) (I.N1 ha (λ_ _ z=>nomatch z)) (by show 1<=pq;decide,its,n,r,e)
end
variable{p3:Pos}
section
variable{X:Cx}{K:BT}{a b e o:Ev}{ta tb te:TE}{qa qb qe:QE}{pos:Pos}
inductive GP(x:V)(y:V)(H:Hp)(Q:VK):Prop
 |mk(p r:_)(h1:x=.ref p)(h2:y=.int 0)(h3:H p=Z (.room r))(h4:Q (.int r) H)
def Cv:IxR X GP:=by
 intro value slice gd s σ H x y v u Q I K z h hs;let(p,m,U,U,hq,q):=h;cases K;let(t,U):=z;let(its,n,r,e):=(I.hok p _ hq);have P:PlainL s.heap p its.toArray:=(_,n,e,U,U,U);let(w,ew,g):=r.get (show [V.int m][0]?=Z (.int m)from U);have fin:EP X gd σ Q w s:=(.int m,H,I,g,q);exact item_listR P.isList (Wj 0) (by decide) (by simpa using ew) fin hs
inductive GI(o:V)(i:V)(v:V)(H:Hp)(Q:(Hp->Prop)):Prop
 |mk(p x y:_)(h1:o=.ref p)(h2:i=.int 0)(h3:v=.int y)(h4:H p=Z (.room x))(h5:Q (upd H p (.room y)))
def Gx:RW X GI:=by
 intro gd s σ H o i v ov iv u Q I P V K h;let(p,x,y,U,U,U,hp,q):=h;have I1:=I.Qt hp;refine thn (set_list gd s σ _ (.ref p) (.int 0) (.int y) ov iv u (λH'=>H'=upd H p (.lst [.int y])) I1 P V K (p,[.int x],0,0,U,U,au,U,by rw[gc];rfl)) λ_ s' z=>?_
 let(H',I',z):=z;subst z;have g:=I'.FO au;rw[gc]at g;exact(_,g,q)
def ND(te:TE):TE:=λσ H Q=>te σ H λv H1=>∃a x,v=.ref a/\H1 a=Z (.lst [.int x])/\Q v (upd H1 a (.room x))
def L7(he:PE X e te):PE X e (ND te):=by
 left;refine thn (he gd s σ H _ I h) λu s' g=>?_
 let(v,H',K,r,a,x,P,z,q):=g;exact(v,_,K.FO z,r,q)
def Evo.fresh{a:J}{o:HO}(e:Evo dl H H')(ha:H a=Y)(nd:Nd dl a):Evo dl H (upd H' a o) :=
 (λb u h n r=>by rw[aj (aL h ha)];exact e.k b u h n r,λp hp=>(e.d p hp).oth (nd p hp).1 (nd p hp).2,λb x h=>let(y,g,q):=e.r b x h;(y,g,by rw[aj (aL h ha)];exact q))
def S0(qe:QE):QE:=λq Q=>qe q λt=>match t with
 |.l [.i x]=>Q (.rm x)
 |_=>False
def Ly(he:QPF X K e te qe):QPF X K e (ND te) (S0 qe):=(L7 he.h,λdl H σ q Q R rd hq k=>he.s dl H σ q _ _ rd hq λv t F H1 V P f1 n1 g=>by
 split at g
 ·rename_i x;let(p,vs,G,U,U,h1,h2):=P.r.lst;cases h2 with
  |cons h3 h4 =>
   cases h4;let(U,U):=h3.int;exact(p,x,U,h1,k _ (.rm x) [] _ (V.fresh (f1 p lD) (P.n p lD)) (.rm au (Wj _),λ_ z=>nomatch z) (λ_ z=>nomatch z) n6 g)
 ·exact g.elim)
def PV:Q2:=λt u Q=>match t,u with
 |.rm m,.i k=>k=0/\∀r,r<=m->Q (.i r)
 |_,_=>False
def Lc:JR K GP PV:=by
 intro dl H x y t u F G Q R D q g hq k;unfold PV at hq
 split at hq
 ·let(p,m,U,h1,h2,_):=q.r.roo;let(U,_):=g.r.int;let(U,hq):=hq;exact(p,m,U,U,h1,k _ (.i m) [] H (.refl D) (.i m,λ_ z=>nomatch z) (hq m h2))
 ·exact hq.elim
def Lz(ha:QPE X K a ta qa)(g:QPE X K b tb qb)(hs:kj b:=by intro _ _;rfl):QPE X K (.Subscript a b pos) (tOp GP ta tb) (qOp PV qa qb):=(uO Cv ha.h g.h hs,vO Lc ha.s g.s)
def Ap(i:Nat)(qe:QE):QS:=λD q=>match q[i]? with
 |some x=>match x.get with
  |some (.rm u)=>qe q λt=>match t with
   |.i k=>0<=k/\D.nx (q.set i (.r (.rm (u - k))))
   |_=>False
  |_=>False
 |none=>False
def NO:R2:=rI0 λi j=>.int (i - j)
def Gw{α:Type}{xs:List α}{i:Nat}{x:α}(h:xs[i]?=Z x):xs.set i x=xs:=by
 let(hl,e):=jS.mp h;subst e;exact List.set_getElem_self hl
def DP{i:Nat}(he:fY K te qe):lB K (ja (tOp NO (tOp GP (bZ i) (tC (.int 0))) te) (Ji (bZ i) (tC (.int 0)) GI)) (Ap i qe):=λdl H₀ hs H σ q Dq D (F,r) hq E=>by
 unfold Ap at hq
 split at hq
 ·rename_i x ex
  split at hq
  ·rename_i u eg;let(v,hv,rp):=r.g i x _ ex eg;let(p,m,U,h1,h2,hF):=rp.r.roo;refine(_,hv,p,m,U,U,h1,he dl H σ q _ _ r.rd hq λw t F1 H1 V r1 Q=>?_)
   split at Q
   ·rename_i k;let(hk,Q):=Q;let(U,_):=r1.r.int;let(y,hy,e2):=V.r p m h1;have nd:=r.d.nd h1 (λ_ z=>nomatch z) (λ_ z=>nomatch z)
    refine(m,k,U,U,_,hv,p,y,m - k,U,U,U,e2,?_);have ev:Evo dl H (upd H1 p (.room (m - k))):=by
     refine(λb o P n nr=>?_,λd hd=>(V.d d hd).oth (nd d hd).1 (nd d hd).2,λb z P=>?_)
     ·have ne:b≠p:=λz=>by rw[z,h1]at P;exact nr _ (Option.some.inj P).symm
      rw[aj ne];exact V.k b o P n nr
     ·by_cases eb:b=p
      ·subst eb;rw[h1]at P;cases P;exact(_,Int.sub_le_self _ hk,au)
      ·let(z',ak,e3):=V.r b z P;exact(z',ak,by rw[aj eb];exact e3)
    have R2:=(r.evo ev).LQ (t:=.rm (u - k)) (jS.mp ex).1 (.rm au (by lia),λ_ z=>nomatch z) (λ_ _ _ _ _ _=>x2)
    rw[Gw hv]at R2;exact E.nx _ _ _ (_,R2) Q
   ·exact Q.elim
  ·exact hq.elim
 ·exact hq.elim
def xX{i:Nat}{p4 P z q:Pos}{j1 j2:Nat}(ho:PE X (.Name x p1) (bZ i))(Q:PE X (.Name x p3) (bZ i))(he:QPE X K e te qe)
  (hs:‹swapsWithSole [.Subscript (.Name x p1) (.Constant (.int 0) j1 p4) pos'] (.BinOp (.Subscript (.Name x p3) (.Constant (.int 0) j2 P) z) .Sub e q) pos.line X.env=pure false›) (hw:‹swappedStores [.Subscript (.Name x p1) (.Constant (.int 0) j1 p4) pos'] (.BinOp (.Subscript (.Name x p3) (.Constant (.int 0) j2 P) z) .Sub e q) X.env=pure none›)
  (h1:‹(assignEach [.Subscript (.Name x p1) (.Constant (.int 0) j1 p4) pos'] X.env).map (·.2)=[assign (.Subscript (.Name x p1) (.Constant (.int 0) j1 p4) pos') X.env]›)
  (ha:∀v,assign (.Subscript (.Name x p1) (.Constant (.int 0) j1 p4) pos') X.env v=(do
   let g <- holding [v] (eval (.Name x p1) X.env)
   let iv <- holding [v,g] (eval (.Constant (.int 0) j1 p4) X.env)
   standAt pos'
   holding [v,g,iv] (setItem g iv v)
   release [v,g,iv] []):=by intro _;rfl):
  QPS X K (.Assign [.Subscript (.Name x p1) (.Constant (.int 0) j1 p4) pos'] (.BinOp (.Subscript (.Name x p3) (.Constant (.int 0) j2 P) z) .Sub e q) pos) (ja (tOp NO (tOp GP (bZ i) (tC (.int 0))) te) (Ji (bZ i) (tC (.int 0)) GI)) (Ap i qe) :=
 (wk (cM AE (uO Cv Q bD (λ_ _=>rfl)) he.h) (HK ho bD Gx ha) hs hw h1,DP he.s)
end
def T.dof:T->Option (List (Key×T))
 |.d ks=>Z ks
 |.fd _ _ ks=>Z ks
 |.dp _ ks=>Z ks
 |_=>Y
variable{td:TE}
section
variable{X:Cx}{K:BT}{v:V}{F:List J}{a b c e:Ev}{ta tb tk tx te:TE}{qa qb qk qx qe:QE}{pos apos aS:Pos}
theorem aI.dof{t:T}{ks:List (Key×T)}(h:aI K dl H v t F)(e:t.dof=Z ks):∃a vs G,v=.ref a/\Rd H a (.dK vs)/\a9 K dl H vs ks G/\∀b∈G,b∈F:=by
 cases t with
 |d g =>
  cases e;let(a,vs,G,U,U,h1,h2):=h.dic;exact(a,vs,G,U,.inl h1,h2,λ_ q=>g5 _ q)
 |fd o vs g =>
  cases e;let(a,U,U,h1,h2):=h.EJ;exact(a,vs,[],U,.inr (_,h1),h2,λ_ q=>q)
 |dp a g =>
  cases e;let(vs,G,U,U,h1,h2):=h.dpp;exact(a,vs,G,U,.inl h1,h2,λ_ q=>g5 _ q)
 |_=>cases e
def ie.rd{a:J}{kvs:List (Key×V)}{k:Key}(e:Rd H a (.dK kvs)):ie H a (kV k) (cz kvs k):=.inl (kvs,k,e,U,U)
def NX(neg:Bool):Q2:=λt u Q=>match u.dof with
 |some ks=>match t.key with
  |some k=>Q (.b (if neg then !(cC ks k).isSome else(cC ks k).isSome))
  |none=>False
 |none=>False
def xM{neg:Bool}:dy K (Pq neg) (NX neg):=by
 intro dl H x y t u F G Q R D r1 V hq k;unfold NX at hq
 split at hq
 ·rename_i ks P
  split at hq
  ·rename_i k0 ek;let(p,vs,G,U,h1,h2,_):=V.r.dof P;rw[r1.r.key ek];refine(p,_,U,ie.rd h1,k _ _ [] H (.refl D) (.c (.b _)) (λ_ z=>nomatch z) n6 ?_)
   have e:(cz vs k0).isSome=(cC ks k0).isSome:=by
    obtain⟨q,g⟩|⟨_,_,_,q,g,_⟩:=h2.look k0
    ·rw[q,g];rfl
    ·rw[q,g];rfl
   rw[e];exact hq
  ·exact hq.elim
 ·exact hq.elim
def lU:Q2:=λt u Q=>match t.dof with
 |some ks=>match u.key with
  |some k=>Ex2 (λx=>cC ks k=Z x) Q
  |none=>False
 |none=>False
inductive GQ(x:V)(y:V)(H:Hp)(Q:VK):Prop
 |mk(a kvs k v:_)(h1:x=.ref a)(h2:y=kV k)(h3:Rd H a (.dK kvs))(h4:cz kvs k=Z v)(h5:Q v H)
def IQ:IxR X GQ:=by
 intro value slice gd s σ H x y v u Q I P K h hs;let(a,kvs,k,w,U,U,ha,hv,q):=h;cases P;let(z,hd,vs,rel,dd):=iY I.hok ha;let(V,hw,g):=iO.some_of (by rw[<- hv];exact rel.val k)
 exact subscriptTail_builtinR dd.typeIs PySem.F.slot_dict_getitem.lookup (wpAny_getItem_of (mv K) dd.mapOf hw (U,w,H,I.tok _,g,q)) hs
def Gi:JR K GQ lU:=by
 intro dl H x y t u F G Q R D r1 r2 hq k;unfold lU at hq
 split at hq
 ·rename_i ks P
  split at hq
  ·rename_i k0 ek;let(z,g,hq):=hq;let(p,vs,G,U,h1,h2,sub):=r1.r.dof P;rw[r2.r.key ek];obtain⟨q,V⟩|⟨t',v,G',q,V,z3,z4⟩:=h2.look k0
   ·rw[q]at g;cases g
   ·rw[q]at g;cases g;exact(p,vs,k0,v,U,U,h1,V,k v _ G' H (.refl D) (Rp.sub z3 r1.n λb hb=>sub b (z4 b hb)) hq)
  ·exact hq.elim
 ·exact hq.elim
def fF(ha:QPE X K a ta qa)(g:QPE X K b tb qb)(hs:kj b:=by intro _ _;rfl):QPE X K (.Subscript a b pos) (tOp GQ ta tb) (qOp lU qa qb):=(uO IQ ha.h g.h hs,vO Gi ha.s g.s)
def Ta(g qk qx:QE):QE:=λq Q=>g q λd=>match d.dof with
 |some ks=>qk q λu=>match u.key with
  |some k=>qx q λx=>Q ((cC ks k).getD x)
  |none=>False
 |none=>False
def LF{d f:Ev}{qd:QE}(hu:X.A.units+1<cLine)(hd:QPE X K d td qd)(hk:QPE X K e tk qk)(hx:QPE X K f tx qx)(m:M2 X d "get" apos e f aS:=by exact(U,U,U,U)):QPE X K (.Call (.Attribute d "get" apos) [e,f] [] aS) (FY td tk tx) (Ta qd qk qx) :=
 (HU hu hd.h hk.h hx.h m,λdl H σ q Q R rd hq k=>hd.s dl H σ q _ _ rd hq λv t F H1 V r1 hq=>by
  split at hq
  ·rename_i ks g;let(p,vs,G,U,h1,h2,sub):=r1.r.dof g;refine(p,U,.inl (vs,h1),hk.s dl H1 σ q _ _ (rd.evo V) hq λy u F2 H2 P r2 hq=>?_)
   split at hq
   ·rename_i k0 ek;refine hx.s dl H2 σ q _ _ ((rd.evo V).evo P) hq λz w F3 H3 e3 r3 hq=>?_
    have rp:=(r1.evo V.d P).evo P.d e3;let(p',aA,G',e',ar,ak,KU):=rp.r.dof g;cases e';rw[r2.r.key ek];refine(_,ie.rd ar,?_);obtain⟨z1,z2⟩|⟨t,v,G2,z1,z2,z3,z4⟩:=ak.look k0
    ·rw[z2];rw[z1]at hq;exact k _ _ F3 H3 ((V.trans P).trans e3) r3 hq
    ·rw[z2];rw[z1]at hq;exact k _ _ G2 H3 ((V.trans P).trans e3) (Rp.sub z3 rp.n λb hb=>KU b (z4 b hb)) hq
   ·exact hq.elim
  ·exact hq.elim)
inductive uI(xs:List V)(H:Hp)(Q:VK):Prop
 |mk(p:J)(kvs:List (Key×V))(h1:xs=[.ref p])(h2:Rd H p (.dK kvs))(h3:∀d,H d=Y->Q (.ref d) (upd H d (.dK kvs)))
theorem d8:bY X (.type "dict") uI:=by
 intro gd s σ H xs us Q I r h;let(p,kvs,U,hp,q):=h;let(u,U,ru):=vals1 r;cases ru;let(z,ak,vs,kv,dd):=iY I.hok hp;refine callType_codes (Q₁:=λobj g=>obj=.ref s.heap.objs.size/\g={s with heap:=s.heap.push {cls:=.type "dict",data:=.dict #[]}}) F.kt_called_dict (F.kt_typeCall_dict_1 _) F.entry_dict_init (kt_code_dict_new _ (U,U)) ?_
 rintro obj g ⟨rfl,rfl⟩
 have P:(s.heap.push {cls:=.type "dict",data:=.dict #[]}).DictOf (bq X.prog X.w) s.heap.objs.size []:=Heap.DictOf.new s.heap;have aA:p<s.heap.objs.size:=by
  let(o,_,_,e,_):=dd;exact jR e
 have dd':(s.heap.push {cls:=.type "dict",data:=.dict #[]}).DictOf (bq X.prog X.w) p vs:=by
  let(o,es,ep,e,r):=dd;exact(o,es,ep,ft _ e,r)
 have V:(vs.map (·.1)).Nodup:=by
  let(o,es,ep,_,_,_,_,_,n):=dd;exact n
 have aP:=Paired.length kv;refine(P.typeIs,F.args_dict_init_2 _ _,?_);refine cZ ?_;refine cZ (wpAny_notOrdered_dict P.typeIs ?_);refine kq ?_;show wpAny _ _ (Builtin.Dict.updateFrom "dict.__init__" s.heap.objs.size (.ref p) [] .none) _ _ _;refine cZ (VD dd'.typeIs ?_);refine cZ ?_;refine cZ ?_;refine cZ (WY dd'.typeIs isSubtype_dict_dict ?_);refine cZ (WL dd'.typeIs F.slot_dict_iter.lookup (kq ?_));refine wpAny_mergeDict (zj aA) ak P dd' λh' K aN ar=>?_
 rw[merged_nil_of_nodup _ V]at K;refine cZ (kq (kq (U,.ref s.heap.objs.size,_,I.laid (λb u e=>?_) (nY _) (si z ?_ kv K),U,q _ (I.hok.fresh (nY _)))))
 ·rw[ar.2 b (rz (jR e))];exact ft _ e
 ·have:=I.big
  exact beq_eq_false_iff_ne.mpr (zj this)
def nH:QC:=λts Q=>match ts with
 |[t]=>match t.dof with
  |some ks=>T.imk ks=O/\Q (.d ks)
  |none=>False
 |_=>False
def fA:mX K uI nH:=by
 intro dl H vs ts F Q R D r hq k;unfold nH at hq
 split at hq
 ·split at hq
  ·rename_i ks q;let(v,U,P):=r.one;let(p,kvs,G,U,h1,h2,sub):=P.r.dof q;obtain rfl:=h2.im hq.1;refine(p,kvs,U,h1,λd hd=>?_)
   have ev:Evo dl H (upd H d (.dK kvs)):=(Evo.refl D).new hd;exact k _ _ [d] _ ev (.d au (h2.dj (ev.tf D) (λ_ z=>z) λ_ z=>nomatch z),λb g=>by rw[fy.mp g];exact D.nd0 hd) (λb g=>by rw[fy.mp g];exact hd) (by simp) hq.2
  ·exact hq.elim
 ·exact hq.elim
def NJ(te:TE):TE:=λσ H Q=>te σ H λv H1=>∃a kvs,v=.ref a/\H1 a=Z (.dK kvs)/\∀o,Q v (upd H1 a (.frz o (.dK kvs)))
def Ma(he:PE X e te):PE X e (NJ te):=by
 left;refine thn (he gd s σ H _ I h) λu s' g=>?_
 let(v,H',P,r,a,kvs,V,z,q):=g;let(_,o,K):=P.freeze z;exact(v,_,K,r,q o)
def Tc(qe:QE):QE:=λq Q=>qe q λt=>match t with
 |.d ks=>T.imk ks=O/\∀o vs,Q (.fd o vs ks)
 |_=>False
def TF.Uy{p:J}{kv:List (Key×V)}{o:Obj}{u:HO}(hp:H p=Z (.dK kv)):TF H (upd H p (.frz o u)) :=
 have ne:∀{a:J}{o:HO},H a=Z o->(∀kv,o ≠ .dK kv)->a≠p:=λh n e=>by rw[e,hp]at h;exact n _ (Option.some.inj h).symm
 (λa vs h=>by rw[aj (ne h λ_ z=>nomatch z)];exact h,λa o u h=>by rw[aj (ne h λ_ z=>nomatch z)];exact h,λa φ h=>by rw[aj (ne h λ_ z=>nomatch z)];exact h,λa xs h=>(xs,by rw[aj (ne h λ_ z=>nomatch z)];exact h),λa x h=>(x,Wj _,by rw[aj (ne h λ_ z=>nomatch z)];exact h))
def pM(he:QPF X K e te qe):QPF X K e (NJ te) (Tc qe):=(Ma he.h,λdl H σ q Q R rd hq k=>he.s dl H σ q _ _ rd hq λv t F H1 V P f1 n1 g=>by
 split at g
 ·rename_i ks;let(p,vs,G,U,U,h1,h2):=P.r.dic;obtain rfl:=h2.im g.1;exact(p,vs,U,h1,λo=>k _ (.fd o vs ks) [] _ (V.fresh (f1 p lD) (P.n p lD)) (.fd au (h2.dj (TF.Uy h1) (λ_ z=>z) λ_ z=>nomatch z),λ_ z=>nomatch z) (λ_ z=>nomatch z) n6 (g.2 o vs))
 ·exact g.elim)
end
section
variable{X:Cx}{K:BT}{t:TS}{qt:QS}
inductive FV(i:Nat)(t:TS)(D:Ends)(σ:St)(H:Hp):Prop
 |mk(a kvs:_)(h1:σ[i]?=Z (Z (.ref a)))(h2:H a=Z (.dK kvs))(h3:∀o,t D σ (upd H a (.frz o (.dK kvs))))
def P7{i:Nat}(h:PS X st t):PS X st (FV i t):=by
 intro gd s σ H D I z;let(a,kvs,_,ha,k):=z;let(_,o,g):=I.freeze ha;exact h gd s σ _ D g (k o)
def Hn(i:Nat)(qt:QS):QS:=λD q=>match q[i]? with
 |some (.o (.d ks))=>T.imk ks=O/\∀o vs,qt D (q.set i (.o (.fd o vs ks)))
 |_=>False
theorem Rel.frz{dl:Dl}{H₀ H:Hp}{hs:List (V×T)}{σ:St}{q:Sq}{F:Nat->List J}{i:Nat}{a:J}{vs:List (Key×V)}{ks:List (Key×T)}{o:Obj}(r:Rel K dl H₀ hs H σ q F)(ei:q[i]?=Z (.o (.d ks)))(hv:σ[i]?=Z (Z (.ref a)))(eF:F i=[a])(rp:Rp K dl H (.ref a) (.d ks) (F i))(h1:H a=Z (.dK vs))(h2:a9 K dl H vs ks []):fc K dl H₀ hs (upd H a (.frz o (.dK vs))) σ (q.set i (.o (.fd o vs ks))):=by
 refine(xO F i [],?_);have tf:=TF.Uy (o:=o) (u:=.dK vs) h1;have na:=rp.n a (by rw[eF];exact lD)
 let(o1,o2,o3):=r.o i _ ei;have st:∀{w:V}{u:T}{Fw:List J},Rp K dl H w u Fw->a ∉ Fw->Rp K dl (upd H a (.frz o (.dK vs))) w u Fw:=λ{w u Fw} h np =>
  (h.r.dj tf (λ_ z=>z) λb P ob e=>(by
   have n0:b≠a:=λz=>np (by rw[<- z];exact P)
   rw[aj n0];exact e),h.n)
 refine(λd hd=>(r.d d hd).oth (na d hd).1 (na d hd).2,λj x u h3 h4=>?_,λj x h3 h4=>?_,λj Q=>?_,λj u h3=>?_,λp hp=>?_,(λb ob P nb nr=>?_,λb x P=>?_),by simp[r.l])
 ·obtain⟨rfl,rfl,_⟩|⟨ne,h3⟩:=get_set h3
  ·cases h4;exact(_,hv,by rw[bo];exact(.fd au (h2.dj tf (λ_ z=>z) λ_ z=>nomatch z),λ_ z=>nomatch z))
  ·let(w,h5,h6):=r.g j x u h3 h4;exact(w,h5,by rw[aV ne];exact st h6 (o3 j ne a (by rw[eF];exact lD)))
 ·obtain⟨rfl,rfl,_⟩|⟨ne,h3⟩:=get_set h3
  ·cases h4
  ·rw[aV ne];exact r.n j x h3 h4
 ·rw[Wn]at Q;by_cases e:j=i
  ·rw[e,bo]
  ·rw[aV e];exact r.z j Q
 ·obtain⟨rfl,e,_⟩|⟨ne,h3⟩:=get_set h3
  ·rw[bo];exact(n6,λ_ z=>absurd z x2,λ_ _ _ z=>absurd z x2)
  ·rw[aV ne];let(p1,p2,p3):=r.o j u h3;refine(p1,p2,λk hk b P=>?_)
   by_cases ek:k=i
   ·rw[ek,bo];exact x2
   ·rw[aV ek];exact p3 k hk b P
 ·let(Fp,h3,h4):=r.h p hp;refine(Fp,st h3 (h4 i _ ei a (by rw[eF];exact lD)),λj u Q b P z=>?_)
  obtain⟨rfl,e,_⟩|⟨ne,Q⟩:=get_set Q
  ·rw[bo]at P;cases P
  ·rw[aV ne]at P;exact h4 j u Q b P z
 ·have n0:b≠a:=λz=>by rw[z,o2 a (by rw[eF];exact lD)]at P;cases P
  rw[aj n0];exact r.f.k b ob P nb nr
 ·have n0:b≠a:=λz=>by rw[z,o2 a (by rw[eF];exact lD)]at P;cases P
  rw[aj n0];exact r.f.r b x P
def Gm{i:Nat}(h:lB K t qt):lB K (FV i t) (Hn i qt):=λdl H₀ hs H σ q Dq D (F,r) hq E=>by
 unfold Hn at hq
 split at hq
 ·rename_i ks P;let(v,hv,z):=r.g i _ _ P U;let(a,vs,G,U,Q,h1,h2):=z.r.dic;obtain rfl:=h2.im hq.1;exact(a,vs,hv,h1,λo=>h dl H₀ hs _ σ _ Dq D (r.frz P hv Q z h1 h2) (hq.2 o vs) E)
 ·exact hq.elim
def qR{i:Nat}(h:QPS X K st t qt):QPS X K st (FV i t) (Hn i qt):=(P7 h.h,Gm h.s)
end
section
variable{X:Cx}{σ:St}{s:ϋ}{u1 u2 v1 v2:HO}{fs:List (Str×V)}
def Inv.GD(I:Inv X gd σ H s)(ne:d≠a)(ha:H a=Z v1)(hd:H d=Z v2)(t1:∀xs,v1 ≠ .tup xs)(t2:∀xs,v2 ≠ .tup xs)(b1:∀ps,v1 ≠ .tbl ps)(b2:∀ps,v2 ≠ .tbl ps)(z1:∀o v,v1 ≠ .frz o v)(V:∀o v,v2 ≠ .frz o v)(w1:∀c,v1 ≠ .own c)(w2:∀c,v2=.own c->c=a)
  (Vm:bJ X.prog X.w (upd (upd H a u1) d u2) s.heap a u1) (Vl:bJ X.prog X.w (upd (upd H a u1) d u2) s.heap d u2):Inv X gd σ (upd (upd H a u1) d u2) s:=by
 have g:∀{b:J}{o:HO},H b=Z o->o≠v1->b≠a:=λe n z=>by rw[z,ha]at e;exact n (Option.some.inj e).symm
 have K:∀{b:J}{o:HO},H b=Z o->o≠v2->b≠d:=λe n z=>by rw[z,hd]at e;exact n (Option.some.inj e).symm
 have n0:∀{b:J},H b=Y->b≠a/\b≠d:=λ{b} e=>(λz=>(by rw[z,ha]at e;cases e),λz=>(by rw[z,hd]at e;cases e))
 have st:∀{b:J},b≠a->b≠d->upd (upd H a u1) d u2 b=H b:=λh1 h2=>by rw[aj h2,aj h1]
 refine(I.ok,I.os,I.bare,(I.base.keep,I.base.slot,λb o e n hx=>?_,I.base.there,λb xs e=>?_,λb o v e=>?_,λb ps e=>?_),I.loc,I.cell,?_,λx c e=>?_,λp hp=>?_,λb o e=>?_,I.len)
 ·have:=I.base.free b o e n hx
  rw[st (n0 this).1 (n0 this).2];exact this
 ·have:=I.base.lL b xs e
  rw[st (g this λz=>t1 _ z.symm) (K this λz=>t2 _ z.symm)]
  exact this
 ·have:=I.base.jd b o v e
  rw[st (g this λz=>z1 _ _ z.symm) (K this λz=>V _ _ z.symm)]
  exact this
 ·let(more,this):=I.base.lN b ps e;refine(more,?_);rw[st (g this λz=>b1 _ z.symm) (K this λz=>b2 _ z.symm)]
  exact this
 ·rw[st (n0 I.free).1 (n0 I.free).2];exact I.free
 ·rw[st (n0 (I.dO x c e)).1 (n0 (I.dO x c e)).2];exact I.dO x c e
 ·let(p1,p2,p3):=I.pin p hp;exact(p1,by rw[st (n0 p2).1 (n0 p2).2];exact p2,p3)
 ·by_cases P:b=d
  ·subst P;rw[au]at e;cases e;exact Vl
  ·by_cases Q:b=a
   ·subst Q;rw[aj P,au]at e;cases e;exact Vm
   ·rw[st Q P]at e;refine(I.hok b o e).dj (λ_ _ _ q=>q) (λc q=>?_) λc xs q=>?_
    ·rw[st (g q λz=>w1 _ z.symm) (λz=>by rw[z,hd]at q;exact Q (w2 b (Option.some.inj q)))];exact q
    ·rw[st (g q λz=>t1 _ z.symm) (K q λz=>t2 _ z.symm)];exact q
def Inv.Ss(I:Inv X gd σ H s)(ha:H a=Z (.ins C d fs)):d≠a/\fs.length<=1000/\H d=Z (.own a)/\Inv X gd σ (upd (upd H a (.ext (xo a C d))) d (.ext (XD d fs))) s:=by
 let(hd,hl,ne,e,mA,n,r,w):=(I.hok a _ ha);exact(ne,hl,hd,I.GD ne ha hd (λ_ z=>nomatch z) (λ_ z=>nomatch z) (λ_ z=>nomatch z) (λ_ z=>nomatch z) (λ_ _ z=>nomatch z) (λ_ _ z=>nomatch z) (λ_ z=>nomatch z) (λc z=>by cases z;rfl)
  (e,(_,e),λh1 h2 p k=>k _ p) (XD.ok (mA,n,r,w)))
def Inv.Ve(I:Inv X gd σ H s)(ne:d≠a)(hl:fs.length<=1000)(ha:H a=Z (.ext (xo a C d)))(hd:H d=Z (.ext (XD d fs))):Inv X gd σ (upd (upd H a (.ins C d fs)) d (.own a)) s:=by
 have e:=(I.hok a _ ha).1;let(mA,n,r,w):=(I.hok d _ hd).1;refine I.GD ne ha hd (λ_ z=>nomatch z) (λ_ z=>nomatch z) (λ_ z=>nomatch z) (λ_ z=>nomatch z) (λ_ _ z=>nomatch z) (λ_ _ z=>nomatch z) (λ_ z=>nomatch z) (λc z=>nomatch z) (au,hl,ne,e,mA,n,r,w) ?_
 let(o,_,_,g,_):=n;exact(o,g)
end
variable{prs:List Str}
section
variable{X:Cx}{K:BT}{e:Ev}{es:List Ev}{te:TE}{qe:QE}{tl:TA}{ql:QA}{pos p:Pos}{f:Str}
def NK(K:BT)(ta:TE)(f:Str):TE:=λσ H Q=>ta σ H λx H1=>∃a C fs v,x=.ref a/\ObH H1 a C fs/\fs.length<=1000/\Cls K C/\bR K C f/\fs.lookup f=Z v/\Q v H1
def Mc(he:PE X e te)(hb:attributeBase e f X.env (eval e X.env)=eval e X.env):PE X (.Attribute e f pos) (NK X.K te f):=by
 left;refine C2 hb (thn (he gd s σ H _ I h) λu s1 z=>?_)
 let(x,H1,I1,rx,a,C,fs,v,ex,(dx,ne,h1,h2),hl,c,n,l,q):=z;subst ex;obtain rfl:=rx;refine Bl (I1.Ve ne hl h1 h2) (by rw[aj ne.symm,au]) c n l λu' s2 I2 ru=>(v,H1,?_,ru,q)
 let(_,_,_,V):=I2.Ss (by rw[aj ne.symm,au])
 have e:upd (upd (upd (upd H1 a (.ins C dx fs)) dx (.own a)) a (.ext (xo a C dx))) dx (.ext (XD dx fs))=H1:=by
  funext b
  by_cases g:b=dx
  ·rw[g,au,h2]
  ·by_cases P:b=a
   ·rw[aj g,P,au,h1]
   ·rw[aj g,aj P,aj g,aj P]
 rw[e]at V;exact V
def Te(C:J)(f:Str)(qe:QE):QE:=λq Q=>qe q λt=>match t with
 |.ob C' ns ts=>C'=C/\ns.length<=1000/\Ex2 (λx=>(ns.zip ts).lookup f=Z x) Q
 |_=>False
def aW(hc:Cls K C)(hn:bR K C f)(he:QPE X K e te qe)(z:‹attributeBase e f X.env (eval e X.env)=eval e X.env›)(hK:‹X.K=K›):QPE X K (.Attribute e f pos) (NK K te f) (Te C f qe):=(by subst hK;exact Mc he.h z,λdl H σ q Q R rd hq k=>he.s dl H σ q _ _ rd hq λv t F H1 e1 V g=>by
 split at g
 ·let(U,hl,x,hx,g):=g;let(a,vs,U,U,ho,rs):=V.r.obj;let(w,G,e2,P,s2):=rs.lookup hx;refine(a,_,_,w,U,ho,?_,hc,hn,e2,k _ _ G H1 e1 (P,λb z=>nomatch s2 b z) g)
  rw[Ww];exact sR (Nat.min_le_left _ _) hl
 ·exact g.elim)
inductive vM(C:J)(ns:List Str)(vs:List V)(H:Hp)(Q:VK)(_:XK):Prop
 |mk(x dx args:_)(h1:vs=.ref x::args)(h2:args.length=ns.length)(h3:H x=Z (.ins C dx []))(h4:Q .non (upd H x (.ins C dx (ns.zip args))))
def FT(C:J)(ns:List Str)(t:TA):TE:=λσ H Q=>t σ H λvs H1=>vs.length=ns.length/\∀x dx,H1 x=Y->H1 dx=Y->dx≠x->Q (.ref x) (upd (upd H1 x (.ext (xo x C dx))) dx (.ext (XD dx (ns.zip vs))))
theorem HN{g:J}{ns:List Str}{k:Nat}(M:Mk X.K C g)(G:bf X.prog X.w X.K X.mg X.base CX0 k g fd prs (vM C ns))(hr:cK (k+1) X.A)(hg:Gl X x)(hm:X.mg x=Z (.ref C))(hb:Binds X.K fd prs [])(ha:PA X (e::es) tl)
  (ak:autoParam (AS x) zdc._auto_1) (he:‹AC X e es›) (V:‹AM X pos es›):
  PE X (.Call (.Name x p) (e::es) [] pos) (FT C ns tl):=by
 left;refine RZ (ka I hg hm (W.callWith_K (h₀:=X.base) I.ok.mod.kin M.kp (thn (ha pos gd s σ H _ I h) λus s1 (vs,H1,I1,r,q)=>(I1.kIn,(thn (GB (Q:=λv H2=>∃a dx fs,v=.ref a/\H2 a=Z (.ins C dx fs)/\Q v (upd (upd H2 a (.ext (xo a C dx))) dx (.ext (XD dx fs)))) M G hr hb .nil HX I1 r λx dx hx hd ne=>(x,dx,vs,by simp,q.1,au,U,x,dx,ns.zip vs,U,au,?_)) λu s' (v,H',I',rv,a,dx,fs,e1,e2,qq)=>?_))) he V) ak)
 ·have e:upd (upd (upd (upd (upd H1 dx (.own x)) x (.ins C dx [])) x (.ins C dx (ns.zip vs))) x (.ext (xo x C dx))) dx (.ext (XD dx (ns.zip vs)))=upd (upd H1 x (.ext (xo x C dx))) dx (.ext (XD dx (ns.zip vs))):=by
   funext b
   by_cases z:b=dx
   ·rw[z,au,au]
   ·by_cases P:b=x
    ·rw[aj z,aj z,P,au,au]
    ·rw[aj z,aj P,aj P,aj P,aj z,aj z,aj P]
  rw[e];exact q.2 x dx hx hd ne
 ·let(_,_,_,I2):=I'.Ss e2;exact(v,_,I2,rv,qq)
def PR(C:J)(ns:List Str)(ql:QA):QE:=λq Q=>ql q λts=>T.ims ts=O/\ts.length=ns.length/\Q (.ob C ns ts)
def gO{g:J}{ns:List Str}{k:Nat}(hK:X.K=K)(M:Mk K C g)(G:bf X.prog X.w X.K X.mg X.base CX0 k g fd prs (vM C ns))(hr:cK (k+1) X.A)(hg:Gl X x)(hm:X.mg x=Z (.ref C))(hb:Binds X.K fd prs [])(ha:QPA X K (e::es) tl ql)
  (ak:autoParam (AS x) zdc._auto_1) (he:‹AC X e es›) (V:‹AM X pos es›):
  QPF X K (.Call (.Name x p) (e::es) [] pos) (FT C ns tl) (PR C ns ql):=by
 subst hK;refine(HN M G hr hg hm hb ha.h ak he V,λdl H σ q Q R rd hq k=>ha.s dl H σ q _ _ rd hq λvs ts F H1 e1 P _ hz=>?_)
 let(z1,z2,z3):=hz;obtain rfl:=P.r.im z1;refine(P.r.len.trans z2,λx dx hx hd ne=>?_)
 have ev:Evo dl H1 (upd (upd H1 x (.ext (xo x C dx))) dx (.ext (XD dx (ns.zip vs)))):=((Evo.refl e1.d).new hx).new (by rw[aj ne];exact hd)
 have r2:=P.evo e1.d ev;exact k _ _ [] _ (e1.trans ev) (.ob (dx,ne,by rw[aj ne.symm,au],au) r2.r,λ_ z=>nomatch z) (λ_ z=>nomatch z) n6 z3
end
variable{tg:Ev}{e:Ev}{g:Tg}
section
variable{X:Cx}{K:BT}
inductive GK(K:BT)(x:V)(y:V)(H:Hp)(Q:VK):Prop
 |mk(p q vs:_)(h1:x=.ref p)(h2:y=.ref q)(h3:SqL K H p vs)(h4:SqL K H q [])(h5:Q (.bl (!vs.isEmpty)) H)
def yi(hu:X.A.units+1<cLine)(hK:X.K=K):OpR X (compareOp .NotEq) (GK K):=by
 subst hK;intro gd s σ H x y v u Q I V P h;let(p,q,vs,U,U,h1,h2,k):=h;cases V;cases P;let(its,r1,p1,_):=I.list h1;let(z,g,p2,_):=I.list h2;have l1:=r1.length;have l2:=g.length;have e2:z.length=0:=l2.symm;by_cases hl:its.length=z.length
 ·refine SeqAt.RcNeAt.lists (e:=λ_=>O) p1.isList p2.isList (by simpa using hl) (by omega) (λj g1 g2=>?_) X.prog X.w X.xe _ (.bl _,H,I,U,?_)
  ·let(a,ea,ra):=g.at' g2;simp at ea
  ·have e:vs=[]:=uy.mp (by lia)
   subst e;have e3:its.toArray.size=0:=by simp;exact uy.mp (by lia)
   rw[e3];exact k
 ·refine SeqAt.RcNeAt.lists_lengths p1.isList p2.isList (by simpa using hl) (by omega) X.prog X.w X.xe _ (.bl _,H,I,U,?_)
  cases vs with
  |nil=>exact absurd l1.symm (by rw[<- l2]at hl;exact hl)
  |cons _ _=>exact k
def Hk:Q2:=λt u Q=>match t,u with
 |.l xs,.l []=>Q (.b (!xs.isEmpty))
 |_,_=>False
def uF:dy K (GK K) Hk:=by
 intro dl H x y t u F G Q R D P q hq k;unfold Hk at hq
 split at hq
 ·rename_i xs;let(p,vs,G1,U,U,h1,h2):=P.r.lst;let(V,g,G2,U,U,h3,h4):=q.r.lst;cases h4;refine(p,V,vs,U,U,SqL.of h1,SqL.of h3,k _ _ [] H (.refl D) (.c (.b _)) (λ_ z=>nomatch z) n6 ?_)
  have e:vs.isEmpty=xs.isEmpty:=by
   have:=h2.len
   cases vs <;> cases xs <;> simp at this ⊢
  rw[e];exact hq
 ·exact hq.elim
def Ts{q g:TI}(h1:PI X tg e q)(h2:PI X tg e g):PI X tg e (λσ H R=>q σ H R\/g σ H R):=by
 intro gd s σ H R I h;obtain h|h:=h
 ·exact h1 gd s σ H R I h
 ·exact h2 gd s σ H R I h
def asP(i:Nat):QJ:=λq Q=>match q[i]? with
 |some (.r (.l xs))=>Q xs q
 |some (.r (.t xs))=>Q xs q
 |_=>False
def G0{i:Nat}(h:PE X e (bZ i))(hK:‹X.K=K›):QPJ X K tg e (λσ H R=>uX K (bZ i) σ H R\/IV K (bZ i) σ H R) (asP i):=(Ts (lZ hK h) (wq hK h),λdl H₀ hs H σ q Q R (F0,r0) hq k=>by
 have hold:∀{t:T}{v:V},q[i]?=Z (.r t)->Rp K dl H v t (F0 i)->Rel K dl H₀ ((v,t)::hs) H σ q F0:=λ{t v} e r=>r0.hold r λj u hj b hb=>by
  have ne:i≠j:=λz=>by rw[z,hj]at e;cases e
  exact(r0.o j u hj).2.2 i ne b hb
 unfold asP at hq
 split at hq
 ·rename_i xs P;let(v,hv,r):=r0.g i _ _ P U;have r1:=hold P r;let(p,vs,G,U,_,h1,h2):=r.r.lst;exact .inl (_,hv,p,U,(vs,SqL.of h1),k _ _ _ H q (F0,r1) mw hq)
 ·rename_i xs P;let(v,hv,r):=r0.g i _ _ P U;have r1:=hold P r;let(p,vs,U,h1,h2):=r.r.tup;exact .inr (_,hv,p,U,(vs,SqT.of h1),k _ _ _ H q (F0,r1) A6 hq)
 ·exact hq.elim)
def Hh(g:Tg)(i:Nat):QS:=λD q=>match q[i]? with
 |some (.r t)=>Ex2 (λq'=>g.put t q=Z q') D.nx
 |_=>False
def F9{i:Nat}:lB K (ja (bZ i) (g.h K)) (Hh g i):=λdl H₀ hs H σ q Dq D (F,r) hq E=>by
 unfold Hh at hq
 split at hq
 ·rename_i t Q;let(q',P,hz):=hq;let(v,hv,rp):=r.g i _ _ Q U;exact(v,hv,vZ r rp (λj u V b hb=>(r.o j u V).2.2 i (λz=>by rw[z,V]at Q;cases Q) b hb) P λak r'=>E.nx _ _ _ r' hz)
 ·exact hq.elim
def v9{i:Nat}{pos:Pos}(he:PE X e (bZ i))(hg:PG X tg (g.h K))(hs:‹swapsWithSole [tg] e pos.line X.env=pure false›)(hw:‹swappedStores [tg] e X.env=pure none›)
  (h1:‹(assignEach [tg] X.env).map (·.2)=[assign tg X.env]›):QPS X K (.Assign [tg] e pos) (ja (bZ i) (g.h K)) (Hh g i):=(wk he hg hs hw h1,F9)
def mx{xs:List T}:xp K dl (Ite K ϊ a) (g8 xs) [(.ref a,.l xs)] where
 go:=λH i D h hi=>by
  let(F,r):=h (.ref a,.l xs) (by simp)
  let(p,vs,G,e,_,h1,h2):=r.r.lst;cases e;rw[aZ]at hi;have l1:i<vs.length:=by rw[h2.len];omega
  exact(vs,vs[i],SqL.of h1,by simp[l1])
 yld:=λH i x fp v H' D h hx y=>by
  have r:=h (.ref a,.l xs) (by simp)
  let(p,vs,G,e,eF,h1,h2):=r.r.lst;cases e;let(x1,V,U):=cb hx;let(w1,G1,ak,Q,ar):=h2.get V;let(q,u1,hq,U,U,P):=y;have e1:=P vs (SqL.of h1);rw[ak]at e1;cases e1;have sub:∀b∈G1,b∈fp (.ref a,.l xs):=λb g=>by rw[eF];exact g5 _ (ar b g)
  have rs:Rps K dl H [.int (i),w1] [.i (i),x1] ([]++(G1 ++ [])):=Rps.cons (.i _,λ_ z=>nomatch z) (Rps.cons (Q,λb g=>r.n b (sub b g)) (.nil,λ_ z=>nomatch z))
  refine((Evo.refl D).new hq,_,rs.tup D hq,λc g=>.inr ?_)
  rw[qg]at g;exact(_,by simp,sub c g)
 stop:=λH D h=>by
  let(F,r):=h (.ref a,.l xs) (by simp)
  let(p,vs,G,e,_,h1,h2):=r.r.lst;cases e;exact(vs,SqL.of h1,by rw[aZ,h2.len];exact nY _)
def Oz(i:Nat):QJ:=λq Q=>match q[i]? with
 |some (.o (.l xs))=>Q (g8 xs) (q.set i (.r (.l xs)))
 |some (.r (.l xs))=>Q (g8 xs) q
 |_=>False
def G6{a:Ev}{x1}{pos p:Pos}{i:Nat}(hg:Gl X "enumerate")(hm:X.mg "enumerate"=Y)(jG:bootBuiltins "enumerate"=Z (.type "enumerate"))(h:PE X a (bZ i))(hs:‹AD X a›)(ak:‹AC X a []›)(hK:‹X.K=K›):
  QPJ X K (.Tuple elts x1 pos') (.Call (.Name "enumerate" p) [a] [] pos) (rT K ϊ (bL (bZ i) fg)) (Oz i):=(jw hK hg hm jG (bh h cJ ak) hs,λdl H₀ hs H σ q Q R (F0,V) hq k=>by
 unfold Oz at hq
 split at hq
 ·rename_i xs e1;let(v,hv,r):=V.g i _ _ e1 U;have r1:=(V.down e1).hold r λj u P b hb=>by
   obtain⟨_,z,_⟩|⟨ne,P⟩:=get_set P
   ·cases z
   ·exact(V.o j u P).2.2 i (λz=>ne z.symm) b hb
  let(p,vs,G,U,_,h1,h2):=r.r.lst;exact(_,hv,p,U,(vs,SqL.of h1),k _ _ _ H _ (F0,r1) mx hq)
 ·rename_i xs e1;let(v,hv,r):=V.g i _ _ e1 U;have r1:=V.hold r λj u P b hb=>(V.o j u P).2.2 i (λz=>by subst z;rw[e1]at P;cases P) b hb
  let(p,vs,G,U,_,h1,h2):=r.r.lst;exact(_,hv,p,U,(vs,SqL.of h1),k _ _ _ H _ (F0,r1) mx hq)
 ·exact hq.elim)
def Mq:OpR X (compareOp .IsNot) (λx y H Q=>∃c d,x=.bl c/\y=.bl d/\Q (.bl (c != d)) H):=by
 intro gd s σ H x y v u Q I z g h;let(c,d,U,U,q):=h;cases z;cases g;exact isnot_bool (.bl _,H,I,U,q)
def NU:Q2:=λt u Q=>match t,u with
 |.b c,.b d=>Q (.b (c != d))
 |_,_=>False
def Gf:dy K (λx y H Q=>∃c d,x=.bl c/\y=.bl d/\Q (.bl (c != d)) H) NU:=by
 intro dl H x y t u F G Q R D q g hq k;unfold NU at hq
 split at hq
 ·let(U,U):=q.r.bl;let(U,U):=g.r.bl;exact(_,_,U,U,k _ _ [] H (.refl D) (.c (.b _)) (λ_ z=>nomatch z) n6 hq)
 ·exact hq.elim
end
variable{iter:Ev}
section
variable{X:Cx}{K:BT}{pos p:Pos}{ts:(St->XK)->TS}{qs:QSX}
def XOk.holds{hs hv:List (V×T)}{W:Sq->QW}{Es:St->XK}(x:XOk K dl H₀ hs W Es):XOk K dl H₀ (hv++hs) W Es:=λH σ q a C ns us (F,r) g hw=>x H σ q a C ns us (F,r.ig) g hw
def Lu{wi:TI}{iq:QJ}(hp:X6 (model X.prog X.w) X.A X.env X.xe)(hc:X.calm=O)(hi:QPJ X K tg iter wi iq)(hg:PG X tg (g.h K))(hb:mZ X K body ts qs)
  (hs:∀x,foldedSetIterable iter X.env x=pure x:=by intro _;rfl):BG X K (.For tg iter body [] pos) (λEs=>O5 wi (g.h K) (ts Es)) (λW=>Td iq g (qs W)):=(λEs a b=>Au hp hc hi.h hg (hb.h Es a b) hs,λdl H₀ hs H σ q Dq D W Es r hq E x=>by
 refine hi.s dl H₀ hs H σ q _ _ r hq λxs Yy hv H1 q1 r1 it hz=>?_
 let(I,i0,turn,fin):=hz;refine(λi m σ H=>m=xs.length - i/\i<=xs.length/\∃q,fc K dl H₀ (hv++hs) H σ q/\I i q,(xs.length,by simp,wh _,q1,r1,i0),?_)
 rintro i m σ H ⟨rfl,aA,q,⟨F,r⟩,hI⟩
 have held:∀p∈hv,∃F,Rp K dl H p.1 p.2 F:=λp hp=>let(Fp,h,_):=r.h p (p7 _ hp);(Fp,h)
 by_cases P:i<xs.length
 ·refine .inr (it.go H i r.d held P,λQ H'=>∃q,fc K dl H₀ (hv++hs) H' Q q/\I (i+1) q,λQ H' h=>(xs.length - (i+1),by omega,U,P,h),λv H' y=>?_)
  let(fp,V):=r.fps;have hx:xs[i]?=Z xs[i]:=by simp[P]
  let(e1,G,rx,hG):=it.yld H i xs[i] fp v H' r.d (λp hp=>(V p hp).1) hx y
  let(q',ar,hz):=turn i xs[i] q hx hI;refine vZ (r.evo e1) rx (λj u hj b hb z=>?_) ar λak r2=>hb.s dl H₀ (hv++hs) H' ak q' _ _ W Es r2 hz (λH σ q r n=>(q,r,n),λH σ q (F,r) n=>E.nx H σ q (F,r.ig) n,λH σ q r n=>(q,r,n),E.rt,λH σ q F0 v t F r=>E.ru H σ q F0 v t F r.ig) x.holds
  obtain h |⟨p,hp,h⟩:=hG b z
  ·exact(r.gx hb).no h
  ·exact(V p hp).2 j u hj b hb h
 ·have e:i=xs.length:=by omega
  subst e;exact .inl (it.stop H r.d held,E.nx H σ q (F,r.ig) (fin q hI)))
end
variable{cs:List J}
section
variable{X:Cx}{K:BT}{es:List Ev}{te:TE}{qe:QE}{pos p:Pos}{fn:List Str}{bm:List B}
def tCs:List J->TA
 |[]=>fg
 |c::r=>bL (tC (.ref c)) (tCs r)
structure PCs(X:Cx)(K:BT)(fn:List Str)(es:List Ev)(cs:List J):Prop where
 h:PA X es (tCs cs)
 c:∀c∈cs,∃bm ini,bX K fn c bm ini
 l:cs.length=es.length
def Me:PCs X K fn [] []:=(cJ,(λ_ z=>nomatch z),U)
def gR{y:Str}(q:bX K fn C bm ini)(hg:Gl X y)(hm:X.mg y=Z (.ref C))(hr:PCs X K fn es cs)(hd:autoParam (AS y) zdc._auto_1)(hs:‹m4 (.Name y p::es) X.env=(ϊ,eval (.Name y p) X.env)::m4 es X.env›):PCs X K fn (.Name y p::es) (C::cs) :=
 (bh (rh hg hm hd) hr.h hs,λc g=>(ot.mp g).elim (λz=>z▸(bm,ini,q)) (hr.c c),by simp[hr.l])
def KN{σ:St}{R:List V->Hp->Prop}:∀{cs:List J},R (cs.map V.ref) H->tCs cs σ H R:=by
 intro cs
 induction cs generalizing R with
 |nil=>exact λh=>h
 |cons c r g=>exact λh=>g (R:=λvs H1=>R (V.ref c::vs) H1) h
theorem A3(c:bX K fn C bm ini):∀{cs:List J},(∀x∈cs,∃bm ini,bX K fn x bm ini)->W.kitAny K (.ref C) (cs.map B.ref)=Z (cs.any λx=>(B.ref C::bm).contains (.ref x)):=by
 intro cs
 induction cs with
 |nil=>exact λ_=>rfl
 |cons x r g =>
  intro h;let(bm',wM,z):=h x lD;show(match W.kitOne K (.ref C) (.ref x)with|some O=>Z O|some ϊ=>W.kitAny K (.ref C) (r.map B.ref)|none=>Y)=_
  rw[Cu c z,WB];cases e:(B.ref C::bm).contains (.ref x)with
  |true=>rfl
  |false=>exact g λy q=>h y (g5 _ q)
def DA:∀{cs:List J}{us:List B},Vals (cs.map V.ref) us->us=cs.map B.ref:=by
 intro cs
 induction cs with
 |nil=>intro us r;cases r;rfl
 |cons c r g =>
  intro us h;cases h with
  |cons h1 h2=>rw[fR h1,g h2];rfl
def GR(K:BT)(fn:List Str)(cs:List J):List V->Hp->VK->Prop:=λxs H Q=>∃a C b fs bm ini tp,xs=[.ref a,.ref tp]/\ExH H a C b fs/\bX K fn C bm ini/\H tp=Z (.tup (cs.map V.ref))/\(∀c∈cs,∃bm ini,bX K fn c bm ini)/\Q (.bl (cs.any λx=>(B.ref C::bm).contains (.ref x))) H
theorem E7:bY X (.builtin "isinstance") (GR X.K fn cs):=by
 intro gd s σ H xs us Q I r h;let(a,C,b,fs,bm,ini,tp,U,ex,g,ht,hc,q):=h;cases r with
 |cons h1 V =>
  cases V with
  |cons h2 P =>
   cases P
   cases(fR h1)
   cases(fR h2)
   let(_,its,hv,hi):=I.hok tp _ ht;have e:=DA hv;subst e;let(((oc,od,ak,osl),h3,h4,n,h5),_):=hi;cases h4;cases h5;exact W.kia_tup (yC g) I.kIn (ex.cls I.hok) h3 (A3 g hc) (λz=>nomatch z) λtk=>(.bl _,H,I.tok tk,U,q)
def NV(K:BT)(fn:List Str)(cs:List J)(qe:QE):QE:=λq Q=>qe q λt=>match t with
 |.xc C _ _=>∃bm ini,bX K fn C bm ini/\Q (.b (cs.any λx=>(B.ref C::bm).contains (.ref x)))
 |_=>False
def Gk(hc:∀c∈cs,∃bm ini,bX K fn c bm ini)(hl:cs.length<=1000)(h:fY K te qe):gH K (tCB (GR K fn cs) (bL te (bL (FQ (tCs cs)) fg))) (NV K fn cs qe):=by
 intro dl H σ q Q R rd hq k;refine h dl H σ q _ _ rd hq λv t F H1 P r1 g=>?_
 split at g
 ·let(bm,ini,cx,g):=g;refine KN (sV (aD (by rw[dN];exact hl)),λp hp=>?_)
  have ev:=(Evo.refl P.d).new (o:=.tup (cs.map V.ref)) hp;have r2:=r1.evo P.d ev;let(a,b,vs,U,U,ex,rs):=r2.r.exc;exact(a,_,b,_,bm,ini,p,U,ex,cx,au,hc,k _ _ [] _ (P.trans ev) (.b _,λ_ z=>nomatch z) (λ_ z=>nomatch z) n6 g)
 ·exact g.elim
def LD{g}(Q:X.K=K)(hg:Gl X "isinstance")(hm:X.mg "isinstance"=Y)(P:PCs X K fn es cs)(h:QPE X K e te qe)(hl:cs.length<=1000:=by simp)
  (he:‹m4 [e,.Tuple es g p2] X.env=(ϊ,eval e X.env)::m4 [.Tuple es g p2] X.env›) (z:‹m4 [.Tuple es g p2] X.env=(ϊ,eval (.Tuple es g p2) X.env)::m4 [] X.env›) (q:‹(backTo pos (m4 [.Tuple es g p2] X.env)).any (·.1)=false›):
  QPF X K (.Call (.Name "isinstance" p) [e,.Tuple es g p2] [] pos) (tCB (GR K fn cs) (bL te (bL (FQ (tCs cs)) fg))) (NV K fn cs qe):=by
 subst Q;exact(gQ E7 hg hm U (bh h.h (bh (Az P.h) cJ z) he) (by decide) (by decide) he q,Gk P.c hl h.s)
end
def Dep:Nat->T->Prop
 | 0,t=>(∃x,t=.s x)\/∃x,t=.i x
 |n+1,t=>(∃x,t=.s x)\/(∃x,t=.i x)\/∃ts,t=.t ts/\∀x∈ts,Dep n x
theorem Dep.s:Dep n (.s x):=by cases n <;> exact .inl (x,U)
theorem Dep.i{x:Int}:Dep n (.i x):=by
 cases n
 ·exact .inr (x,U)
 ·exact .inr (.inl (x,U))
theorem Dep.t{ts:List T}(h:∀x∈ts,Dep n x):Dep (n+1) (.t ts):=.inr (.inr (ts,U,h))
def Dep.mono{m:Nat}{t:T}(h:Dep n t)(hm:n<=m):Dep m t:=by
 induction n generalizing m t with
 |zero =>
  obtain⟨x,rfl⟩|⟨x,rfl⟩:=h
  ·exact Dep.s
  ·exact Dep.i
 |succ n g =>
  obtain⟨x,rfl⟩|⟨x,rfl⟩|⟨ts,rfl,h⟩:=h
  ·exact Dep.s
  ·exact Dep.i
  ·obtain⟨k,rfl⟩:∃k,m=k+1:=(m - 1,by lia)
   exact Dep.t λx hx=>g (h x hx) (by lia)
variable{N':List Str}{sc:Scope}{fp:List J}
section
variable{X:Cx}{K:BT}{a b:Ev}{es:List Ev}{te ta tb:TE}{qe qa qb:QE}{tl:TA}{ql:QA}{pos p:Pos}{k k':Nat}{f:J}
structure Dn(K:BT)(mg:Str->Option B)(x:Str)(st:EQ)(f:J)(fd:Ch)(ps:List Str):Prop where
 F:Fun K x x st f fd
 m:mg x=Z (.ref f)
 b:Binds K fd ps []
def aK{ps:PSp}(F:bf X.prog X.w X.K X.mg X.base CX0 k f fd prs (spQ K ps))(hr:cK k' X.A)(D:Dn X.K X.mg x st f fd prs)(ha:QPA X K (e::es) tl ql)(hk:k<=k':=by first|decide|omega)(hg:Gl X x:=by exact U)
  (q:autoParam (AS x) zdc._auto_1) (he:‹AC X e es›) (g:‹AM X pos es›):
  QPF X K (.Call (.Name x p) (e::es) [] pos) (BP (spQ K ps) [] E0 tl) (fS ps ql):=LJ F (hr.mono hk) hg D.m D.F.kp D.b ha q he g
def U7{ps:JT}(F:bf X.prog X.w X.K X.mg X.base (CX1 X.prog X.w) k f fd prs (DK K ps))(hr:cK k' X.A)(D:Dn X.K X.mg x st f fd prs)(ha:QPA X K (e::es) tl ql)(hk:k<=k':=by first|decide|omega)(hg:Gl X x:=by exact U)
  (z:autoParam (AS x) zdc._auto_1) (he:‹AC X e es›) (g:‹AM X pos es›):
  QPX X K (.Call (.Name x p) (e::es) [] pos) (λEs=>zZ (DK K ps) Es tl) (λq Q W=>ql q λts=>ps ts Q W):=Lr F (hr.mono hk) hg D.m D.F.kp D.b ha z he g
def ax:QPA X K [] fg cA:=xn.w ai
def ah{i j}:QPE X K (.Constant (.int i) j pos) (tC (.int i)) (qC (.i i)):=Za bp
def bG(hm:X.mg "len"=Y)(ha:QPA X K (e::es) tl ql)(hg:Gl X "len":=by exact U)(q:X.K=K:=by exact U)
  (he:‹AC X e es›) (g:‹AM X pos es›):QPF X K (.Call (.Name "len" p) (e::es) [] pos) (tCB (GO K) tl) (qCB Aq ql):=dX (E6 q) Lb hg hm (by kernel_rfl) ha (by decide) (by decide) he g
def az(i:Nat)(g:X.N.Nodup)(he:QPF X K e te qe)(hi:‹X.N[i]?=Z x›)(hx:Loc X.env.scope x:=by first|exact .inl rfl|exact .inr U)(hs:‹swapsWith e (Z (.Name x pos')) pos.line X.env=pure false›)(hf:AT X x:=by first|exact .inl rfl|exact .inr rfl|assumption):
  QPS X K (.Assign [.Name x pos'] e pos) (ja te (fW i)) (qW i qe):=Pu g hi hx he hs hf
def bu(i:Nat)(g:X.N.Nodup)(hi:‹X.N[i]?=Z x›)(hx:Loc X.env.scope x:=by first|exact .inl rfl|exact .inr U)(hf:AT X x:=by first|exact .inl rfl|exact .inr rfl|assumption):PG X (.Name x pos) (fW i):=l5 g hi hx hf
def du{cl:List (Str×J)}{s₂:ϋ}{H₂:Hp}(i:Nat)(g:N'.Nodup:=by decide +kernel)(hi:‹N'[i]?=Z x›)(hx:Loc (blk X N' sc cl C s₂ H₂ fp).env.scope x:=by first|exact .inl rfl|exact .inr U)(hf:‹(blk X N' sc cl C s₂ H₂ fp).env.scope.names.lookup x=Z .local›):PG (blk X N' sc cl C s₂ H₂ fp) (.Name x pos) (fW i):=l5 (X:=blk X N' sc cl C s₂ H₂ fp) g hi hx (.inr hf)
def dH{q g:Str}{t1 t2:TG}{j:Nat}(h1:PG X (.Name q p1) t1)(h2:PG X (.Name g p2) t2)(Q:X.K=K:=by exact U)(P:X.calm=true:=by exact U)
  (hn:‹(assignEach [.Name q p1,.Name g p2] X.env).length=2›) (z:‹(assignEach [.Name q p1,.Name g p2] X.env).findIdx? (·.1)=none›):PG X (.Tuple [.Name q p1,.Name g p2] j pos) (M6 K 2 (CG t1 (CG t2 Rx))):=pR Q P (cV h1 (cV h2 pQ)) hn z
def bw(g:X.A.units+1<cLine)(ha:QPE X K a ta qa)(q:QPE X K b tb qb)(z:X.K=K:=by exact U):QPT X K (.Compare a [.Eq] [b] pos) (BN (tOp (Pp K) ta tb)) (oq (qOp Ar qa qb)):=bM (wz g z) pE (bA _) ha q
def uK(ha:QPE X K a ta qa)(g:QPE X K b tb qb):=bM (pos:=pos) Tz (kG (K:=K) (g':=λi j=>.b (decide (i<j))) λ_ _ _ _=>.b _) (bA _) ha g
def NP(ha:QPE X K a ta qa)(g:QPE X K b tb qb):=bM (pos:=pos) yj (kG (K:=K) (g':=λi j=>.b (decide (j<i))) λ_ _ _ _=>.b _) (bA _) ha g
end
abbrev NI(K:BT)(x:Str)(f:J):Prop:=W.nsIn K mainGlobals x=Z (Z (.ref f))
abbrev LK(K:BT)(f:J)(x q:Str)(st:EQ)(oc:B)(od:Option J)(kV dc pm:B)(an:Option J)(cd ct:B)(sl:Array (Option B)):Prop:=K.lookup f=Z (oc,od,.func (W.fnOf x q (dE st) (bP st) (aw st) .none kV dc pm an cd ct),sl)
abbrev CI(K:BT)(cd:B)(x:Str):Prop:=W.codeIn K cd x=O
abbrev KI(K:BT)(f:J):Prop:=W.keepIn K (.ref f)=O
variable{p4:Str}
section
variable{K:BT}{q:Str}{f:J}{oc kV dc pm cd ct:B}{od an:Option J}{sl:Array (Option B)}
abbrev NB(K:BT)(x:Str):Prop:=W.nsIn K mainGlobals x=Z Y
inductive DY(K:BT)(x:Str)(st:EQ)(f:J):Prop
 |mk(n:NI K x f)(fd:Ch)(F:Fun K x x st f fd)
inductive DM(K:BT)(C:J)(x q:Str)(st:EQ)(f:J):Prop
 |mk(M:Meth K C x f)(fd:Ch)(F:Fun K x q st f fd)
def DY.of(n:NI K x f)(l:LK K f x x st oc od kV dc pm an cd ct sl)(c:CI K cd x)(k:KI K f):DY K x st f:=(n,_,lg l c k)
theorem DM.of(m:W.findIn K (.ref C) x=Z (Z (.ref f)))(l:LK K f x q st oc od kV dc pm an cd ct sl)(c:CI K cd q)(k:KI K f)(i:W.isFn K (.ref f)=O):DM K C x q st f:=((m,i,k),_,lg l c k)
theorem Fun.b1{p1:Str}(F:Fun K x q st f fd)(g:∀kV dc pm an cd ct u1,bindArgs (W.fnOf x q (dE st) (bP st) (aw st) .none kV dc pm an cd ct) ([u1],[])=pure [(p1,u1)]:=by intros;rfl):Binds K fd [p1] []:=F.binds λkV dc pm an cd ct us hl=>TX (P:=λus=>bindArgs _ (us,[])=pure (XZ _ us)) (g kV dc pm an cd ct) us hl
theorem Fun.b2{p1 p2:Str}(F:Fun K x q st f fd)(g:∀kV dc pm an cd ct u1 u2,bindArgs (W.fnOf x q (dE st) (bP st) (aw st) .none kV dc pm an cd ct) ([u1,u2],[])=pure [(p1,u1),(p2,u2)]:=by intros;rfl):Binds K fd [p1,p2] []:=F.binds λkV dc pm an cd ct us hl=>TV (P:=λus=>bindArgs _ (us,[])=pure (XZ _ us)) (g kV dc pm an cd ct) us hl
theorem Fun.b3{p1 p2 p3:Str}(F:Fun K x q st f fd)(z:∀kV dc pm an cd ct u1 u2 g,bindArgs (W.fnOf x q (dE st) (bP st) (aw st) .none kV dc pm an cd ct) ([u1,u2,g],[])=pure [(p1,u1),(p2,u2),(p3,g)]:=by intros;rfl):Binds K fd [p1,p2,p3] []:=F.binds λkV dc pm an cd ct us hl=>TU (P:=λus=>bindArgs _ (us,[])=pure (XZ _ us)) (z kV dc pm an cd ct) us hl
theorem Fun.b4{p1 p2 p3:Str}(F:Fun K x q st f fd)(Q:∀kV dc pm an cd ct u1 u2 z g,bindArgs (W.fnOf x q (dE st) (bP st) (aw st) .none kV dc pm an cd ct) ([u1,u2,z,g],[])=pure [(p1,u1),(p2,u2),(p3,z),(p4,g)]:=by intros;rfl):Binds K fd [p1,p2,p3,p4] []:=F.binds λkV dc pm an cd ct us hl=>TR (P:=λus=>bindArgs _ (us,[])=pure (XZ _ us)) (Q kV dc pm an cd ct) us hl
theorem Fun.b5{p1 p2 p3 V:Str}(F:Fun K x q st f fd)(hb:∀kV dc pm an cd ct u1 u2 Q z g,bindArgs (W.fnOf x q (dE st) (bP st) (aw st) .none kV dc pm an cd ct) ([u1,u2,Q,z,g],[])=pure [(p1,u1),(p2,u2),(p3,Q),(p4,z),(V,g)]:=by intros;rfl):Binds K fd [p1,p2,p3,p4,V] []:=F.binds λkV dc pm an cd ct us hl=>TQ (P:=λus=>bindArgs _ (us,[])=pure (XZ _ us)) (hb kV dc pm an cd ct) us hl
end
def ItV(v d:J)(h:Do):Prop:=h.IsItemsView v d
inductive Am(x:V)(vs:List V)(H:Hp)(Q:VK):Prop
 |mk(d kvs:_)(h1:x=.ref d)(h2:vs=[])(h3:Rd H d (.dK kvs))(h4:∀v,H v=Y->v≠d->Q (.ref v) (upd H v (.ext (ItV v d))))
section
variable{X:Cx}{o:Ev}{to:TE}{p apos aS:Pos}
theorem Rd.lt{w:Cl}{h:Do}{u:HO}(r:Rd H a u)(x:HOk P w H h):a<h.objs.size:=(r.ok x).lt
def Iy:MtR X "dict.items" Am:=by
 intro gd s σ H x vs v us Q I P V h;let(d,kvs,U,U,hd,q):=h;cases P;have g:=V.zero;subst g;let(z,hS,ws,r,dd):=iY I.hok hd;have lt:=Rd.lt hd I.hok;refine call_meetsIn PySem.F.slot_dict_items dd.typeIs PySem.F.entry_dict_items (PySem.F.args_dict_items_1 _) (meets_dict_items (bq X.prog X.w) d hS) ((ws,dd),?_);have K:(s.heap.push {cls:=.type "dict_items",data:=.fields #[.ref d]}).get? s.heap.objs.size=Z {cls:=.type "dict_items",data:=.fields #[.ref d]}:=px s.heap U;have I1:=I.laid (a:=s.heap.objs.size) (o:=.ext (ItV s.heap.objs.size d)) (h':=s.heap.push {cls:=.type "dict_items",data:=.fields #[.ref d]}) (t':=s.toks) (λb u e=>ft _ e) (nY _)
  ((_,K,U,U),(_,K),λh1 h2 x k=>by let(o,ho,c):=x;exact(o,k o ho,c))
 exact(.ref s.heap.objs.size,_,I1,U,q _ (I.hok.fresh (nY _)) (zj lt))
def FU(to:TE):TE:=λσ H Q=>to σ H λx H1=>Am x [] H1 Q
def HR(ho:PE X o to)(cE:‹attributeBase o "items" X.env (eval o X.env)=eval o X.env›)(cD:‹(apos.endLine==aS.line)=true›):PE X (.Call (.Attribute o "items" apos) [] [] aS) (FU to):=by
 left;refine wpAny_Call_method0_late cE cD (thn (ho gd s σ H _ I h) λv s1 g=>?_)
 let(x,H1,P,V,K):=g;let(d,kvs,U,e,hd,q):=id K;cases V;let(z,hS,ws,r,dd):=iY P.hok hd;exact("dict","dict.items",PySem.F.plainAttrs_dict,PySem.F.slot_dict_items,PySem.F.type_dict_items,dd.typeIs,dd.mapOf.noDict,Calls.callWith_builtin U (PySem.evalArgs_none (Iy gd s1 σ H1 (.ref d) [] (.ref d) [] Q P U .nil K)))
def kT:Key->T
 |.inl i=>.i i
 |.inr x=>.s x
def NZ(p:Key×T):T:=.t [kT p.1,p.2]
end
section
variable{X:Cx}{K:BT}{a b:Ev}{ta:TE}{qa:QE}{pos p:Pos}
def UQ(qa:QE):QJ:=λq Q=>qa q λt=>match t with|.l xs=>Q (g8 xs) q|_=>False
def qS{x1}(hm:X.mg "enumerate"=Y)(ha:QPF X K a ta qa)(hg:Gl X "enumerate":=by exact U)(hs:‹AD X a›)(ak:‹AC X a []›)(hK:‹X.K=K›):
  QPJ X K (.Tuple elts x1 pos') (.Call (.Name "enumerate" p) [a] [] pos) (rT K ϊ (bL ta fg)) (UQ qa):=(jw hK hg hm (by kernel_rfl) (bh ha.h cJ ak) hs,λdl H₀ hs H σ q Q R (F0,P) hq k=>ha.s dl H σ q _ _ P.rd hq λv t F H' e1 r f n V=>by
 split at V
 ·have r1:=(P.evo e1).hold r λj u hj b hb z=>(P.gx hb).no (f b z)
  let(l1,g,G,U,U,h1,h2):=r.r.lst;exact(l1,U,(g,SqL.of h1),k _ _ _ H' q (F0,r1) mx V)
 ·exact V.elim)
end
end L2
namespace PySem
open Sem (wp)
end PySem
namespace L2
open PySem PySem.Spec PyProof.Rows
def ml:List T->Option (List Key)
 |[]=>Z []
 |x::r=>match x.key,ml r with
  |some k,Z ks=>Z (k::ks)
  |_,_=>Y
theorem ay.IP{K:BT}{dl:Dl}{H:Hp}:∀{xs:List T}{vs:List V}{F:List J}{ks:List Key},ay K dl H vs xs F->ml xs=Z ks->vs=ks.map kV
 |[],_,_,_,h,e=>by cases h;cases e;rfl
 |x::r,_,_,_,h,e=>by
  cases h with
  |cons h1 h2 =>
   unfold ml at e
   split at e
   ·next k ks q g =>
    cases e;rw[h1.key q,ay.IP h2 g];rfl
   ·cases e
end L2
namespace PySem
open Sem (wp)
section
variable{prog:Da}{w:Cl}{A:Db}{E:B->ϋ->Prop}{s:ϋ}
def nT{id:String}{b:Builtin}{args:List B}{kw:List (Str×B)}{Q:B->ϋ->Prop}(hk:builtinKind id=Y)(hp:plainId id=O)(z:entryFor table id=Z b)(ha:argsOk id (args,kw))
  (g:wpAny (model prog w) A.in1 (b (args,kw)) (λfin s'=>match fin with
   |.done f=>(match(Except.ok f:Result)with|.ok (.ret v)=>Q v s' |.ok _=>False|.error e=>E e s')
   |.again q=>q.quiet=O/\codeAny (model prog w) A q (λr s'=>match r with|.ok (.ret v)=>Q v s' |.ok _=>False|.error e=>E e s') s') E s):
  wpAny (model prog w) A (call (.builtin id) args kw) Q E s:=by
 refine wpAny_call (codeAny_call_builtin hp z ?_);simp only[checkBuiltinCall,hk];cases K:Manifest.signature? id with
 |none=>exact kq g
 |some sig =>
  simp only[argsOk,K]at ha;have h2:=ha;show wpAny _ A.in1 (Bind.checkArgs id sig (args,kw)) _ _ s;rw[h2];exact kq g
end
end PySem
namespace L2
open PySem PySem.Spec PyProof.Rows
variable{dl:Dl}{H:Hp}{ns:List Int}
section
variable{K:BT}{e:Ev}
theorem fN:∀{ns:List Int}{its:List B},Vals (ns.map V.int) its->∀(i:Nat)(v:B),its[i]?=Z v->∃t,v=.int (ns.getD i 0) t
 |[],_,h,i,v,e=>by cases h;simp at e
 |n::r,_,h,i,v,e=>by
  cases h with
  |cons h1 h2 =>
   cases i with
   |zero =>
    simp at e;let(t,g):=h1;exact(t,by rw[<- e,g];rfl)
   |succ i =>
    let(t,g):=fN h2 i v (by simpa using e)
    exact(t,by rw[g];rfl)
def ay.Od{vs:List V}{F:List J}(h:ay K dl H vs (ns.map T.i) F):vs=ns.map V.int/\F=[]:=by
 let(U,U):=h.vs (by unfold fls;rw[XN,R4];exact λ_ _=>rfl)
 exact(by rw[uk];rfl,U)
end
namespace TM
open Sem (wp)
open Builtin
def eJ:fillsNumberSlot (.type "tuple") "mul"=pure false :=
 PySem.fillsNumberSlot_seq (id:="tuple.__mul__") (r:=Z (.builtin "tuple.__rmul__")) PySem.F.slot_tuple_mul.lookup (by decide +kernel) PySem.F.slot_tuple_rmul.lookup (by decide +kernel)
def ix:seqRepeat? (.type "tuple")=pure (Z (.builtin "tuple.__mul__")):=by
 unfold seqRepeat?;rw[PySem.seqSlot_of (T:="tuple") (name:="__mul__") (id:="tuple.__mul__") PySem.F.slot_tuple_mul.lookup (by decide +kernel),PySem.seqSlot_of (T:="tuple") (name:="__rmul__") (id:="tuple.__rmul__") PySem.F.slot_tuple_rmul.lookup (by decide +kernel)]
 rfl
def kN(a:Int)(t:Tok)(l:J)(items:Array B)(n:Nat)(d:Option J)(sl:Array (Option B)):
  Meets (Builtin.«int.__rmul__» ([.int a t,.ref l],[])) (λ_ R s=>s.heap.get? l=Z {cls:=.type "tuple",dict:=d,data:=.seq items n,slots:=sl}/\R (.ok (.ret B.notImplemented)) s) :=
 .of_wp λprog w A R s h=>by let(hp,g,d,tk,os):=s;let(hl,h):=h;wp_walk;exact(_,U,h)
def Vp(l:J)(items:Array B)(n:Nat)(d:Option J)(sl:Array (Option B))(u:Tok)(hi:items.isEmpty=ϊ):
  Meets (Builtin.«tuple.__mul__» ([.ref l,.int 0 u],[])) (λ_ R s=>s.heap.get? l=Z {cls:=.type "tuple",dict:=d,data:=.seq items n,slots:=sl}/\R (.ok (.ret (B.ref s.heap.objs.size))) {s with heap:=s.heap.push {cls:=B.type "tuple",data:=Data.seq #[]}}) :=
 .of_wp λprog w A R s h=>by
  let(hp,g,d,tk,os):=s;let(hl,h):=h;unfold Builtin.«tuple.__mul__»
  wp_walk
  exact(_,U,h)
def Vo(l:J)(items:Array B)(n:Nat)(d:Option J)(sl:Array (Option B))(u:Tok):
  Meets (Builtin.«tuple.__mul__» ([.ref l,.int 1 u],[])) (λ_ R s=>s.heap.get? l=Z {cls:=.type "tuple",dict:=d,data:=.seq items n,slots:=sl}/\R (.ok (.ret (B.ref l))) s) :=
 .of_wp λprog w A R s h=>by
  let(hp,g,d,tk,os):=s;let(hl,h):=h;unfold Builtin.«tuple.__mul__»
  wp_walk
  exact(_,U,h)
end TM
end L2
namespace PySem
open AutoSeq1 (wpAny_loadPart')
open MeetsSeq MeetsSeq2 MeetsSeq3
end PySem
namespace L2
open PySem PySem.Spec PyProof.Rows
variable{elts:List Ev}{pos':Pos}{tl:TA}{ql:QA}
section
variable{X:Cx}{K:BT}{a:Ev}{pos:Pos}
def UO(ql:QA):QI:=λq Q=>ql q λts=>match ts with|[.l xs]=>Q (g8 xs)|_=>False
def G7{V}{p:Pos}(hg:Gl X "enumerate")(hm:X.mg "enumerate"=Y)(jG:bootBuiltins "enumerate"=Z (.type "enumerate"))(ha:QPA X K [a] tl ql)(hs:‹AD X a›)(hK:‹X.K=K›):
  QPI X K (.Tuple elts V pos') (.Call (.Name "enumerate" p) [a] [] pos) (rT K ϊ tl) (UO ql):=(jw hK hg hm jG ha.h hs,λdl H σ q Q R rd hq k=>ha.s dl H σ q _ _ rd hq λvs ts F H' e1 r _ z=>by
 split at z
 ·let(v,U,P):=r.one;let(l1,g,G,U,_,h1,h2):=P.r.lst;exact(l1,U,(g,SqL.of h1),k _ _ _ H' e1 mx (λp hp=>by rw[fy.mp hp];exact(_,P)) z)
 ·exact z.elim)
end
end L2
namespace PySem
open Sem (wp)
section
variable{prog:Da}{w:Cl}{A:Db}{R:Result->ϋ->Prop}{I:J}{fp wr:List J}{n:Nat}{P:Nat->B->Prop}{St:Nat->Do->Prop}{κ:Type}[DecidableEq κ]{knd:KeyKind prog w κ}
def cO(xs more:List (List κ×J×B)):List (List κ×J×B):=more.foldl (λacc p=>storedH acc p.1 p.2.1 p.2.2) xs
def qD(xs:List (List κ×J×B))(k:List κ)(a:J)(v:B):(storedH xs k a v).length<=xs.length+1:=by
 unfold storedH
 split <;> simp
def rH(more:List (List κ×J×B)):∀(xs:List (List κ×J×B)),(cO xs more).length<=xs.length+more.length:=by
 induction more with
 |nil=>intro xs;exact nY _
 |cons p r g =>
  intro xs;have h1:=g (storedH xs p.1 p.2.1 p.2.2);have h2:=qD xs p.1 p.2.1 p.2.2;show(cO (storedH xs p.1 p.2.1 p.2.2) r).length<=_;simp only[qf]
  lia
def wG(xs more:List (List κ×J×B))(p:List κ×J×B):cO xs (more ++ [p])=storedH (cO xs more) p.1 p.2.1 p.2.2:=by
 unfold cO;rw[Xv];rfl
def nk{h h':Do}{ks:List κ}{b:J}(x:(tupleKind knd).is h ks b)(k:∀o,h.get? b=Z o->h'.get? b=Z o):(tupleKind knd).is h' ks b:=by
 let(o,its,m,h1,r):=x;exact(o,its,m,k o h1,r)
def Heap.DictOfH.at{h h':Do}{S:J}{xs:List (List κ×J×B)}(x:h.DictOfH (tupleKind knd) S xs)(k:∀o,h.get? S=Z o->h'.get? S=Z o)(q:∀z∈xs,∀o,h.get? z.2.1=Z o->h'.get? z.2.1=Z o):h'.DictOfH (tupleKind knd) S xs:=by
 let(o,es,K,h1,h2,h3,h4,h5,h6):=x;exact(o,es,K,k o h1,h2,h3,h4,λz g=>nk (h5 z g) (q z g),h6)
def mem_storedH{xs:List (List κ×J×B)}{k:List κ}{a:J}{v:B}{z:List κ×J×B}(h:z∈storedH xs k a v):z.2.1=a\/∃y∈xs,y.2.1=z.2.1:=by
 unfold storedH at h
 split at h
 ·let(y,q,U):=oG.mp h;refine .inr (y,q,?_);unfold putAt
  split <;> rfl
 ·obtain g|g:=nZ.mp h
  ·exact .inr (z,g,U)
  ·rw[fy.mp g];exact .inl U
def yw{more:List (List κ×J×B)}:∀{xs:List (List κ×J×B)}{z:List κ×J×B},z∈cO xs more->(∃y∈xs,y.2.1=z.2.1)\/∃y∈more,y.2.1=z.2.1:=by
 induction more with
 |nil=>intro xs z h;exact .inl (z,h,U)
 |cons p r K =>
  intro xs z h;obtain⟨y,g,e⟩|⟨y,g,e⟩:=K (xs:=storedH xs p.1 p.2.1 p.2.2) h
  ·obtain q |⟨u,P,q⟩:=mem_storedH g
   ·exact .inr (p,lD,by rw[<- e,q])
   ·exact .inl (u,P,by rw[q,e])
  ·exact .inr (y,g5 _ g,e)
theorem f9(hu:A.units+3<cLine)(W:Walks prog w A.in1 I fp wr n P St)(S:J)(a0:S ∉ fp)(res:B)(h0:Do)(pairs:List (List κ×J×B))(hsz:pairs.length<=pq)(a8:pairs.length=n)
  (ar:∀z∈pairs,(tupleKind knd).is h0 z.1 z.2.1/\z.2.1 ∉ wr/\z.2.1≠S)
  (hp:∀i v,P i v->∃(a b:J)(o:Obj)(val:B)(k:List κ)(m:Nat),v=.ref a/\pairs[i]?=Z (k,b,val)/\h0.get? a=Z o/\o.cls=.type "tuple" /\ o.data=.seq #[.ref b,val] m/\a ∉ wr/\a≠S):
  ∀(j i:Nat)(s:ϋ),n - i=j->i<=n->St i s.heap->s.heap.DictOfH (tupleKind knd) S (cO [] (pairs.take i))->(∀b o,b ∉ wr->b≠S->h0.get? b=Z o->s.heap.get? b=Z o) ->
  (∀h' tk,(∀b o,b ∉ wr->b≠S->s.heap.get? b=Z o->h'.get? b=Z o)->h'.DictOfH (tupleKind knd) S (cO [] pairs)->R (.ok (.ret res)) {s with heap:=h',toks:=tk}) ->
  codeAny (model prog w) A (.builtin "dict.update.loop" ([.ref S,.ref I,rawInt i,res],[])) R s:=by
 have aT:=λh=>a0 (W.sub _ h)
 have sub:∀{i:Nat}{z:List κ×J×B},z∈cO [] (pairs.take i)->z.2.1 ∉ wr/\z.2.1≠S:=λ{i z} h=>by
  obtain⟨y,hy,_⟩|⟨y,hy,e⟩:=yw h
  ·cases hy
  ·rw[<- e];exact(ar y (RV hy)).2
 intro j
 induction j with
 |zero =>
  intro i s hk hi ak hS Q hR;have bt:i=n:=by lia
  subst bt;refine Uw F.bO ?_;rw[Xh F.aM _];refine cZ (W.done s _ _ ak λh' tk g=>?_)
  refine cZ (kq (kq (hR h' tk (λb o K _ e=>g b o K e) ?_)))
  have hS:=hS.at (λo=>g S o aT) λz V o=>g _ o (sub V).1
  rw[<- a8,rr]at hS;exact hS
 |succ j ih =>
  intro i s hk hi ak hS Q hR;have aP:=WN hk;refine Uw F.bO ?_;refine cZ (W.item i s _ _ aP ak λv h' tk hP uo g=>?_)
  let(a,b,o,val,k,m,U,aA,ho,hc,hd,aS,bC):=hp i v hP;have aN:=g a o aS (Q a o aS bC ho);have bI:=hS.at (λo=>g S o aT) λz V o=>g _ o (sub V).1
  have V:=ar _ (mu aA);have Bh:(tupleKind knd).is h' k b:=nk V.1 λo e=>g b o V.2.1 (Q b o V.2.1 V.2.2 e)
  refine cZ (BI (cZ (wpAny_tryCatch ?_)));refine cZ (VD (o,aN,hc) ?_);refine cZ (wpAny_seqItems aN hd (kq ?_));have bb:(cO [] (pairs.take i)).length<=pq:=by
   have h1:=rH (pairs.take i) [];rw[qp,Wv]at h1;omega
  refine BI (wpAny_dictSet_heap (hsz:=bb) ?_ Bh bI λbV Bk a7=>?_)
  ·rw[Xh F.aM _];exact tupleKind_room_in1 (by omega)
  have e:cO [] (pairs.take (i+1))=storedH (cO [] (pairs.take i)) k b val:=by
   rw[ro,aA];exact wG _ _ _
  rw[<- e]at Bk;have fr:∀b o,b≠S->h'.get? b=Z o->bV.get? b=Z o:=λb o K eb=>(a7.2 b K).trans eb
  exact kq (R3 F.aM _,ih (i+1) _ (by rw[Xm,hk];rfl) aP (W.frame _ _ _ uo λb K o eb=>fr b o (λz=>a0 (z▸K)) eb) Bk (λb o K q eb=>fr b o q (g b o K (Q b o K q eb))) λh3 a3 bj bE=>(hR h3 a3 (λb o K q eb=>bj b o K q (fr b o q (g b o K eb))) bE))
theorem lJ{E:B->ϋ->Prop}{s:ϋ}{S p:J}{its:Array B}{pairs:List (List κ×J×B)}{id:String}{res:B}(hu:A.units+3<cLine)(hh:A.handled=Y)(hS:s.heap.DictOfH (tupleKind knd) S [])(aA:p≠S)
  (ho:∃(o:Obj)(n:Nat),s.heap.get? p=Z o/\o.dict=Y/\o.data=.seq its n/\(o.cls=.type "tuple" \/ o.cls=.type "list")) (hsz:pairs.length<=pq) (aN:pairs.length=its.size)
  (Q:∀z∈pairs,(tupleKind knd).is s.heap z.1 z.2.1)
  (hp:∀(i:Nat)(v:B),its[i]?=Z v->∃(a b:J)(o:Obj)(val:B)(k:List κ)(m:Nat),v=.ref a/\pairs[i]?=Z (k,b,val)/\s.heap.get? a=Z o/\o.cls=.type "tuple" /\ o.data=.seq #[.ref b,val] m)
  (hR:∀h' tk,(∀b o,b≠S->s.heap.get? b=Z o->h'.get? b=Z o)->h'.DictOfH (tupleKind knd) S (cO [] pairs)->R (.ok (.ret res)) {s with heap:=h',toks:=tk}):
  wpAny (model prog w) A.in1 (Builtin.Dict.updateFrom id S (.ref p) [] res) (λfin s'=>match fin with|.done f=>R (.ok f) s' |.again c'=>c'.quiet=O/\codeAny (model prog w) A c' R s') (λe s'=>R (.error e) s') s:=by
 let(o,n,hg,V,K,g):=ho;have P:∀{a:J}{oa:Obj}{m:Nat}{us:Array B},s.heap.get? a=Z oa->oa.data=.seq us m->a≠S:=λ{a oa m us} e4 e6 z=>by
  let(o,_,_,e,hc,hd,_):=hS;rw[<- z,e4]at e;cases e;rw[e6]at hd;cases hd
 have fin:∀(h1:Do) tk h2 I St,(∀b o,s.heap.get? b=Z o->h1.get? b=Z o)->(∀b o,h1.get? b=Z o->h2.get? b=Z o)->h1.objs.size<=I->Walks prog w A.in1 I [I,p] [I] its.size (λi v=>its[i]?=Z v) St->St 0 h2 ->
   codeAny (model prog w) A (.builtin "dict.update.loop" ([.ref S,.ref I,rawInt 0,res],[])) R {s with heap:=h2,toks:=tk}:=by
  intro h1 tk h2 I St k1 k2 hI W ar;have q:∀b o,s.heap.get? b=Z o->b≠I:=λb o e z=>by
   have:=jR (k1 b o e)
   exact absurd (rE this hI) (by rw[z];exact BH _)
  have aP:S ∉ [I,p]:=λz=>by
   let(o,_,_,e,_):=hS;obtain z|z:=ot.mp z
   ·exact q S o e z
   ·exact aA (fy.mp z).symm
  refine f9 (knd:=knd) hu W S aP res s.heap pairs hsz aN (λz hz=>?_) (λi v hP=>?_) its.size 0 _ U (wh _) ar ?_ (λb o _ _ e=>k2 b o (k1 b o e)) λh' ak hk aS=>?_
  ·have hk:=Q z hz;let(oz,iz,mz,e1,e2,e3,_):=hk;exact(Q z hz,λy=>q _ oz e1 (fy.mp y),P e1 e3)
  ·let(a,b,oa,val,k,m,e1,e2,e4,e5,e6):=hp i v hP;exact(a,b,oa,val,k,m,e1,e2,e4,e5,e6,λz=>q a oa e4 (fy.mp z),P e4 e6)
  ·exact hS.at (λo e=>k2 _ _ (k1 _ _ e)) λz hz=>nomatch hz
  ·exact hR h' ak (λb o hb e=>hk b o (λz=>q b o e (fy.mp z)) hb (k2 b o (k1 b o e))) aS
 obtain g|g:=g
 ·refine cZ (VD (o,hg,g) ?_);refine cZ (iW hg g K V hh λh1 tk k1=>?_)
  refine cZ (Wo ?_);have hT:h1.IsTuple p its:=(o,k1 _ _ hg,g,n,K);exact cZ (wpAny_pyIter_tuple hT (kq (R3 F.aM _,(fin h1 tk _ h1.objs.size _ k1 (λb o e=>ft _ e) (nY _) (Walks.tuple (show A.in1.handled=Y from hh) _ p (rz (jR (k1 _ _ hg))) its) ((_,px _ U,U,U),hT.push _)))))
 ·refine cZ (VD (o,hg,g) ?_);refine cZ (jD hg g K V hh λh1 tk k1=>?_)
  refine cZ (Wo ?_);have hT:h1.IsList p its:=(o,k1 _ _ hg,g,n,K);exact cZ (wpAny_pyIter_list hT (kq (R3 F.aM _,(fin h1 tk _ h1.objs.size _ k1 (λb o e=>ft _ e) (nY _) (Walks.list (show A.in1.handled=Y from hh) _ p (rz (jR (k1 _ _ hg))) its) ((_,px _ U,U,U),hT.push _)))))
end
end PySem
namespace L2
open PySem PySem.Spec PyProof.Rows
variable{H:Hp}{gd:List (J×Obj)}{kvs:List (List Key×V)}
section
variable{X:Cx}
def gh(kvs more:List (List Key×V)):List (List Key×V):=more.foldl (λacc kv=>putK acc kv.1 kv.2) kvs
def KT.merge:∀{more:List (List Key×V)}{rs:List (List Key×J×B)}{kvs:List (List Key×V)}{xs:List (List Key×J×B)},KT H more rs->KT H kvs xs->KT H (gh kvs more) (cO xs rs):=by
 intro more rs kvs xs r
 induction r generalizing kvs xs with
 |nil=>intro q;exact q
 |@cons p q ps qs h t z =>
  intro g;let(h1,h2,h3):=h;have e:=KT.put g p.1 (b:=q.2.1) h2 h3;have K:KT H (putK kvs p.1 p.2) (storedH xs q.1 q.2.1 q.2.2):=by rw[<- h1];exact e
  exact z K
theorem jC:∀(more kvs:List (List Key×V)),(gh kvs more).length<=kvs.length+more.length
 |[],kvs=>by show kvs.length<=kvs.length+0;lia
 |p::r,kvs=>by
  have h1:=jC r (putK kvs p.1 p.2);have h2:=gi kvs p.1 p.2;show(gh (putK kvs p.1 p.2) r).length<=_;rw[qf];lia
inductive GS(xs:List V)(H:Hp)(Q:VK):Prop
 |mk(p:J)(ps bs:List J)(kvs:List (List Key×V))(h1:xs=[.ref p])(h2:H p=Z (.lst (ps.map V.ref)))(h3:ps.length=kvs.length)(h3':bs.length=kvs.length)(h4:∀(i:Nat)(a b:J)(kv:List Key×V),ps[i]?=Z a->bs[i]?=Z b->kvs[i]?=Z kv->H a=Z (.tup [.ref b,kv.2])/\H b=Z (.tup (kv.1.map kV)))(h5:∀d,H d=Y->Q (.ref d) (upd H d (.dT (gh [] kvs))))
def D8{σ:St}{s:ϋ}(I:Inv X gd σ H s):∀{ps bs:List J}{kvs:List (List Key×V)}{us:List B},Vals (ps.map V.ref) us->ps.length=kvs.length->bs.length=kvs.length->(∀(i:Nat)(a b:J)(kv:List Key×V),ps[i]?=Z a->bs[i]?=Z b->kvs[i]?=Z kv->H a=Z (.tup [.ref b,kv.2])/\H b=Z (.tup (kv.1.map kV))) ->
  ∃pairs:List (List Key×J×B),KT H kvs pairs/\∀(i:Nat)(v:B),us[i]?=Z v->∃(a b:J)(o:Obj)(val:B)(k:List Key)(m:Nat),v=.ref a/\pairs[i]?=Z (k,b,val)/\s.heap.get? a=Z o/\o.cls=.type "tuple" /\ o.data=.seq #[.ref b,val] m:=by
 intro ps
 induction ps with
 |nil =>
  intro bs kvs us r hl _ _;have e:kvs=[]:=by cases kvs with|nil=>rfl|cons _ _=>simp at hl
  subst e;cases r;exact([],.nil,λi v h=>by simp at h)
 |cons p ps ih =>
  intro bs kvs us r hl K h;cases kvs with
  |nil=>simp at hl
  |cons kv kvs =>
   cases bs with
   |nil=>simp at K
   |cons b bs =>
   cases r with
   |@cons _ u _ us r1 Q =>
    let(pairs,h1,h2):=ih (bs:=bs) Q (by simpa using hl) (by simpa using K) λi p b kv z q g=>h (i+1) p b kv (by simpa using z) (by simpa using q) (by simpa using g)
    let(hp,hq):=h 0 p b kv (by simp) (by simp) (by simp)
    let(its,P,(o,ho,hc,m,hd),_):=I.tuple (SqT.of hp);cases P with
    |@cons _ key _ rest k1 k2 =>
     cases k2 with
     |@cons _ val _ SD k3 k4 =>
      cases k4
      cases(k1)
      refine((kv.1,b,val)::pairs,.cons (U,hq,k3) h1,λi v hv=>?_)
      cases i with
      |zero =>
       simp at hv;subst hv
       cases(r1)
       exact(p,b,o,val,kv.1,m,U,by simp,ho,hc,hd)
      |succ i =>
       let(a,b',oa,OO,k,m',z,q,g):=h2 i v (by simpa using hv)
       exact(a,b',oa,OO,k,m',z,by simpa using q,g)
def KT.keys{xs:List (List Key×J×B)}(r:KT H kvs xs):∀z∈xs,H z.2.1=Z (.tup (z.1.map kV)):=by
 induction r with
 |nil=>intro z g;cases g
 |@cons p q ps qs h t K =>
  intro z g;obtain e|e:=ot.mp g
  ·rw[e,<- h.1];exact h.2.1
  ·exact K z e
theorem Bx(hu:X.A.units+5<cLine)(hc:X.calm=O):bY X (.type "dict") GS:=by
 intro gd s σ H xs us Q I r h;let(p,ps,bs,kvs,U,hp,hl,aA,ak,q):=h;let(u,U,ru):=vals1 r;cases ru;have hh:=I.ok.hd hc;obtain⟨its,P,K,ob⟩:∃its:List B,Vals (ps.map V.ref) its/\(ps.map V.ref).length<=pq/\∃(o:Obj)(n:Nat),s.heap.get? p=Z o/\o.dict=Y/\o.data=.seq its.toArray n/\(o.cls=.type "tuple" \/ o.cls=.type "list"):=by
  let(K,its,n,P,e):=(I.hok p _ hp);exact(its,P,K,_,n,e,U,U,.inr U)
 let(pairs,kv,rW):=D8 I P hl aA ak;refine callType_codes (Q₁:=λobj g=>obj=.ref s.heap.objs.size/\g={s with heap:=s.heap.push {cls:=.type "dict",data:=.dict #[]}}) F.kt_called_dict (F.kt_typeCall_dict_1 _) F.entry_dict_init (kt_code_dict_new _ (U,U)) ?_
 rintro obj g ⟨rfl,rfl⟩
 have rY:(s.heap.push {cls:=.type "dict",data:=.dict #[]}).DictOfH (tupleKind (bq X.prog X.w)) s.heap.objs.size []:=Heap.DictOfH.new s.heap;refine(rY.typeIs,F.args_dict_init_2 _ _,?_);refine cZ ?_;refine cZ (wpAny_notOrdered_dict rY.typeIs ?_);refine kq ?_;let(o,n,ho,aP,aN,aS):=ob;have ar:=P.length;rw[dN]at ar K;have aT:=Paired.length kv;refine lJ (E:=λ_ _=>True) (pairs:=pairs) ?_ hh rY (rz (jR ho)) (o,n,ft _ ho,aP,aN,aS) (by lia) (by rw[ri];lia) (λz K=>?_) (λi v hv=>?_) λh' tk hk hd=>?_
 ·show X.A.units+1+3<cLine;omega
 ·exact nk (k8 I.hok (kv.keys z K)) λo e=>ft _ e
 ·let(a,b,oa,val,k,m,e1,e2,e4,e5,e6):=rW i v (by simpa using hv)
  exact(a,b,oa,val,k,m,e1,e2,ft _ e4,e5,e6)
 ·refine(U,.ref s.heap.objs.size,_,I.laid (λb u e=>hk b u (rz (jR e)) (ft _ e)) (nY _) ?_,U,q _ (I.hok.fresh (nY _)))
  let(q',es,ep,hq,h2,h3,h4,_,h5):=hd;refine(?_,?_,_,KT.keeps (KT.merge kv .nil) λc ys ec=>by rw[aj (λz=>by rw[z,I.hok.fresh (nY _)]at ec;cases ec)];exact ec,q',es,ep,hq,h2,h3,h4,h5)
  ·have:=jC kvs []
   simp only[Wv]at this
   lia
  ·have:=I.big
   exact beq_eq_false_iff_ne.mpr (zj this)
end
variable{d:J}{dl:Dl}
section
variable{X:Cx}{K:BT}{a b e:Ev}{ta tb te:TE}{qa qb qe:QE}{pos p:Pos}
def Inv.M7{σ:St}{s:ϋ}(I:Inv X gd σ H s)(ha:H d=Z (.dT kvs)):∃o,Inv X gd σ (upd H d (.frz o (.dT kvs))) s:=by
 have q:∀o v,X.H₀ d≠Z (.frz o v):=λo v e=>by
  have:=I.base.jd d o v e
  rw[ha]at this;cases this
 let(z,hs,vs,r,o,es,K,e,c):=(I.hok d _ ha);exact(o,I.B0 ha (λ_ z=>nomatch z) (λ_ z=>nomatch z) (λ_ z=>nomatch z) q (e,z,hs,vs,KT.keeps r λc ys g=>by rw[aj (gT g ha (λz=>nomatch z))];exact g,o,es,K,e,c))
def yh:T->Option (List Key×V)
 |.t [.t ks,.i x]=>(ml ks).map λk=>(k,.int x)
 |_=>Y
def j8:List T->Option (List (List Key×V))
 |[]=>Z []
 |x::r=>match yh x,j8 r with
  |some p,Z ps=>Z (p::ps)
  |_,_=>Y
def D9{x:T}{p:List Key×V}(h:yh x=Z p):∃ks n,x=.t [.t ks,.i n]/\ml ks=Z p.1/\p.2=.int n:=by
 unfold yh at h
 split at h
 ·let(k,h1,U):=gV.mp h;exact(_,_,U,h1,U)
 ·cases h
theorem ay.cn{dl:Dl}{H:Hp}:∀{xs:List T}{vs:List V}{F:List J}{kvs:List (List Key×V)},ay K dl H vs xs F->j8 xs=Z kvs->∃ps bs:List J,vs=ps.map V.ref/\ps.length=kvs.length/\bs.length=kvs.length/\∀(i:Nat)(a b:J)(kv:List Key×V),ps[i]?=Z a->bs[i]?=Z b->kvs[i]?=Z kv->H a=Z (.tup [.ref b,kv.2])/\H b=Z (.tup (kv.1.map kV))
 |[],_,_,_,h,e=>by cases h;cases e;exact([],[],U,U,U,λi a b kv h=>by simp at h)
 |x::r,_,_,_,h,e=>by
  cases h with
  |cons h1 h2 =>
   unfold j8 at e
   split at e
   ·rename_i p ps q g;cases e;let(ks,n,U,hk,hv):=D9 q;let(qs,bs,U,l1,l2,P):=h2.cn g;let(a,us,U,ha,hr):=h1.tup;cases hr with
    |cons g1 g2 =>
     cases g2 with
     |cons g3 g4 =>
      cases g4;let(b,ws,U,Q,hw):=g1.tup;let(U,_):=g3.int;have ew:=hw.IP hk;subst ew;refine(a::qs,b::bs,U,by simp[l1],by simp[l2],λi a' b' kv q g z=>?_)
      cases i with
      |zero=>cases q;cases g;cases z;rw[hv];exact(ha,Q)
      |succ i=>exact P i a' b' kv (by simpa using q) (by simpa using g) (by simpa using z)
   ·cases e
def O6(te:TE):TE:=λσ H Q=>tCB GS (bL te fg) σ H λv H1=>∃d kvs,v=.ref d/\H1 d=Z (.dT kvs)/\∀o,Q v (upd H1 d (.frz o (.dT kvs)))
def PY(qe:QE):QE:=λq Q=>qe q λt=>match t with
 |.l xs=>Ex3 (λkvs=>j8 xs=Z kvs) (λkvs=>.fz (.dT (gh [] kvs))) Q
 |_=>False
def Hc(hu:X.A.units+150<cLine)(hm:X.mg "dict"=Y)(he:QPF X K e te qe)(hg:Gl X "dict":=by exact U)(hc:X.calm=true:=by exact U)
  (hv:bootBuiltins "dict"=Z (.type "dict"):=by kernel_rfl) (hs:‹AC X e []›) (V:‹(backTo pos (m4 [] X.env)).any (·.1)=false›):
  QPF X K (.Call (.Name "dict" p) [e] [] pos) (O6 te) (PY qe):=(by
 left;refine thn (uP (Bx (by omega) hc) hg hm hv (bh he.h cJ hs) (by decide) (by decide) hs V gd s σ H _ I h) λu s' ak=>?_
 let(v,H',I',r,d,kvs,g,e2,q):=ak;let(o,I2):=I'.M7 e2;exact(v,_,I2,r,q o),λdl H σ q Q R rd hq k=>he.s dl H σ q _ _ rd hq λv t F H1 g r1 f1 n1 P=>by
 split at P
 ·let(kvs,hk,hq):=P;let(p,vs,G,U,U,h1,h2):=r1.r.lst;let(ps,bs,U,l1,l2,hh):=h2.cn hk;refine(p,ps,bs,kvs,U,h1,l1,l2,hh,λd hd=>(d,_,U,au,λo=>?_))
  exact k _ _ [] _ ((g.new hd).fresh (g.free hd) (g.d.nd0 hd)) (.fz au,λ_ z=>nomatch z) (λ_ z=>nomatch z) n6 hq
 ·exact P.elim)
def aI.fzz{v:V}{F:List J}{u:HO}(h:aI K dl H v (.fz u) F):∃a o,v=.ref a/\F=[]/\H a=Z (.frz o u):=h.inv
def S8:Q2:=λt u Q=>match t,u with
 |.fz (.dT kvs),.t ks=>Ex2 (λp:List Key×Int=>ml ks=Z p.1/\cz kvs p.1=Z (.int p.2)) λp=>Q (.i p.2)
 |_,_=>False
def Ha(hu:X.A.units+150<cLine)(ha:QPE X K a ta qa)(g:QPE X K b tb qb)(hs:RX b:=by intro _ _;rfl):QPF X K (.Subscript a b pos) (NM ta tb) (qOp S8 qa qb):=(gf (by omega) ha.h g.h hs,λdl H σ q Q R rd hq k=>ha.s dl H σ q _ _ rd hq λv t F H1 V P hq=>g.s dl H1 σ q _ _ (rd.evo V) hq λw u G H2 e2 r2 hq=>by
 have P:=P.evo V.d e2;unfold S8 at hq
 split at hq
 ·let(p,(hk,hv),hq):=hq;let(d,o,U,U,hd):=P.r.fzz;let(b,vs,U,g,hr):=r2.r.tup;have ev:=hr.IP hk;subst ev;exact(d,_,U,.inr (_,p.1,b,.inr (o,hd),U,g,hv.symm),k _ _ [] H2 (V.trans e2) (.c (.i _)) (λ_ z=>nomatch z) n6 hq)
 ·exact hq.elim)
end
def Iti(d:J)(o:Obj)(kvs:List (Key×V)):It :=
 (λi H=>H d=Z (.frz o (.dK kvs))/\i<kvs.length,
   λi H v H'=>∃(p:J)(kv:Key×V),H p=Y/\v=.ref p/\H'=upd H p (.tup [kV kv.1,kv.2])/\kvs[i]?=Z kv,
   λi H=>H d=Z (.frz o (.dK kvs))/\kvs.length<=i)
variable{P:Da}{elts:List Ev}
theorem zU{w:Cl}{K:BT}{x1}{pos:Pos}(d it:J)(o:Obj)(kvs:List (Key×V))(es:Array DictEntry)(ep:Nat)(ho:o.data=.dict es ep):
  Turn P w K (.Tuple elts x1 pos) (Iti d o kvs) [it] it (λi h=>∃ok q,IsItemIter h it d i kvs.length ep ok q) where
 mem:=by simp
 obj:=λi h st b g=>by
  have e:b=it:=by simpa using g
  subst e;let(ok,q,e):=st;exact(_,e,λv z=>by cases z)
 keep:=λi h h' st k=>let(ok,q,e):=st;(ok,q,k it (by simp) _ e)
 item:=by
  intro X hP hw hK hc i gd s σ H E I hf st hg;subst hP hw hK;let(ok,q,h1):=st;let(hd,aP):=hg;let(_,vs,r,at_):=Bm I hd ho;have l1:kvs.length=vs.length:=Paired.length r;obtain⟨wv,hv⟩:∃wv,vs[i]?=Z wv:=(_,fZ (show i<vs.length by omega))
  let(kv,ek,e1,e2):=Paired.at_ r hv;rw[l1]at h1;refine wpAny_pyNext_items_item h1 at_ (k:=wv.1) (v:=wv.2) hv λkey h' Bh ar aN VB aA=>(_,U,(wpAny_letOwnedTupleGo_items ar λak MX Rq=>?_))
  have hn:=I.hok.fresh (nY s.heap.objs.size);have le:=jR h1;have up:∀c o,c≠it->h'.get? c=Z o->ak.get? c=Z o:=λc o hc z=>Rq.extBut _ _ hc z
  have I1:Inv X gd σ (upd H s.heap.objs.size (.tup [kV kv.1,kv.2])) {s with heap:=s.heap.push {cls:=.type "tuple",data:=.seq #[key,wv.2]}} :=
   I.laid (λb u z=>ft _ z) (nY _) (by show 2<=pq;decide,[key,wv.2],.cons (Q8 (by rw[e1];exact Bh)) (.cons e2 .nil),((_,px _ U,U,_,U),_,px _ U,U))
  have Q:∀b ∈ [it],sW X gd (upd H s.heap.objs.size (.tup [kV kv.1,kv.2])) b:=λb g=>by
   let(f0,r):=hf b g;rw[fy.mp g]at f0 r ⊢;exact(by rw[aj (rz le)];exact f0,r)
  have I2:=by
   refine I1.pB (h':=ak) (t':=s.toks) (λb o g z=>?_) Q
   simp only[ot,x2,or_false]at g;obtain⟨rfl,rfl⟩|z':=XX z
   ·exact up _ _ g aN
   ·exact up _ _ g (aA b o g z')
  rw[<- l1]at MX;exact(.ref s.heap.objs.size,upd H s.heap.objs.size (.tup [kV kv.1,kv.2]),I2,U,(_,kv,hn,U,U,ek),(_,_,MX),λb g=>(Q b g).1)
 done:=by
  intro X hP hw hK hc i gd s σ H E I hf st hg;subst hP hw hK;let(ok,q,h1):=st;let(hd,hle):=hg;let(_,vs,r,at_):=Bm I hd ho;have l1:kvs.length=vs.length:=Paired.length r;rw[l1]at h1;exact wpAny_pyNext_items_end (I.ok.hd hc) h1 at_ (Uk (by omega)) λh' eb=>(U,I.pB (λb o g z=>eb b o (λy=>g (by simp[y])) z) hf)
 self:=λ_ _ _ _ _ st h=>by
  let(ok,q,h1):=st;exact W.kcp_self h1 h
variable{pos':Pos}{a:J}{ob:Obj}{H1:Hp}
section
variable{X:Cx}{K:BT}{o:Ev}{to:TE}{qo:QE}{apos aS:Pos}
def Bd(to:TE):TI:=λσ H R=>FU to σ H λx H1=>∃v d ob kvs,x=.ref v/\H1 v=Z (.ext (ItV v d))/\H1 d=Z (.frz ob (.dK kvs))/\R (Iti d ob kvs) H1
def ya{x1}(ho:PE X o to)(cE:‹attributeBase o "items" X.env (eval o X.env)=eval o X.env›)(cD:‹(apos.endLine==aS.line)=true›):PI X (.Tuple elts x1 pos') (.Call (.Attribute o "items" apos) [] [] aS) (Bd to):=by
 intro gd s σ H R I h;refine thn (HR ho cE cD gd s σ H _ I h) λu s1 P=>?_
 let(x,H1,g,r1,v,d,ob,kvs,ex,hv,hd,q):=P;subst ex;cases r1;let(K,_):=(show bJ X.prog X.w H1 s1.heap v (.ext (ItV v d))from g.hok v _ hv);let(eo,z,ar,ak,r0,o',es,ep,V,c,Q,rest):=(show bJ X.prog X.w H1 s1.heap d (.frz ob (.dK kvs))from g.hok d _ hd);rw[eo]at V;cases V;let(hs,vs,r,at_):=Bm g hd Q;have l1:kvs.length=vs.length:=Paired.length r;refine wpAny_pyIter_items K at_ ?_;refine(_,[s1.heap.objs.size],_,_,H1,U,g.kept (t':=s1.toks) (λb o e=>ft _ e),zU d _ ob kvs es ep Q,(_,_,by rw[l1];exact px _ U),λc hc=>?_,q)
 rw[fy.mp hc];exact g.Jj (nY _) (g.hok.fresh (nY _))
def a9.at2{vs:List (Key×V)}{ts:List (Key×T)}{F:List J}(h:a9 K dl H vs ts F):F=[]->∀{i:Nat}{kv:Key×V}{t:Key×T},vs[i]?=Z kv->ts[i]?=Z t->kv.1=t.1/\aI K dl H kv.2 t.2 [] :=
 h.ind (λ_ _ _ _ h=>by simp at h) λk v x vs ts F G h _ g e {i kv t} h1 h2=>by
  let(z,q):=xq.mp e;subst z;cases i with
  |zero=>cases h1;cases h2;exact(U,h)
  |succ i=>exact g q (by simpa using h1) (by simpa using h2)
def yE{vs:List (Key×V)}{ts:List (Key×T)}:xp K dl (Iti a ob vs) (ts.map NZ) [(.ref a,.fd ob vs ts)] where
 go:=λH i D h hi=>by
  let(F,r):=h (.ref a,.fd ob vs ts) (by simp)
  let(_,e,_,h1,h2):=r.r.EJ;cases e;rw[dN]at hi;exact(h1,by rw[h2.len];exact hi)
 yld:=λH i x fp v H' D h hx y=>by
  have r:=h (.ref a,.fd ob vs ts) (by simp)
  let(_,e,_,h1,h2):=r.r.EJ;cases e;let(p,kv,hp,U,U,ek):=y;rw[gs]at hx;let(t,q,U):=gV.mp hx;obtain⟨Q,g⟩:kv.1=t.1/\aI K dl H kv.2 t.2 []:=by
   exact h2.at2 U ek q
  have rs:Rps K dl H [kV kv.1,kv.2] [kT t.1,t.2] ([]++([] ++ [])):=Rps.cons (by rw[Q];cases t.1;exact .i _;exact .s _,λ_ z=>nomatch z) (Rps.cons (g,λ_ z=>nomatch z) (.nil,λ_ z=>nomatch z))
  exact((Evo.refl D).new hp,_,rs.tup D hp,λc P=>nomatch P)
 stop:=λH D h=>by
  let(F,r):=h (.ref a,.fd ob vs ts) (by simp)
  let(_,e,_,h1,h2):=r.r.EJ;cases e;exact(h1,by rw[dN,h2.len];exact nY _)
def UN(qo:QE):QI:=λq Q=>qo q λt=>match t with|.fd _ _ ts=>Q (ts.map NZ)|_=>False
def Gj{σ:St}{R:It->Hp->Prop}{vs:List (Key×V)}(hd:H1 d=Z (.frz ob (.dK vs)))(k:∀w,H1 w=Y->R (Iti d ob vs) (upd H1 w (.ext (ItV w d)))):Am (.ref d) [] H1 λx H2=>∃v d ob kvs,x=.ref v/\H2 v=Z (.ext (ItV v d))/\H2 d=Z (.frz ob (.dK kvs))/\R (Iti d ob kvs) H2 :=
 (d,vs,U,U,.inr (ob,hd),λw hw g=>(w,d,ob,vs,U,au,by rw[aj g.symm];exact hd,k w hw))
def xY{V}(ho:QPE X K o to qo)(cE:‹attributeBase o "items" X.env (eval o X.env)=eval o X.env›)(cD:‹(apos.endLine==aS.line)=true›):
  QPI X K (.Tuple elts V pos') (.Call (.Attribute o "items" apos) [] [] aS) (Bd to) (UN qo):=(ya ho.h cE cD,λdl H σ q Q R rd hq k=>ho.s dl H σ q _ _ rd hq λv t F H1 z P g=>by
 split at g
 ·let(d,U,U,h1,h2):=P.r.EJ;refine Gj (σ:=σ) h1 λw hw=>k _ _ _ _ (z.new hw) yE (λp hp=>by rw[fy.mp hp];exact(_,P.evo z.d ((Evo.refl z.d).new hw))) g
 ·exact g.elim)
def G5{x1}(ho:QPE X K o to qo)(cE:‹attributeBase o "items" X.env (eval o X.env)=eval o X.env›)(cD:‹(apos.endLine==aS.line)=true›):
  QPJ X K (.Tuple elts x1 pos') (.Call (.Attribute o "items" apos) [] [] aS) (Bd to) (asJ (UN qo)):=(ya ho.h cE cD,λdl H₀ hs H σ q Q R (F0,r0) hq k=>ho.s dl H σ q _ _ r0.rd hq λv t F H1 P V g=>by
 split at g
 ·let(d,U,U,h1,h2):=V.r.EJ;refine Gj (σ:=σ) h1 λw hw=>?_
  have ev:=(Evo.refl P.d).new (o:=.ext (ItV w d)) hw;exact k _ _ _ _ q (F0,(r0.evo (P.trans ev)).hold (V.evo P.d ev) λj u hj b hb z=>nomatch z) yE g
 ·exact g.elim)
end
section
variable{X:Cx}{K:BT}{e:Ev}{tx:(St->XK)->TE}{qx:QX}{pos p1 p2 p3:Pos}
def GW{y:Str}{j1 j2:_}(he:QPX X K e tx qx)(hK:‹X.K=K›)(hs:‹m4 [e,.Constant (.str y) j1 p1] X.env=(ϊ,eval e X.env)::m4 [.Constant (.str y) j1 p1] X.env›)(z:‹m4 [.Constant (.str y) j1 p1] X.env=(ϊ,eval (.Constant (.str y) j1 p1) X.env)::m4 [] X.env›)(hp:kj (.Constant (.int 0) j2 p2):=by intro _ _;rfl):
  QPX X K (.Subscript (.List [e,.Constant (.str y) j1 p1] p3) (.Constant (.int 0) j2 p2) pos) (λEs=>tOp (rIx K) (O3 (bL (tx Es) (bL (tC (.str y)) fg))) (tC (.int 0))) (λq Q W=>qx q (λt=>t.im=O/\Q t) W):=(λEs a=>by
 subst hK;exact uO A5 (HQ (bh (he.h Es a) (bh di cJ z) hs)) bD hp,λdl H σ q Q W R Es rd hq k x=>he.s dl H σ q _ W _ Es rd hq (λv t F H1 P V f1 n1 g=>by
  let(hi,g):=g;obtain rfl:=V.r.im hi;refine(by show 2<=pq;decide,λp hp=>.inl (p,[v,.str y],0,v,U,U,.inl (.inl au),bQ (j:=0) U,?_))
  have ev:=(Evo.refl P.d).new (o:=.lst [v,.str y]) hp;exact k v t [] _ (P.trans ev) (V.evo P.d ev) f1 n1 g) x)
end
end L2
namespace PySem
open Sem (wp)
section
variable{prog:Da}{w:Cl}{A:Db}{R:Result->ϋ->Prop}{I:J}{fp wr:List J}{n:Nat}{P:Nat->B->Prop}{St:Nat->Do->Prop}{kw:List (Str×B)}
theorem Ep(W:Walks prog w A.in1 I fp wr n P St)(bt:Nat->Nat->Bool)(VN:CmpOf prog w A.in1 .Lt P bt)(S:J)(aT:S ∉ fp):
  ∀(k j:Nat)(s:ϋ)(Q:B)(c:Nat),n - (j+1)=k->j+1<=n->St (j+1) s.heap->P (argBest bt j) Q ->
  s.heap.get? S=Z {cls:=.type "list",dict:=Y,data:=.seq #[Q,Q] c,slots:=#[]} ->
  (∀v h' tk,P (argBest bt (n - 1)) v->(∀b o,b ∉ wr->b≠S->s.heap.get? b=Z o->h'.get? b=Z o)->R (.ok (.ret v)) {s with heap:=h',toks:=tk}) ->
  codeAny (model prog w) A (.builtin "min.loop" ([.ref I,.none,.ref S],kw)) R s:=by
 have aS:S ∉ wr:=λh=>aT (W.sub _ h)
 have CD:(toString "min" ++ toString ".loop":String)="min.loop":=by decide
 intro k
 induction k with
 |zero =>
  intro j s Q c hk hj ak V hS hR;have aP:j+1=n:=by omega
  refine Uw F.entry_min_loop ?_;refine cZ (wpAny_seqItems hS U ?_);refine cZ (wpAny_tryCatch (W.done s _ _ (aP▸ak) λh' tk q=>?_))
  have K:=q S _ aS hS;refine cZ (Ul K U (cZ (wpAny_letGo (kq (hR Q _ tk (by rw[<- aP];exact V) λb o g z e=>(sT _ _ (Ne.symm z)).trans (q b o g e))))))
 |succ k ih =>
  intro j s Q c hk hj ak V hS hR;have ar:=WN hk;refine Uw F.entry_min_loop ?_;refine cZ (wpAny_seqItems hS U ?_);refine cZ (wpAny_tryCatch (W.item (j+1) s _ _ ar ak λv h' tk hP uo q=>?_))
  have K:=q S _ aS hS;show wpAny _ A.in1 (tryCatch (holding [v,v] (richCompare .Lt v Q >>= _)) _ >>= _) _ _ _;refine cZ (wpAny_tryCatch (BI (cZ (VN (j+1) (argBest bt j) v Q _ _ _ hP V (cZ (BI (wpAny_truthy_bool (cZ (wpAny_letGo (kq ?_))))))))));cases hb:bt (j+1) (argBest bt j)with
  |true =>
   refine cZ ?_;refine Ul K U (cZ (wpAny_letGo ?_));rw[CD];refine kq (R3 F.plain_min_loop _,ih (j+1) _ v _ (by rw[Xm,hk];rfl) ar (W.frame _ _ _ uo λb a0 o e=>?_) (by simp only[argBest,hb,if_true];exact hP) (ui _ K U)
    λv' aN FP aA Ja=>?_)
   ·exact(sT _ _ (λh:S=b=>aT (by rw[h];exact a0))).trans e
   ·exact hR v' aN FP aA λb o g z e=>Ja b o g z ((sT _ _ (Ne.symm z)).trans (q b o g e))
  |false =>
   refine cZ (wpAny_letGo ?_);rw[CD];refine kq (R3 F.plain_min_loop _,ih (j+1) _ Q c (by rw[Xm,hk];rfl) ar uo (by simp only[argBest,hb,W5,if_false];exact V) K λv' aN FP aA Ja=>?_)
   exact hR v' aN FP aA λb o g z e=>Ja b o g z (q b o g e)
end
def F.Fc(a d:B):argsOk "min" ([a],[("default",d)]):=by kernel_rfl
section
variable{prog:Da}{w:Cl}{A:Db}{E:B->ϋ->Prop}{s:ϋ}
theorem E2{l:J}{its:Array B}{d:B}{Q:B->ϋ->Prop}(val:Nat->Int)(hh:A.handled=Y)(hl:s.heap.IsTuple l its)(hv:∀(i:Nat) v,its[i]?=Z v->∃t,v=.int (val i) t)
  (hQ:∀v h' tk,(its.size=0->v=d)->(0<its.size->its[argBest (λi j=>decide (val i<val j)) (its.size - 1)]?=Z v)->(∀b o,s.heap.get? b=Z o->h'.get? b=Z o)->Q v {s with heap:=h',toks:=tk}):
  wpAny (model prog w) A (call (.builtin "min") [.ref l] [("default",d)]) Q E s:=by
 have CD:(toString "min" ++ toString ".loop":String)="min.loop":=by decide
 let(ol,P,aA,nl,ar):=id hl;refine nT F.kind_min F.plain_min F.entry_min (F.Fc _ _) ?_;refine cZ (wpAny_of_eq (show Builtin.Builtins.bindParams "min" ["key","default"] 0 ([],[("default",d)])=pure [Y,Z d]from by kernel_rfl) (cZ (kq (cZ (wpAny_pyIter_tuple hl (cZ (Wz ?_)))))))
 rw[CD];have V:=jR P;have hsz:∀o:Obj,(s.heap.push o).objs.size=s.heap.objs.size+1:=λo=>v3 _ _
 have W:=Walks.tuple (prog:=prog) (w:=w) (A:=A.in1) hh s.heap.objs.size l (rz V) its;have K:(λi (h:Do)=>h.IsTupleIter s.heap.objs.size l i/\h.IsTuple l its) 0 ((s.heap.push {cls:=.type "tuple_iterator",data:=.fields #[.ref l,.int 0 0]}).push {cls:=.type "list",data:=.seq ([]:List B).toArray}) :=
  ((_,ft _ (px _ U),U,U),(ol,ft _ (ft _ P),aA,nl,ar))
 have hS:((s.heap.push {cls:=.type "tuple_iterator",data:=.fields #[.ref l,.int 0 0]}).push {cls:=.type "list",data:=.seq ([]:List B).toArray}).get? (s.heap.objs.size+1)=Z {cls:=.type "list",dict:=Y,data:=.seq #[],slots:=#[]}:=by
  rw[<- hsz];exact px _ U
 have q:s.heap.objs.size+1 ∉ [s.heap.objs.size,l]:=λz=>by
  obtain z|z:=ot.mp z
  ·exact absurd z (zj (Wl _))
  ·exact absurd (fy.mp z) (zj (WR V))
 have aP:=λz=>q (ot.mpr (.inl (fy.mp z)))
 have up:∀b o,s.heap.get? b=Z o->((s.heap.push {cls:=.type "tuple_iterator",data:=.fields #[.ref l,.int 0 0]}).push {cls:=.type "list",data:=.seq ([]:List B).toArray}).get? b=Z o:=λb o e=>ft _ (ft _ e)
 have old:∀b o,s.heap.get? b=Z o->b ∉ [s.heap.objs.size]/\b≠s.heap.objs.size+1:=λb o e=>by
  have:=jR e
  exact(λz=>rz this (fy.mp z),rz (WR this))
 rw[hsz];refine kq (R3 F.plain_min_loop _,Uw F.entry_min_loop ?_);refine cZ (wpAny_seqItems hS U ?_);by_cases h0:its.size=0
 ·exact cZ (wpAny_tryCatch (W.done _ _ _ (by rw[h0];exact K) λh' tk g=>(cZ (Wo (kq (hQ d h' tk (λ_=>rfl) (λz=>absurd z (by omega)) λb o e=>g b o (old b o e).1 (up b o e)))))))
 ·refine cZ (wpAny_tryCatch (W.item 0 _ _ _ (by omega) K λv h' tk hP uo g=>?_))
  have ak:=g _ _ aP hS;show wpAny _ A.in1 (updateSeq (s.heap.objs.size+1) (λ_=>#[v,v]) >>= _) _ _ _
  refine cZ ?_;refine Ul ak U ?_;refine kq (R3 F.plain_min_loop _,Ep W _ (CmpOf.ints_lt val hv) (s.heap.objs.size+1) q _ 0 _ v _ U (by omega) (W.frame _ _ _ uo λb aN o e=>?_) hP (ui _ ak U) λv' aT FP aS Ja=>?_)
  ·exact(sT _ _ (λh=>q (by rw[h];exact aN))).trans e
  ·exact hQ v' aT FP (λz=>absurd z h0) (λ_=>aS) λb o e=>Ja b o (old b o e).1 (old b o e).2 ((sT _ _ (Ne.symm (old b o e).2)).trans (g b o (old b o e).1 (up b o e)))
end
end PySem
namespace L2
open PySem PySem.Spec PyProof.Rows
def vt(ns:List Int)(d n:Int):Prop:=(ns=[]->n=d)/\(ns ≠ []->n∈ns/\∀y∈ns,n<=y)
variable{ns:List Int}{p3:Pos}
section
variable{X:Cx}{K:BT}{e:Ev}{te:TE}{qe:QE}{p pos IL:Pos}
def vq(h:0<ns.length):∃M,ns[argBest (λi j=>decide (ns.getD i 0<ns.getD j 0)) (ns.length - 1)]?=Z M/\∀y∈ns,M<=y:=by
 let(h1,h2):=argBest_lt (λi=>ns.getD i 0) (ns.length - 1)
 have g:argBest (λi j=>decide (ns.getD i 0<ns.getD j 0)) (ns.length - 1)<ns.length:=by omega
 refine(_,fZ g,λy q=>?_)
 let(j,z,U):=sS q
 have:=h2 j (by lia)
 rw[QL,QL,fZ z,fZ g]at this;exact this
def NH(K:BT)(te:TE)(d:Int):TE:=λσ H Q=>te σ H λv H1=>∃l ns,v=.ref l/\SqT K H1 l (ns.map V.int)/\∀n,vt ns d n->Q (.int n) H1
def L8{d:Int}{j1}(hg:Gl X "min")(hm:X.mg "min"=Y)(he:PE X e te)(hc:X.calm=O)(hs:‹AD X e›):
  PE X (.Call (.Name "min" p) [e] [(Z "default",.Constant (.int d) j1 p3,IL)] pos) (NH X.K te d):=by
 left;refine RZ (gE (u:=.builtin "min") I hg hm (by kernel_rfl) (PyProof.Rows.callWith_kw ?_ (by rw[hs];rfl) (by rw[hs];rfl)))
 rw[hs];refine Calls.spliced_cons (thn (he gd s σ H _ I h) λu s1 g=>?_)
 let(x,H1,I1,r1,l,ns,ex,hl,q):=g;subst ex;cases r1;refine Calls.spliced_nil ?_;refine thn (L4 (bD) Qf pos gd s1 σ H1 (λvs H2=>vs=[.int d]/\H2=H1) I1 (U,U)) λus s2 g=>?_
 let(vs,H2,V,rv,e1,e2):=g;subst e1 e2;let(ud,U,t,U):=vals1 rv;let(its,P,pl,hz):=V.tuple hl;have hlen:=P.length;rw[dN]at hlen;refine E2 (λi=>ns.getD i 0) (I.ok.hd hc) pl (λi v ei=>fN P i v (by simpa using ei)) λv h' tk z0 z1 hk=>?_
 rw[ri]at z0 z1;by_cases h0:its.length=0
 ·have hn:ns=[]:=uy.mp (by lia)
  subst hn;rw[z0 h0];exact(.int d,_,V.kept hk,(_,U),q _ (λ_=>rfl,λz=>absurd U z))
 ·have:=z1 (by lia)
  let(M,hM,eM):=vq (ns:=ns) (by lia)
  rw[<- hlen]at this;rw[WO]at this;let(t',U):=fN P _ v this;refine(.int M,_,V.kept hk,(t',?_),q _ (λz=>by subst z;exact absurd hlen.symm h0,λ_=>(mu hM,eM)))
  rw[QL,hM];rfl
def S6(d:Int)(qe:QE):QE:=λq Q=>qe q λt=>match t with
 |.t xs=>Ex2 (λ(ns:List Int)=>xs=ns.map .i) λns=>∀n,vt ns d n->Q (.i n)
 |_=>False
def LB{d:Int}{j1}(hm:X.mg "min"=Y)(he:QPE X K e te qe)(hg:Gl X "min":=by exact U)(hK:‹X.K=K›)(V:‹X.calm=true›)(hs:‹AD X e›):
  QPF X K (.Call (.Name "min" p) [e] [(Z "default",.Constant (.int d) j1 p3,IL)] pos) (NH K te d) (S6 d qe):=(by subst hK;exact L8 hg hm he.h V hs,λdl H σ q Q R rd hq k=>he.s dl H σ q _ _ rd hq λv t F H1 e1 P g=>by
 split at g
 ·let(ns,U,g):=g;let(l,vs,U,h1,h2):=P.r.tup;let(U,_):=h2.Od;exact(l,ns,U,SqT.of h1,λn hn=>k _ _ [] H1 e1 (.c (.i _)) (λ_ z=>nomatch z) n6 (g n hn))
 ·exact g.elim)
def E1(hc:X.calm=O):bY X (.builtin "min") (λxs H Q=>∃l ns,xs=[.ref l]/\SqT X.K H l (ns.map V.int)/\ns ≠ []/\∀n,vt ns 0 n->Q (.int n) H):=by
 intro gd s σ H xs us Q I r h;let(l,ns,U,hl,P,q):=h;let(u,U,ru):=vals1 r;cases ru;let(its,rl,pl,hz):=I.tuple hl;have hlen:=rl.length;rw[dN]at hlen;have MT:=Wq.mpr P;refine call_min_walk (wpAny_pyIter_tuple pl ?_);let(ol,g,aA,nl,ar):=id pl;have ak:=jR g;refine(_,_,_,_,_,_,_,U,Walks.tuple (A:=X.A.in1) (I.ok.hd hc) _ l (rz ak) its.toArray,((_,px _ U,U,U),(ol,ft _ g,aA,nl,ar)),λb hb=>?_,by rw[ri];lia,CmpOf.ints_lt (λi=>ns.getD i 0) (λi v ei=>fN rl i v (by simpa using ei)),λv h' tk hP hk=>?_)
 ·rw[v3];obtain z|z:=ot.mp hb
  ·rw[z];exact Wl _
  ·rw[fy.mp z];exact WR ak
 ·rw[ri,<- hlen,WO]at hP;let(M,hM,eM):=vq MT;let(t',U):=fN rl _ v hP;refine(.int M,_,I.kept (λb o e=>hk b o (λz=>?_) (ft _ e)),(t',?_),q _ (λz=>absurd z P,λ_=>(mu hM,eM)))
  ·have:=jR e
   rw[fy.mp z]at this;exact BH _ this
  ·rw[QL,hM];rfl
def Bv(q:X.K=K)(g:X.calm=O):bY X (.builtin "min") (λxs H Q=>∃l ns,xs=[.ref l]/\SqT K H l (ns.map V.int)/\ns ≠ []/\∀n,vt ns 0 n->Q (.int n) H):=by subst q;exact E1 g
def Hm:QC:=λts Q=>match ts with
 |[.t xs]=>∃ns:List Int,xs=ns.map .i/\ns ≠ []/\∀n,vt ns 0 n->Q (.i n)
 |_=>False
def Gh:mX K (λxs H Q=>∃l ns,xs=[.ref l]/\SqT K H l (ns.map V.int)/\ns ≠ []/\∀n,vt ns 0 n->Q (.int n) H) Hm:=λdl H vs ts F Q R D r hq k=>by
 unfold Hm at hq
 split at hq
 ·let(v,U,q):=r.one;let(ns,U,g,hq):=hq;let(l,vs,U,h1,h2):=q.r.tup;let(U,_):=h2.Od;exact(l,ns,U,SqT.of h1,g,λn hn=>k _ _ [] H (.refl D) (.c (.i _)) (λ_ z=>nomatch z) n6 (hq n hn))
 ·exact hq.elim
end
namespace TM
open Sem (wp)
open Builtin
def Vn(l:J)(n:Nat)(d:Option J)(sl:Array (Option B))(u:Tok):
  Meets (Builtin.«tuple.__mul__» ([.ref l,.int 0 u],[])) (λ_ R s=>s.heap.get? l=Z {cls:=.type "tuple",dict:=d,data:=.seq #[] n,slots:=sl}/\R (.ok (.ret (B.ref l))) s) :=
 .of_wp λprog w A R s h=>by
  let(hp,g,d,tk,os):=s;let(hl,h):=h;unfold Builtin.«tuple.__mul__»
  wp_walk
  exact(_,U,h)
end TM
variable{b:Ev}{ta:TE}{qa:QE}{qb:QE}
section
variable{X:Cx}{K:BT}
inductive GL(K:BT)(x:V)(y:V)(H:Hp)(Q:VK):Prop
 |mk(a n xs:_)(h1:x=.ref a)(h2:y=.int n)(h3:SqT K H a xs)(h6:((n=0/\xs ≠ []/\∀p,H p=Y->Q (.ref p) (upd H p (.tup [])))\/(n=1/\Q (.ref a) H)\/(n=0/\xs=[]/\Q (.ref a) H)))
def Mr(hK:X.K=K):OpR X (binaryOp .Mult) (GL K):=by
 subst hK;intro gd s σ H x y v u Q I rx ry h;let(a,n,xs,U,U,ha,h):=h;cases rx;let(t,U):=ry;let(its,P,p1,_):=I.tuple ha;let((cls,dd,data,sl),ho,V,k,hd):=id p1;simp only at V hd;subst V hd;obtain⟨rfl,hx,h⟩|⟨rfl,h⟩|⟨rfl,hx,h⟩:=h
 ·have g:its.toArray.isEmpty=false:=by
   have:its ≠ []:=λz=>hx (P.eR.mp z)
   cases its with
   |nil=>exact absurd U this
   |cons _ _=>rfl
  refine wpAny_binaryOp_repeat_ref (show(PySem.Value.type "tuple"==PySem.Value.type "int")=false from by decide) (_,ho,U) (λs'=>typeIs_int s' _ t) TM.eJ PySem.F.fills_int_mul PySem.F.slot_int_rmul TM.ix PySem.F.slot_int_index.lookup
   (call_meets PySem.F.slot_int_rmul (typeIs_int s _ t) PySem.F.entry_int_rmul (PySem.F.args_int_rmul_2 _ _) (TM.kN _ t a its.toArray k dd sl)
    (ho,U,(_,ho,U),call_meets PySem.F.slot_tuple_mul (_,ho,U) PySem.F.entry_tuple_mul (PySem.F.args_tuple_mul_2 _ _) (TM.Vp a its.toArray k dd sl t g) (ho,?_)))
  exact(.ref s.heap.objs.size,_,I.laid (t':=s.toks) (o:=.tup []) (λb ob q=>ft _ q) (nY _) (wh _,[],.nil,jQ.new _ _),U,h _ (I.hok.fresh (nY _)))
 ·refine wpAny_binaryOp_repeat_ref (show(PySem.Value.type "tuple"==PySem.Value.type "int")=false from by decide) (_,ho,U) (λs'=>typeIs_int s' _ t) TM.eJ PySem.F.fills_int_mul PySem.F.slot_int_rmul TM.ix PySem.F.slot_int_index.lookup
   (call_meets PySem.F.slot_int_rmul (typeIs_int s _ t) PySem.F.entry_int_rmul (PySem.F.args_int_rmul_2 _ _) (TM.kN _ t a its.toArray k dd sl)
    (ho,U,(_,ho,U),call_meets PySem.F.slot_tuple_mul (_,ho,U) PySem.F.entry_tuple_mul (PySem.F.args_tuple_mul_2 _ _) (TM.Vo a its.toArray k dd sl t) (ho,?_)))
  exact(.ref a,H,I,U,h)
 ·obtain rfl:=P.eR.mpr hx;refine wpAny_binaryOp_repeat_ref (show(PySem.Value.type "tuple"==PySem.Value.type "int")=false from by decide) (_,ho,U) (λs'=>typeIs_int s' _ t) TM.eJ PySem.F.fills_int_mul PySem.F.slot_int_rmul TM.ix PySem.F.slot_int_index.lookup
   (call_meets PySem.F.slot_int_rmul (typeIs_int s _ t) PySem.F.entry_int_rmul (PySem.F.args_int_rmul_2 _ _) (TM.kN _ t a _ k dd sl)
    (ho,U,(_,ho,U),call_meets PySem.F.slot_tuple_mul (_,ho,U) PySem.F.entry_tuple_mul (PySem.F.args_tuple_mul_2 _ _) (TM.Vn a k dd sl t) (ho,?_)))
  exact(.ref a,H,I,U,h)
def Hl:Q2:=λt u Q=>match t,u with
 |.t xs,.i n=>(n=0\/n=1)/\T.ims xs=O/\Q (.t (if n=0 then []else xs))
 |_,_=>False
def Gg:dy K (GL K) Hl:=by
 intro dl H x y t u F G Q R D g q hq k;have no:∀b:J,b∈([]:List J)->H b=none:=λ_ z=>nomatch z
 unfold Hl at hq
 split at hq
 ·rename_i xs n;let(a,vs,U,h1,s1):=g.r.tup;let(U,U):=q.r.int;let(hn,hi,hq):=hq;obtain rfl:=s1.im hi;refine(a,n,vs,U,U,SqT.of h1,?_);obtain rfl|rfl:=hn
  ·by_cases hx:vs=[]
   ·obtain rfl:=s1.eR.mp hx;exact .inr (.inr (U,hx,k _ _ [] H (.refl D) g no n6 hq))
   ·refine .inl (U,hx,λp hp=>?_)
    have rs:Rps K dl H [] _ []:=(.nil,λc P=>nomatch P)
    exact k _ _ _ _ ((Evo.refl D).new hp) (rs.tup D hp) no n6 hq
  ·exact .inr (.inl (U,k _ _ [] H (.refl D) g no n6 hq))
 ·exact hq.elim
def LA{a:Ev}{tb:TE}{pos:Pos}(ha:QPE X K a ta qa)(g:QPE X K b tb qb)(q:‹X.K=K›):QPF X K (.BinOp a .Mult b pos) (tOp (GL K) ta tb) (qOp Hl qa qb):=kR (Mr q) Gg ha g
end
end L2
namespace L2
open PySem PySem.Spec PyProof.Rows
section
variable{X:Cx}{K:BT}
inductive SQ(x y:V)(H:Hp)(Q:VK):Prop
 |mk(d:Bool)(h1:y=.bl d)(h2:(x=.non/\Q (.bl ϊ) H)\/(∃n,x=.int n/\Q (.bl ϊ) H)\/∃c,x=.bl c/\Q (.bl (c==d)) H)
def Qm:OpR X (compareOp .Is) SQ:=by
 intro gd s σ H x y v u Q I g z h;let(d,U,h):=h;cases z;obtain⟨rfl,q⟩|⟨n,rfl,q⟩|⟨c,rfl,q⟩:=h
 ·cases g;exact kq (.bl _,H,I,U,q)
 ·let(t,U):=g;exact kq (.bl _,H,I,U,q)
 ·cases g;exact is_bool (.bl _,H,I,U,q)
def Va:Q2:=λt u Q=>match u with
 |.b d=>match t with
  |.n=>Q (.b ϊ)
  |.i _=>Q (.b ϊ)
  |.b c=>Q (.b (c==d))
  |_=>False
 |_=>False
def Ld:dy K SQ Va:=by
 intro dl H x y t u F G Q R D g q hq k;have fin:∀b:Bool,Q (.b b)->R (.bl b) H:=λb h=>k _ _ [] H (.refl D) (.c (.b _)) (λ_ z=>nomatch z) n6 h
 cases u with
 |b d =>
  let(U,U):=q.r.bl;cases t with
  |n=>let(U,U):=g.r.non;exact(d,U,.inl (U,fin _ hq))
  |i n=>let(U,U):=g.r.int;exact(d,U,.inr (.inl (n,U,fin _ hq)))
  |b c=>let(U,U):=g.r.bl;exact(d,U,.inr (.inr (c,U,fin _ hq)))
  |_=>exact False.elim hq
 |_=>exact False.elim hq
end
variable{p4:Str}{fd:Ch}
section
variable{K:BT}{x q:Str}{st:EQ}{f:J}
def Vt{P:List B->Prop}(h:∀a b c d e g,P [a,b,c,d,e,g])(us:List B)(e:us.length=6):P us:=by
 cases us with
 |nil=>cases e
 |cons a r=>exact TQ (P:=λr=>P (a::r)) (h a) r (Nat.succ.inj e)
theorem Fun.b6{p1 p2 p3 p5 p6:Str}(F:Fun K x q st f fd)(hb:∀kV dc pm an cd ct u1 u2 V Q z g,bindArgs (W.fnOf x q (dE st) (bP st) (aw st) .none kV dc pm an cd ct) ([u1,u2,V,Q,z,g],[])=pure [(p1,u1),(p2,u2),(p3,V),(p4,Q),(p5,z),(p6,g)]:=by intros;rfl):Binds K fd [p1,p2,p3,p4,p5,p6] []:=F.binds λkV dc pm an cd ct us hl=>Vt (P:=λus=>bindArgs _ (us,[])=pure (XZ _ us)) (hb kV dc pm an cd ct) us hl
end
end L2
namespace K33
open PySem L2
abbrev Zd:Str:="_law_deal_here"
abbrev Ze:Str:="piece"
abbrev Zf:Str:="_law_scope"
abbrev Zg:Str:="_law_many"
abbrev Zh:Str:="self"
abbrev Zi:Str:="_law_f"
abbrev Zj:Str:="_law_world"
abbrev Zk:Str:="_law_room"
abbrev Zl:Str:="_law_words_here"
abbrev Zm:Str:="_law_script"
abbrev Zn:Str:="_law_program_here"
abbrev Zo:Str:="_law_found"
abbrev Zp:Str:="_law_kind"
abbrev Zq:Str:="_law_k"
abbrev Zr:Str:="_law_some"
abbrev Zs:Str:="_law_cell"
abbrev Zt:Str:="_law_kinds_here"
abbrev Zu:Str:="_law_paper"
abbrev Zv:Str:="_law_parts"
abbrev Zw:Str:="_law_numbers"
abbrev Zx:Str:="_law_base"
abbrev Zy:Str:="_law_other"
abbrev Zz:Str:="_law_fields"
abbrev ZA:Str:="_law_heads"
abbrev ZB:Str:="_law_name"
abbrev ZC:Str:="_law_most"
def top(i:Nat):EQ:=PySem.Challenge.pw_pursewright_k33_papers_of_another_form.main.body.getD i (.Pass (0,0,0,0))
abbrev fns:List Str:=["row","word","name","maker"]
theorem Cr:("row":Str)∈fns:=by simp[fns]
theorem Jm:FOk "row":=by unfold FOk;rw[typeLookup_type,builtinLookup_eq_fast];kernel_rfl
abbrev uH:EQ:=inClass (top 2) 0
abbrev lO:EQ:=inClass (top 3) 0
abbrev kH:EQ:=inClass (top 5) 0
theorem xP:aG [Zh,"row"] [Zh,"row"] (aw kH):=by symm
abbrev qH:EQ:=inClass (top 7) 0
abbrev ij:EQ:=inClass (top 17) 0
theorem vS:aG [Zh,Ze,"above","arm"] [Zh,Ze,"above","arm"] (aw ij):=by symm
abbrev gy:EQ:=inClass (top 24) 0
theorem tX:aG [Zh,"f","free","spent","kinds","holdings"] [Zh,"f","free","spent","kinds","holdings"] (aw gy):=by symm
abbrev jm:EQ:=top 10
theorem ip:aG ["kinds","kind","name","makers"] ["kinds","kind"] (aw jm):=by symm
abbrev qK:EQ:=top 11
theorem gL:aG ["kinds","kind","reached","names","name","makers"] ["kinds","kind"] (aw qK):=by symm
abbrev fi:EQ:=top 12
theorem bU:aG ["kinds","kind","reached","waiting","here","maker","field"] ["kinds","kind"] (aw fi):=by symm
abbrev fj:EQ:=top 13
theorem eC:aG ["kinds","maker","name","makers"] ["kinds","maker"] (aw fj):=by symm
abbrev jl:EQ:=top 15
theorem il:aG ["functions","name","number","function"] ["functions","name"] (aw jl):=by symm
abbrev vU:EQ:=top 18
theorem lP:aG ["body","told","waiting","spot"] ["body"] (aw vU):=by symm
abbrev fh:EQ:=top 19
theorem nA:aG [Ze,"number"] [Ze,"number"] (aw fh):=by symm
abbrev qO:EQ:=top 20
theorem DR:aG ["body"] ["body"] (aw qO):=by symm
abbrev gC:EQ:=top 21
theorem cU:aG ["program","f","told","found","spot","kinds"] ["program","f"] (aw gC):=by symm
abbrev kL:EQ:=top 22
theorem jk:aG ["program",Ze,"arm","kinds","word","fields"] ["program",Ze,"arm","kinds"] (aw kL):=by symm
abbrev qM:EQ:=top 25
theorem fM:aG ["program","f","told","found","spot",Ze,"met"] ["program","f"] (aw qM):=by symm
abbrev eD:EQ:=top 26
theorem dU:aG ["program","f","params","holdings"] ["program","f"] (aw eD):=by symm
abbrev iw:EQ:=top 27
theorem dm:aG ["program","n",Ze,"stand","holdings","name","family","free"] ["program","n",Ze,"stand"] (aw iw):=by symm
abbrev fQ:EQ:=top 28
theorem a4:aG ["program","n",Ze,"arm","stand","family","free","g","kinds","holdings","name","kind"] ["program","n",Ze,"arm","stand"] (aw fQ):=by symm
abbrev Ad:EQ:=top 29
theorem vQ:aG ["program","f","n",Ze,"word","g"] ["program","f","n",Ze] (aw Ad):=by symm
abbrev iu:EQ:=top 30
theorem tV:aG ["program","f","n",Ze] ["program","f","n",Ze] (aw iu):=by symm
abbrev kK:EQ:=top 31
theorem xQ:aG [Ze] [Ze] (aw kK):=by symm
abbrev kJ:EQ:=top 34
theorem dM:aG ["program","told","f","function","k","param"] ["program"] (aw kJ):=by symm
abbrev gB:EQ:=top 35
theorem qI:aG ["program","family","kind"] ["program","family","kind"] (aw gB):=by symm
abbrev eI:EQ:=top 36
theorem bH:aG ["program","f","told","ahead","n",Ze,"family"] ["program","f"] (aw eI):=by symm
abbrev Af:EQ:=top 37
theorem fB:aG ["program","places","told","f","function","body","n","stand","done"] ["program"] (aw Af):=by symm
abbrev kI:EQ:=top 38
theorem dJ:aG ["program","n","places","stand","told","name","kind","maker","pairs"] ["program","n","places","stand"] (aw kI):=by symm
abbrev qL:EQ:=top 39
theorem jY:aG ["places","pairs","weights","unknown","times"] ["places","pairs"] (aw qL):=by symm
abbrev nE:EQ:=top 41
theorem fP:aG ["program","paper","parts","numbers","number","row"] ["program","paper"] (aw nE):=by symm
abbrev Ai:EQ:=top 43
theorem lQ:aG [Zm,Zx,"_law_cells","_law_number",Zs] [Zm,Zx] (aw Ai):=by symm
abbrev Ah:EQ:=top 44
theorem pH:aG [Zd,Zg,"_law_number","_law_one",Zy] [Zd,Zg] (aw Ah):=by symm
abbrev vT:EQ:=top 45
theorem b7:aG [Zd,Zg,"_law_letters","_law_core","_law_at","_law_turn",Zo,Zq,"_law_own","_law_word","_law_near"] [Zd,Zg] (aw vT):=by symm
abbrev vW:EQ:=top 46
theorem ck:aG [Zd,Zl,"_law_form","_law_a","_law_b","_law_m",Zo,Zg,"_law_made",Zq,"_law_makers","_law_j","_law_wide",Zz] [Zd,Zl] (aw vW):=by symm
abbrev Ag:EQ:=top 47
theorem pF:aG [Zd,Zf,Zr,Zo,Zp,"_law_own"] [Zd,Zf,Zr] (aw Ag):=by symm
abbrev vX:EQ:=top 48
theorem dq:aG [Zd,Zj,Zf,Zp,Zi,Zt,ZA,Zl,"_law_own","_law_x","_law_maker",Zz,"_law_names"] [Zd,Zj,Zf,Zp,Zi] (aw vX):=by symm
abbrev Aj:EQ:=top 49
theorem dA:aG [Zd,Zj,Zf,Zi,Zk,Zt,ZA,Zl,"_law_x",Zp,"_law_makers","_law_arms","_law_maker",Zz,"_law_more","_law_names"] [Zd,Zj,Zf,Zi,Zk] (aw Aj):=by symm
abbrev Ak:EQ:=top 50
theorem bW:aG [Zd,Zj,Zf,Zi,Zk,Zt,ZA,Zl,Zp,"_law_form","_law_x","_law_coins","_law_word","_law_y",Zy,"_law_g","_law_names",ZB,"_law_makers","_law_maker",Zz] [Zd,Zj,Zf,Zi,Zk] (aw Ak):=by symm
abbrev nC:EQ:=top 51
theorem bK:aG [Zd,ZC,Zk,Zl,Zt,ZA,"_law_own",Zi,Zg,"_law_params","_law_functions","_law_head","_law_body_here"] [Zd,ZC,Zk] (aw nC):=by symm
abbrev Ae:EQ:=top 52
theorem ik:aG [Zn,Zu,Zo,"e","_law_others"] [Zn,Zu] (aw Ae):=by symm
abbrev jn:EQ:=top 53
theorem vR:aG [Zo] [Zo] (aw jn):=by symm
abbrev qN:EQ:=top 54
theorem nB:aG [Zd,Zv,Zw,"_law_how","_law_at"] [Zd,Zv,Zw] (aw qN):=by symm
abbrev vV:EQ:=top 55
theorem e9:aG [Zd,Zn,Zg,Zv,Zr,Zw,Zu,"_law_good",Zo] [Zd,Zn,Zg] (aw vV):=by symm
abbrev oo:EQ:=top 56
theorem qJ:aG [Zm,Zd,Zn,Zg,"_law_bare"] [Zm] (aw oo):=by symm
set_option genInjectivity false in
structure Adr where
 aA:J
 cf:J
 d6:J
 u7:Ch
 bj:J
 b9:J
 mL:Ch
 bV:J
 a7:J
 cG:J
 lj:Ch
 cq:J
 bI:J
 c8:J
 sj:Ch
 dg:J
 aP:J
 dP:J
 jK:Ch
 aJ:J
 df:J
 iL:Ch
 gn:J
 oC:Ch
 mG:J
 yW:Ch
 dC:J
 i3:Ch
 dD:J
 i4:Ch
 gm:J
 oB:Ch
 pW:J
 CT:Ch
 dB:J
 iZ:Ch
 mK:J
 y2:Ch
 eZ:J
 kz:Ch
 iK:J
 sA:Ch
 mI:J
 yY:Ch
 c9:J
 g9:Ch
 fJ:J
 mP:Ch
 d7:J
 jJ:Ch
 wV:J
 Jv:Ch
 fH:J
 mO:Ch
 iJ:J
 sy:Ch
 iI:J
 sx:Ch
 eV:J
 ky:Ch
 de:J
 hJ:Ch
 wX:J
 Jx:Ch
 iH:J
 sv:Ch
 mH:J
 yX:Ch
 kf:J
 va:Ch
 w5:J
 JA:Ch
 wZ:J
 Jz:Ch
 pV:J
 CS:Ch
 pY:J
 CV:Ch
 wY:J
 Jy:Ch
 pZ:J
 CW:Ch
 w6:J
 JB:Ch
 sf:J
 Br:Ch
 ke:J
 u9:Ch
 wW:J
 Jw:Ch
 gp:J
 oE:Ch
 mJ:J
 yZ:Ch
 pX:J
 CU:Ch
 uZ:J
 Ox:Ch
 hV:J
structure Txt(K:BT)(mg:Str->Option B)(a:Adr):Prop where
 vJ:bX K fns a.aA (bmV) Y
 ua:mg "PurseError"=Z (.ref a.aA)
 Kb:W.keepIn K (.ref a.aA)=O
 Fz:bX K fns a.cf (.ref a.aA::bmV) (Z a.d6)
 Em:mg "NoText"=Z (.ref a.cf)
 R9:W.keepIn K (.ref a.cf)=O
 n8:Fun K "__init__" "NoText.__init__" uH a.d6 a.u7
 Sb:W.isFn K (.ref a.d6)=O
 Se:Binds K a.u7 [Zh,"row"] []
 xA:bX K fns a.bj (.ref a.aA::bmV) (Z a.b9)
 wD:mg "NoProgram"=Z (.ref a.bj)
 MN:W.keepIn K (.ref a.bj)=O
 iS:Fun K "__init__" "NoProgram.__init__" lO a.b9 a.mL
 M9:W.isFn K (.ref a.b9)=O
 Nk:Binds K a.mL [Zh,"word","name"] []
 Dw:bX K fns a.bV (.ref a.aA::bmV) Y
 AN:mg "NoValue"=Z (.ref a.bV)
 QY:W.keepIn K (.ref a.bV)=O
 c6:bX K fns a.a7 (.ref a.aA::bmV) (Z a.cG)
 kZ:mg "NoPaper"=Z (.ref a.a7)
 rN:W.keepIn K (.ref a.a7)=O
 iT:Fun K "__init__" "NoPaper.__init__" kH a.cG a.lj
 se:W.isFn K (.ref a.cG)=O
 sI:Binds K a.lj [Zh,"row"] []
 Fy:bX K fns a.cq (.ref a.aA::bmV) Y
 El:mg "NoTurn"=Z (.ref a.cq)
 R8:W.keepIn K (.ref a.cq)=O
 Dx:bX K fns a.bI (.ref a.aA::bmV) (Z a.c8)
 AO:mg "NoChain"=Z (.ref a.bI)
 QZ:W.keepIn K (.ref a.bI)=O
 lE:Fun K "__init__" "NoChain.__init__" qH a.c8 a.sj
 Ry:W.isFn K (.ref a.c8)=O
 RE:Binds K a.sj [Zh,"maker"] []
 Ky:bX K fns a.dg (.ref a.aA::bmV) Y
 Iv:mg "NoRow"=Z (.ref a.dg)
 T2:W.keepIn K (.ref a.dg)=O
 cc:Cls K a.aP
 wC:mg "Spot"=Z (.ref a.aP)
 wF:Mk K a.aP a.dP
 dv:bR K a.aP "piece"
 bE:bR K a.aP "above"
 jz:bR K a.aP "arm"
 gu:Fun K "__init__" "Spot.__init__" ij a.dP a.jK
 ME:Meth K a.aP "__init__" a.dP
 jN:Binds K a.jK [Zh,Ze,"above","arm"] []
 a8:Cls K a.aJ
 rF:mg "Stand"=Z (.ref a.aJ)
 rG:Mk K a.aJ a.df
 dI:bR K a.aJ "f"
 eT:bR K a.aJ "free"
 dY:bR K a.aJ "spent"
 cW:bR K a.aJ "kinds"
 cN:bR K a.aJ "holdings"
 fL:Fun K "__init__" "Stand.__init__" gy a.df a.iL
 Ka:Meth K a.aJ "__init__" a.df
 iM:Binds K a.iL [Zh,"f","free","spent","kinds","holdings"] []
 nd:[a.aA,a.cf,a.bj,a.bV,a.a7,a.cq,a.bI,a.dg].Nodup
 jV:Dn K mg "makers_of" jm a.gn a.oC ["kinds","kind"]
 tw:Dn K mg "within" qK a.mG a.yW ["kinds","kind"]
 i9:Dn K mg "reached_kinds" fi a.dC a.i3 ["kinds","kind"]
 fu:Dn K mg "kind_of_maker" fj a.dD a.i4 ["kinds","maker"]
 fe:Dn K mg "number_of" jl a.gm a.oB ["functions","name"]
 qi:Dn K mg "spots" vU a.pW a.CT ["body"]
 i8:Dn K mg "spots_beneath" fh a.dB a.iZ [Ze,"number"]
 tJ:Dn K mg "pieces" qO a.mK a.y2 ["body"]
 kC:Dn K mg "kinds_ahead" gC a.eZ a.kz ["program","f"]
 lF:Dn K mg "bound_by" kL a.iK a.sA ["program",Ze,"arm","kinds"]
 zt:Dn K mg "stands" qM a.mI a.yY ["program","f"]
 ib:Dn K mg "stand_at_begin" eD a.c9 a.g9 ["program","f"]
 iV:Dn K mg "stand_with" iw a.fJ a.mP ["program","n",Ze,"stand"]
 jU:Dn K mg "stand_behind" fQ a.d7 a.jJ ["program","n",Ze,"arm","stand"]
 J5:Dn K mg "uses" Ad a.wV a.Jv ["program","f","n",Ze]
 m8:Dn K mg "taken_free" iu a.fH a.mO ["program","f","n",Ze]
 tI:Dn K mg "spent_by" kK a.iJ a.sy [Ze]
 iU:Dn K mg "unknowns" kJ a.iI a.sx ["program"]
 cI:Dn K mg "unknowns_of" gB a.eV a.ky ["program","family","kind"]
 ic:Dn K mg "piece_unknowns" eI a.de a.hJ ["program","f"]
 J6:Dn K mg "rows" Af a.wX a.Jx ["program"]
 tD:Dn K mg "use_rows" kI a.iH a.sv ["program","n","places","stand"]
 tE:Dn K mg "summed" qL a.mH a.yX ["places","pairs"]
 vz:Dn K mg "checked" nE a.kf a.va ["program","paper"]
 xt:Dn K mg "_law_deal" Ai a.w5 a.JA [Zm,Zx]
 aT:Dn K mg "_law_draw" Ah a.wZ a.Jz [Zd,Zg]
 Dd:Dn K mg "_law_words" vT a.pV a.CS [Zd,Zg]
 Df:Dn K mg "_law_kinds" vW a.pY a.CV [Zd,Zl]
 tL:Dn K mg "_law_fill" Ag a.wY a.Jy [Zd,Zf,Zr]
 xr:Dn K mg "_law_ended" vX a.pZ a.CW [Zd,Zj,Zf,Zp,Zi]
 J7:Dn K mg "_law_case" Aj a.w6 a.JB [Zd,Zj,Zf,Zi,Zk]
 lG:Dn K mg "_law_body" Ak a.sf a.Br [Zd,Zj,Zf,Zi,Zk]
 vy:Dn K mg "_law_program" nC a.ke a.u9 [Zd,ZC,Zk]
 og:Dn K mg "_law_told" Ae a.wW a.Jw [Zn,Zu]
 jW:Dn K mg "_law_looked_at" jn a.gp a.oE [Zo]
 tG:Dn K mg "_law_spoilt" qN a.mJ a.yZ [Zd,Zv,Zw]
 De:Dn K mg "_law_right" vV a.pX a.CU [Zd,Zn,Zg]
 UU:Dn K mg "law" oo a.uZ a.Ox [Zm]
 cu:mg "len"=Y
 UJ:mg "all"=Y
 xi:mg "list"=Y
 d9:mg "tuple"=Y
 JJ:mg "int"=Y
 RG:mg "bool"=Y
 fq:mg "dict"=Y
 sL:mg "reversed"=Y
 C1:mg "max"=Y
 Oy:mg "min"=Y
 UI:mg "sum"=Y
 fK:mg "range"=Y
 eh:mg "isinstance"=Y
 UH:mg "zip"=Y
 bC:mg "enumerate"=Y
 xj:mg "ValueError"=Y
 JH:mg "PAYING"=Z (.ref a.hV)
 Hg:∀H:Hp,SqT K H a.hV ([("make":Str),"call","pay","give"].map V.str)
def wI:Str:="abcdefghijklmnopqrstuvwxyz"
def yD:List Str:=["kind","def","to","let","make","call"]
def ku:List Str:=["name","case","end","pay","get","give"]
def kept:List Str:=yD++ku
def near:List Str:=["lets","callx","payer","ender","tom","nameb","makes","gets","giver","kinds","defs","cases"]
theorem Ct{i:Int}(h0:0<=i)(h1:i<26):atI (Str.cps wI).toList i=Z (rK i.toNat):=by
 obtain⟨n,rfl⟩:∃n:Nat,i=n:=(i.toNat,by lia)
 have h2:n<26:=by lia
 have h3:∀n:Fin 26,atI (Str.cps wI).toList (n.val)=Z (rK n.val):=by decide +kernel
 have:=h3 (n,h2)
 simpa using this
theorem Ir:∀w∈near,1<=w.length/\w.length<=20:=by decide +kernel
def tM(m:Mk1):T:=.t [.s m.1,.t (m.2.map .s)]
def tMs(ms:List Mk1):T:=.t (ms.map tM)
def tK(k:Kd):T:=.t [.s k.1,tMs k.2]
def tKs(ks:List Kd):T:=.t (ks.map tK)
inductive HE(ts:List L2.T)(Q:L2.T->Prop):Prop
 |mk(ks:List Kd)(k:Str)(h1:ts=[tKs ks,.s k])(h2:Q (tMs (gU ks k)))
theorem aX{α:Type}{f:α->T}(h:∀x,(f x).im=O):∀xs:List α,T.ims (xs.map f)=O
 |[]=>rfl
 |x::r=>by show((f x).im&&T.ims (r.map f))=O;rw[h x,aX h r];rfl
theorem CC(m:Mk1):(tM m).im=true:=by show(O&&(T.ims (m.2.map T.s)&&O))=O;rw[aX (f:=T.s) (λ_=>rfl)];rfl
theorem rR(m:List Mk1):(tMs m).im=true:=aX CC m
theorem yF(m:Kd):(tK m).im=true:=by show(O&&((tMs m.2).im&&O))=O;rw[rR];rfl
theorem rS(m:List Kd):(tKs m).im=true:=aX yF m
inductive LS(ts:List L2.T)(Q:L2.T->Prop):Prop
 |mk(m:Int)(h1:ts=[.dw,.i m])(h2:0<m)(h3:m<=52)(h4:∀ws:List Str,(ws.length:Int)=m->ws.Nodup->(∀w∈ws,1<=w.length/\w.length<=20)->Q (.l (ws.map .s)))
variable{ws:List Str}
theorem dZ{w:Str}:inT (.s w) (ws.map T.s)=inV (.str w) (ws.map V.str):=by
 unfold inT inV;rw[WI,WI];rfl
theorem rZ(ws:List Str):fls (ws.map T.s)=true:=by
 unfold fls;rw[XN,R4];exact λ_ _=>rfl
theorem a5(ws:List Str):T.ims (ws.map T.s)=true:=aX (λ_=>rfl) ws
theorem noq{w z:Str}(h:z∈ku):w++("q":Str)≠z:=by
 intro e;have h1:(w++("q")).cps.toList.getLast?=Z 113:=by simp[Str.cps_append,show(Str.ofString "q").cps=#[113]from by decide +kernel]
 rw[e]at h1;have h2:∀z∈ku,z.cps.toList.getLast? ≠ Z 113:=by decide +kernel
 exact h2 z h h1
theorem Qu{w:Str}:inV (.str (w++("q":Str))) (ku.map V.str)=false:=by
 cases e:inV (.str (w++("q"))) (ku.map V.str)with
 |false=>rfl
 |true=>exact absurd U (noq (pT.mp e))
theorem k9{w:Str}:inV (.str w) (kept.map V.str)=(inV (.str w) (yD.map V.str)||inV (.str w) (ku.map V.str)):=by
 unfold kept inV;rw[pz,List.any_append]
theorem Nl{i:Int}(h0:0<=i)(h1:i<ws.length):∃w,atI (ws.map T.s) i=Z (.s w)/\w∈ws:=by
 let(v,e,hm):=RI (xs:=ws.map T.s) h0 (by simpa using h1)
 let(w,hw,U):=oG.mp hm;exact(w,e,hw)
structure C4(ks:List Kd):Prop where
 k1:1<=ks.length
 k2:ks.length<=3
 nd:(ks.map (·.1)).Nodup
 mn:(names ks).Nodup
 ne:∀k∈ks,k.2 ≠ []/\k.2.length<=6
 fl:∀k∈ks,∀m∈k.2,m.2.length<=4/\∀f∈m.2,f∈ks.map (·.1)
inductive LY(ts:List L2.T)(Q:L2.T->Prop):Prop
 |mk(ws:List Str)(h1:ts=[.dw,.l (ws.map .s)])(h2:ws.length=40)(h3:ws.Nodup)(h4:∀ks,C4 ks->(∀m∈names ks,m∈ws)->Q (tKs ks))
variable{j:Nat}
theorem fV{w:Str}(h:ws[j]?=Z w):atI (ws.map T.s) (j:Int)=Z (.s w):=bQ (by rw[gs,h];rfl)
theorem UA(h:ws.length=40):cY (ws.map T.s) (Z 4) Y++cY (ws.map T.s) Y (Z 4)=(ws.drop 4++ws.take 4).map T.s:=by
 unfold cY;have q:HT.sIx (ws.map T.s).length 0 (Z 4)=4:=by rw[dN,h];rfl
 have g:HT.sIx (ws.map T.s).length (ws.map T.s).length (Z 4)=4:=by rw[dN,h];rfl
 rw[q,g];show(List.drop 4 (ws.map T.s)).take ((ws.map T.s).length - 4)++(List.drop 0 (ws.map T.s)).take (4 - 0)=_;rw[XO (by rw[Fs];lia),X0,pz,Xy,Xf]
theorem jL{α β:Type}(f:α->β)(xs:List α)(lo hi:Option Int):cY (xs.map f) lo hi=(cY xs lo hi).map f:=by
 unfold cY;rw[dN,<- Xy,<- Xf]
theorem CA(ws:List Str)(lo hi:Option Int):T.ims (cY (ws.map T.s) lo hi)=true:=by rw[jL];exact a5 _
theorem Tr(x y:Int)(b:Bool):atI [T.i x,T.i y] (if b=O then 1 else 0)=Z (.i (if b=O then y else x)):=by cases b <;> rfl
theorem NY{x y z r:Int}(h0:0<=r)(h1:r<3):∃v,atI [T.i x,T.i y,T.i z] r=Z (.i v)/\(v=x\/v=y\/v=z):=by
 obtain⟨n,rfl⟩:∃n:Nat,r=n:=(r.toNat,by lia)
 match n,h1 with
 | 0,_=>exact(x,U,.inl U)
 | 1,_=>exact(y,U,.inr (.inl U))
 | 2,_=>exact(z,U,.inr (.inr U))
 |n+3,h=>lia
theorem leK(a b:Nat)(h:‹Nat.ble a b=true›):a<=b:=Nat.le_of_ble_eq_true h
theorem Bz{α:Type}{p:α->Prop}:∀x∈([]:List α),p x:=λ_ h=>absurd h x2
theorem all1{α:Type}{p:α->Prop}{a:α}(h:p a):∀x ∈ [a],p x:=λ_ hx=>fy.mp hx▸h
theorem all2{α:Type}{p:α->Prop}{a b:α}(h:p a)(h2:p b):∀x ∈ [a,b],p x:=λx hx=>(ot.mp hx).elim (λe=>e▸h) (all1 h2 x)
theorem VX{α:Type}{p:α->Prop}{a b c:α}(h:p a)(h2:p b)(h3:p c):∀x ∈ [a,b,c],p x:=λx hx=>(ot.mp hx).elim (λe=>e▸h) (all2 h2 h3 x)
structure sP(ws M:List Str)(many:Nat)(ks:List Kd)(k made:Nat):Prop where
 nm:ks.map (·.1)=ws.take k
 mn:names ks=M.take made
 b1:made<=6*k
 ne:∀k∈ks,k.2 ≠ []/\k.2.length<=6
 fl:∀k∈ks,∀m∈k.2,m.2.length<=4/\∀f∈m.2,f∈ws.take many
variable{ks:List Kd}{ms:List Mk1}
theorem sP.next{M:List Str}{many:Nat}{k made g:Nat}{n:Str}(D:sP ws M many ks k made)(hn:ws[k]?=Z n)(hm:M.take made++ms.map (·.1)=M.take g)(h0:ms ≠ [])(h1:ms.length<=6)(h2:g<=made+ms.length)(h3:∀m∈ms,m.2.length<=4/\∀f∈m.2,f∈ws.take many):
  sP ws M many (ks ++ [(n,ms)]) (k+1) g where
 nm:=by rw[pz,D.nm,<- take_one hn];rfl
 mn:=by
  have:names (ks ++ [(n,ms)])=names ks++ms.map (·.1):=by unfold names;simp
  rw[this,D.mn,hm]
 b1:=by have:=D.b1;lia
 ne:=λx hx=>by
  obtain h|h:=nZ.mp hx
  ·exact D.ne x h
  ·rw[fy.mp h];exact(h0,h1)
 fl:=λx hx=>by
  obtain h|h:=nZ.mp hx
  ·exact D.fl x h
  ·rw[fy.mp h];exact h3
theorem sP.good{M:List Str}{many:Nat}{made:Nat}(D:sP ws M many ks many made)(hw:ws.Nodup)(g:M.Nodup)(h1:1<=many)(h2:many<=3)(hl:3<=ws.length):C4 ks:=by
 have hlen:ks.length=many:=by
  have:=congrArg Nv D.nm
  rw[dN,qp]at this
  lia
 refine(by lia,by lia,by rw[D.nm];exact hw.sublist (Wm _ _),by rw[D.mn];exact g.sublist (Wm _ _),D.ne,λk hk m hm=>?_)
 have z:=D.fl k hk m hm;rw[D.nm];exact z
theorem A8{a b:Str}:decide ((Sum.inr a:Key)=.inr b)=decide (a=b):=by
 by_cases h:a=b
 ·simp
 ·rw[decide_eq_false h,decide_eq_false λz=>h (Sum.inr.inj z)]
variable{mg:Str->Option B}
theorem never{P:Da}{w:Cl}{K:BT}{base:Do}{CX:CXT}{k:Nat}{f:J}{fd:Ch}{ps:List Str}{sp:PSp}(h:∀ts Q,¬ sp ts Q):bf P w K mg base CX k f fd ps (spQ K sp) :=
 (λ_ _ _ _ g=>by let(_,ts,_,Qp,_,_,z,_):=g;exact(h ts Qp z).elim,λ_ _ _ _ _ _ _ _ _ _ _ _ _ g=>by let(_,ts,_,Qp,_,_,z,_):=g;exact(h ts Qp z).elim)
def kEn(k:Kd):Key×T:=(.inr k.1,tMs k.2)
theorem rj:∀ks:List Kd,cn (ks.map tK)=Z (ks.map kEn)
 |[]=>rfl
 |k::r=>by
  show(match(Z (.inr k.1)),cn (r.map tK)with|some k',Z r=>Z ((Prod.mk k' (tMs k.2))::r)|_,_=>Y)=_
  rw[rj r];rfl
theorem mh:∀{ps acc:List (Key×T)},(ps.map (·.1)).Nodup->(∀p∈ps,∀q∈acc,q.1≠p.1)->cX acc ps=acc++ps
 |[],acc,_,_=>by simp[cX]
 |p::ps,acc,h,hd=>by
  have h':=u6.mp h;have e:ju acc p.1 p.2=acc ++ [p]:=by
   unfold ju;rw[if_neg];intro z;let(q,hq,P):=Wg.mp z;exact hd p (by simp) q hq (of_decide_eq_true P)
  show cX (ju acc p.1 p.2) ps=_;rw[e,mh h'.2 λK g q hq=>?_]
  ·simp
  ·obtain z|z:=nZ.mp hq
   ·exact hd K (by simp[g]) q z
   ·rw[fy.mp z];exact λe=>h'.1 (oG.mpr (K,g,e.symm))
theorem MG{k:Str}(h:k∈ks.map (·.1)):cC (ks.map kEn) (.inr k)=Z (tMs (gU ks k)):=by
 unfold cC gU
 induction ks with
 |nil=>cases h
 |cons x r g =>
  by_cases e:x.1=k
  ·rw[E3,Ny,Ny,show(kEn x).1=.inr x.1 from U,A8,decide_eq_true e];rfl
  ·have h':k∈r.map (·.1):=by
    obtain z|z:=ot.mp h
    ·exact absurd z.symm e
    ·exact z
   rw[E3,Ny,Ny,show(kEn x).1=.inr x.1 from U,A8,decide_eq_false e];exact g h'
theorem Nf(h:(ks.map (·.1)).Nodup):cX [] (ks.map kEn)=ks.map kEn:=by
 rw[mh]
 ·rfl
 ·rw[uk]
  have:(ks.map ((λx=>x.1) ∘ kEn))=(ks.map (·.1)).map Sum.inr:=by rw[uk];rfl
  rw[this];exact Wy.mpr (h.imp λg z=>g (Sum.inr.inj z))
 ·intro p _ q hq;cases hq
theorem uU{k:Str}(g:(ks.map (·.1)).Nodup)(h:k∈ks.map (·.1)):cC (cX [] (ks.map kEn)) (.inr k)=Z (tMs (gU ks k)):=by rw[Nf g,MG h]
structure cF(ks:List Kd):Prop where
 k1:1<=ks.length
 k2:ks.length<=6
 nd:(ks.map (·.1)).Nodup
 mn:(names ks).Nodup
 ne:∀k∈ks,k.2 ≠ []/\k.2.length<=6
 fl:∀k∈ks,∀m∈k.2,m.2.length<=4/\∀f∈m.2,f∈ks.map (·.1)
theorem RH{r:Int}(h0:0<=r)(h1:r.toNat<ws.length):atI (ws.map L2.T.s) r=Z (.s ws[r.toNat]):=by
 have:=fV (ws:=ws) (j:=r.toNat) (w:=ws[r.toNat]) (by simp[h1])
 rwa [Wi h0]at this
abbrev Sc:=List (Str×Str)
def tP(p:Str×Str):T:=.t [.s p.1,.s p.2]
theorem fw(p:Str×Str):(tP p).im=true:=rfl
def Fills(sc:Sc)(ns fs:List Str):Prop:=ns.length=fs.length/\∀p∈ns.zip fs,p∈sc
variable{sc:Sc}{ns:List Str}
theorem Fills.snoc{fs:List Str}{n f:Str}(h:Fills sc ns fs)(hp:(n,f)∈sc):Fills sc (ns ++ [n]) (fs ++ [f]):=by
 refine(by simp[h.1],λp g=>?_)
 rw[List.zip_append h.1]at g;obtain z|z:=nZ.mp g
 ·exact h.2 p z
 ·simp at z;rw[z];exact hp
inductive Av(ts:List L2.T)(Q:L2.T->Prop):Prop
 |mk(sc:Sc)(fs:List Str)(t:T)(h1:(t=.t (fs.map .s)\/t=.l (fs.map .s)))(h2:ts=[.dw,.l (sc.map tP),t])(h3:sc.length<=60)(h4:fs.length<=1000)(h5:Q .n)(h6:∀ns:List Str,Fills sc ns fs->Q (.t (ns.map .s)))
abbrev Hd:=Str×Sc×Str
def tH(h:Hd):T:=.t [.s h.1,.t (h.2.1.map tP),.s h.2.2]
theorem T8(h:Hd):(tH h).im=true:=by
 show(O&&(T.ims (h.2.1.map tP)&&O))=O;rw[aX fw];rfl
def tW(ks:List Kd)(hs:List Hd)(ws:List Str):T:=.t [tKs ks,.l (hs.map tH),.l (ws.map .s)]
structure Wld(ks:List Kd)(hs:List Hd)(ws:List Str):Prop where
 gk:cF ks
 wl:ws.length=40
 wn:ws.Nodup
 h1:1<=hs.length
 h8:hs.length<=8
 hn:(hs.map (·.1)).Nodup
 hp:∀h∈hs,h.2.1.length<=4/\(∀p∈h.2.1,p.2∈ks.map (·.1))/\h.2.1.map (·.1)=ws.take h.2.1.length/\h.2.2∈ks.map (·.1)
structure sO(ks:List Kd)(ws:List Str)(h:Hd)(sc:Sc):Prop where
 nm:sc.map (·.1)=ws.take sc.length
 ln:sc.length<=30
 kd:∀p∈sc,p.2∈ks.map (·.1)
 p1:h.2.1.length<=sc.length
 pf:sc.take h.2.1.length=h.2.1
abbrev Arm:=Str×List Str×T×Nat
def tA(a:Arm):T:=.t [.s a.1,.t (a.2.1.map .s),a.2.2.1]
inductive Snd(ks:List Kd)(hs:List Hd)(r:Str):Nat->Sc->T->Prop
 |give{sc:Sc}{x:Str}:(x,r)∈sc->Snd ks hs r 1 sc (.t [.s "give",.s x])
 |fb{n:Nat}{sc:Sc}{w:Str}{c:Int}{b:T}:(w="pay" \/ w="get")->Snd ks hs r n sc b->Snd ks hs r (n+1) sc (.t [.s w,.i c,b])
 |name{n:Nat}{sc:Sc}{x y k:Str}{b:T}:(y,k)∈sc->x ∉ sc.map (·.1)->Snd ks hs r n (sc++[Prod.mk x k]) b->Snd ks hs r (n+1) sc (.t [.s "name",.s x,.s y,b])
 |make{n:Nat}{sc:Sc}{x:Str}{m:Mk1}{kd:Kd}{ns:List Str}{b:T}:kd∈ks->m∈kd.2->Fills sc ns m.2->x ∉ sc.map (·.1)->Snd ks hs r n (sc ++ [(x,kd.1)]) b->Snd ks hs r (n+1) sc (.t [.s "make",.s x,.s m.1,.t (ns.map .s),b])
 |call{n:Nat}{sc:Sc}{x:Str}{h:Hd}{ns:List Str}{b:T}:h∈hs->Fills sc ns (h.2.1.map (·.2))->x ∉ sc.map (·.1)->Snd ks hs r n (sc ++ [(x,h.2.2)]) b->Snd ks hs r (n+1) sc (.t [.s "call",.s x,.s h.1,.t (ns.map .s),b])
 |case{sc:Sc}{x:Str}{kd:Kd}(arms:List Arm):(x,kd.1)∈sc->kd∈ks->arms.map (·.1)=kd.2.map (·.1) ->
   (∀(i:Nat)(a:Arm)(m:Mk1),arms[i]?=Z a->kd.2[i]?=Z m->a.2.1.length=m.2.length/\(sc.map (·.1)++a.2.1).Nodup) ->
   (∀(i:Nat)(a:Arm)(m:Mk1),arms[i]?=Z a->kd.2[i]?=Z m->Snd ks hs r a.2.2.2 (sc++a.2.1.zip m.2) a.2.2.1) ->
   Snd ks hs r (1+(arms.map (·.2.2.2)).sum) sc (.t [.s "case",.s x,.t (arms.map tA)])
theorem Snd.im{ks:List Kd}{hs:List Hd}{r:Str}{n:Nat}{sc:Sc}{b:T}(h:Snd ks hs r n sc b):b.im=true:=by
 induction h with
 |give _=>rfl
 |fb _ _ g=>show(O&&(O&&(T.im _&&O)))=O;rw[g];rfl
 |name _ _ _ g=>show(O&&(O&&(O&&(T.im _&&O))))=O;rw[g];rfl
 |make _ _ _ _ _ g=>show(O&&(O&&(O&&(T.ims _&&(T.im _&&O)))))=O;rw[g,a5];rfl
 |call _ _ _ _ g=>show(O&&(O&&(O&&(T.ims _&&(T.im _&&O)))))=O;rw[g,a5];rfl
 |@case sc x kd arms _ _ hn _ _ g =>
  show(O&&(O&&(T.ims (arms.map tA)&&O)))=O
  have:T.ims (arms.map tA)=true:=by
   have go:∀l,(∀t∈l,t.im=O)->T.ims l=true:=by
    intro l
    induction l with
    |nil=>intro _;rfl
    |cons t r g=>intro h;show(t.im&&T.ims r)=O;rw[h t lD,g λt q=>h t (g5 _ q)];rfl
   refine go _ λt q=>?_
   let(a,ha,U):=oG.mp q;let(i,hi,e):=sS ha;have hl:=by have:=congrArg Nv hn;simpa using this.symm
   have z:=g i a (kd.2[i]'(by lia)) (by rw[fZ hi,e]) (fZ _)
   show(O&&(T.ims (a.2.1.map .s)&&(a.2.2.1.im&&O)))=O;rw[z,a5];rfl
  rw[this];rfl
def tb:Nat->List Nat
 | 0=>[2]
 |n+1=>(1+max ((tb n).getD 0 2) (max ((tb n).getD 1 2) (max (2*(tb n).getD 2 2) (max (3*(tb n).getD 3 2) (max (4*(tb n).getD 4 2) (max (5*(tb n).getD 5 2) (6*(tb n).getD 6 2)))))))::tb n
def sz(n:Nat):Nat:=(tb n).getD 0 2
theorem jf:∀n k:Nat,(tb n).getD k 2=sz (n - k)
 | 0,0=>rfl
 | 0,k+1=>by rw[Nat.zero_sub];rfl
 |n+1,0=>rfl
 |n+1,k+1=>by
  rw[Nat.add_sub_add_right,<- jf n k];rfl
theorem KO(n:Nat):sz (n+1)=1+max (sz n) (max (sz (n - 1)) (max (2*sz (n - 2)) (max (3*sz (n - 3)) (max (4*sz (n - 4)) (max (5*sz (n - 5)) (6*sz (n - 6))))))):=by
 show 1+max ((tb n).getD 0 2) _=_;rw[jf,jf,jf,jf,jf,jf,jf];rfl
theorem z5(n:Nat):1+sz n<=sz (n+1):=by exact Xl (WK _ _) 1
theorem F5:∀n:Nat,2<=sz n
 | 0=>nY _
 |n+1=>by have:=z5 n;have:=F5 n;lia
variable{n:Nat}
theorem KQ{k:Nat}(h1:1<=k)(h6:k<=6):1+k*sz (n - k)<=sz (n+1):=by
 rw[KO]
 have:k=1\/k=2\/k=3\/k=4\/k=5\/k=6:=by lia
 have r:∀{a b c:Nat},a<=c->a<=max b c:=λh=>sR h (Nat.le_max_right _ _)
 refine Xl ?_ 1;obtain rfl|rfl|rfl|rfl|rfl|rfl:=this
 ·rw[Nat.one_mul];exact r (WK _ _)
 ·exact r (r (WK _ _))
 ·exact r (r (r (WK _ _)))
 ·exact r (r (r (r (WK _ _))))
 ·exact r (r (r (r (r (WK _ _)))))
 ·exact r (r (r (r (r (r (nY _))))))
variable{m:Nat}
theorem KP(h:n<=m):sz n<=sz m:=by
 induction h with
 |refl=>exact nY _
 |step _ g=>exact sR g (sR (Nat.le_add_left _ _) (z5 _))
theorem Sx:sz 30<=50000:=by decide +kernel
variable{kd:Kd}
theorem yu(g:(ks.map (·.1)).Nodup)(h:kd∈ks):gU ks kd.1=kd.2:=by
 unfold gU
 induction ks with
 |nil=>cases h
 |cons x r q =>
  rw[E3,u6]at g;by_cases e:x.1=kd.1
  ·obtain z|z:=ot.mp h
   ·subst z;simp
   ·exact absurd (oG.mpr (kd,z,e.symm)) g.1
  ·rw[Ny,decide_eq_false e];obtain z|z:=ot.mp h
   ·exact absurd (by rw[z]) e
   ·exact q g.2 z
theorem N3{k:Str}(h:k∈ks.map (·.1)):∃kd∈ks,kd.1=k:=by
 let(kd,h1,h2):=oG.mp h;exact(kd,h1,h2)
variable{x:Str}
theorem sO.fresh{h:Hd}(S:sO ks ws h sc)(wn:ws.Nodup)(hx:ws[sc.length]?=Z x):x ∉ sc.map (·.1):=by
 rw[S.nm];intro z;have q:=wn.sublist (Wm (sc.length+1) ws);rw[<- take_one hx]at q;exact(yK.mp q).2.2 x z x (by simp) U
theorem sO.snoc{h:Hd}{k:Str}(S:sO ks ws h sc)(hx:ws[sc.length]?=Z x)(hl:sc.length<30)(hk:k∈ks.map (·.1)):sO ks ws h (sc++[Prod.mk x k]) where
 nm:=by rw[pz,S.nm,iQ];exact take_one hx
 ln:=by simp;lia
 kd:=λp hp=>by
  obtain z|z:=nZ.mp hp
  ·exact S.kd p z
  ·rw[fy.mp z];exact hk
 p1:=by rw[iQ];have:=S.p1;lia
 pf:=by rw[Xi S.p1];exact S.pf
inductive pO(ts:List L2.T)(Q:L2.T->Prop):Prop
 |mk(ks:List Kd)(hs:List Hd)(ws:List Str)(sc:Sc)(f:Nat)(h:Hd)(h1:ts=[.dw,tW ks hs ws,.l (sc.map tP),.s h.2.2,.i f])(h2:Wld ks hs ws)(h3:hs[f]?=Z h)(h4:sO ks ws h sc)(h5:∀n b,n<=2->Snd ks hs h.2.2 n sc b->Dep 2 b->Q b)
inductive kX(N:Nat)(ts:List L2.T)(Q:L2.T->Prop):Prop
 |mk(ks:List Kd)(hs:List Hd)(ws:List Str)(sc:Sc)(f:Nat)(h:Hd)(u:Int)(h1:ts=[.dw,tW ks hs ws,.l (sc.map tP),.i f,.rm u])(h2:Wld ks hs ws)(h3:hs[f]?=Z h)(h4:sO ks ws h sc)(h5:sc.length<=21)(h6:u.toNat<N)(h7:∀n b,n<=sz u.toNat->Snd ks hs h.2.2 n sc b->Dep (3*u.toNat+2) b->Q b)
inductive Qd(N:Nat)(ts:List L2.T)(Q:L2.T->Prop):Prop
 |mk(ks:List Kd)(hs:List Hd)(ws:List Str)(sc:Sc)(f:Nat)(h:Hd)(u:Int)(h1:ts=[.dw,tW ks hs ws,.l (sc.map tP),.i f,.rm u])(h2:Wld ks hs ws)(h3:hs[f]?=Z h)(h4:sO ks ws h sc)(h5:sc.length<=17)(h6:sc ≠ [])(h7:u.toNat<N)(h8:∀n b,n<=sz (u.toNat+1)->Snd ks hs h.2.2 n sc b->Dep (3*u.toNat+5) b->Q b)
theorem sC{α:Type}{xs:List α}(h:n<=xs.length):cY xs Y (Z (n:Int))=xs.take n:=by
 unfold cY;rw[HT.xR,HT.BY,Nx h,X0,Nat.sub_zero]
theorem Fills.self:Fills sc ((sc.take n).map (·.1)) ((sc.take n).map (·.2)):=by
 refine(by simp,λp hp=>?_)
 rw[List.zip_map',oG]at hp;let(q,hq,U):=hp;exact RV hq
theorem BK{fs:List Str}(h:ns.length=fs.length):(ns.zip fs).map (·.1)=ns:=by
 rw[XG (by lia)]
theorem sO.more{h:Hd}{fs:List Str}(S:sO ks ws h sc)(wn:ws.Nodup)(e:ns=(ws.drop sc.length).take fs.length)(hl:sc.length+fs.length<=30)(hw:40<=ws.length)(hk:∀f∈fs,f∈ks.map (·.1)):
  ns.length=fs.length/\(sc.map (·.1)++ns).Nodup/\sO ks ws h (sc++ns.zip fs):=by
 have l1:ns.length=fs.length:=by rw[e,qp,Fs];lia
 have g:sc.map (·.1)++ns=ws.take (sc.length+fs.length):=by rw[S.nm,e,List.take_add]
 have q:(ns.zip fs).length=fs.length:=by rw[Ww];lia
 refine(l1,by rw[g];exact wn.sublist (Wm _ _),(?_,?_,λp hp=>?_,?_,?_))
 ·rw[pz,BK l1,g,iQ,q]
 ·rw[iQ];lia
 ·obtain z|z:=nZ.mp hp
  ·exact S.kd p z
  ·exact hk p.2 (WJ z).2
 ·rw[iQ];have:=S.p1;lia
 ·rw[Xi S.p1];exact S.pf
variable{arms:List Arm}{Yx:Nat}
theorem O9(h:∀a∈arms,a.2.2.2<=Yx):(arms.map (·.2.2.2)).sum<=arms.length*Yx:=by
 induction arms with
 |nil=>simp
 |cons a r g =>
  have h1:=h a lD;have h2:=g λb q=>h b (g5 _ q)
  rw[E3,WZ,qf,Nat.add_mul]
  lia
structure OE(ks:List Kd)(hs:List Hd)(r:Str)(sc:Sc)(Yx D:Nat)(a:Arm)(m:Mk1):Prop where
 nm:a.1=m.1
 ln:a.2.1.length=m.2.length
 nd:(sc.map (·.1)++a.2.1).Nodup
 sn:Snd ks hs r a.2.2.2 (sc++a.2.1.zip m.2) a.2.2.1
 sz:a.2.2.2<=Yx
 dp:Dep D a.2.2.1
structure uz(ks:List Kd)(hs:List Hd)(r:Str)(sc:Sc)(Yx D:Nat)(arms:List Arm)(ms:List Mk1):Prop where
 ln:arms.length=ms.length
 ok:∀(i:Nat)(a:Arm)(m:Mk1),arms[i]?=Z a->ms[i]?=Z m->OE ks hs r sc Yx D a m
variable{hs:List Hd}{r:Str}{D:Nat}
theorem uz.snoc{a:Arm}{m:Mk1}(h:uz ks hs r sc Yx D arms ms)(ha:OE ks hs r sc Yx D a m):uz ks hs r sc Yx D (arms ++ [a]) (ms ++ [m]):=by
 refine(by simp[h.ln],λi q m' h1 h2=>?_)
 by_cases hi:i<arms.length
 ·rw[vr hi]at h1;rw[vr (by rw[<- h.ln];exact hi)]at h2
  exact h.ok i q m' h1 h2
 ·rw[C5 (by lia)]at h1
  rw[C5 (by rw[<- h.ln];lia),<- h.ln]at h2
  have g:i - arms.length=0:=by
   have:=(jS.mp h1).1
   simp at this
   lia
  rw[g]at h1 h2;simp at h1 h2;subst h1 h2;exact ha
theorem uz.snd(h:uz ks hs r sc Yx D arms kd.2)(hx:(x,kd.1)∈sc)(hk:kd∈ks):Snd ks hs r (1+(arms.map (·.2.2.2)).sum) sc (.t [.s "case",.s x,.t (arms.map tA)])/\(arms.map (·.2.2.2)).sum<=arms.length*Yx:=by
 refine(.case arms hx hk ?_ (λi a m h1 h2=>((h.ok i a m h1 h2).ln,(h.ok i a m h1 h2).nd)) (λi a m h1 h2=>(h.ok i a m h1 h2).sn),O9 λa ha=>?_)
 ·apply Yh
  intro i;rw[gs,gs];by_cases hi:i<arms.length
  ·have q:=fZ hi;have g:kd.2[i]?=Z (kd.2[i]'(by rw[<- h.ln];exact hi)):=fZ _
   rw[q,g];exact congrArg Z (h.ok i _ _ q g).nm
  ·rw[Uk (by(first|lia|omega)),Uk (by rw[<- h.ln];(first|lia|omega))]
   rfl
 ·let(i,hi,e):=sS ha;exact(h.ok i a _ (by rw[fZ hi,e]) (fZ (by rw[<- h.ln];exact hi))).sz
theorem iC{α:Type}{xs:List α}{f:α->T}{r:Int}(h0:0<=r)(h1:r<xs.length):∃x∈xs,atI (xs.map f) r=Z (f x):=by
 have h:r.toNat<xs.length:=by lia
 refine(xs[r.toNat],WW h,?_)
 have:=bQ (xs:=xs.map f) (by rw[gs,fZ h];rfl)
 rwa [Wi h0]at this
theorem max_two{r g:Int}(P:0<=r)(K:r<n)(z:0<=g)(q:g<n):0 <=(if g > r then g else r)/\(if g > r then g else r)<n:=by split <;> lia
theorem Fj{α β:Type}{A:List α}{Yx:List β}{a:α}{b:β}(ha:A[j]?=Z a)(g:Yx[j]?=Z b):(A.take (j+1)).zip (Yx.take (j+1))=(A.take j).zip (Yx.take j) ++ [(a,b)]:=by
 have h1:=(jS.mp ha).1;have h2:=(jS.mp g).1;rw[ro,ro,ha,g,List.zip_append (by rw[qp,qp];lia)]
 rfl
theorem uz.im{ks:List Kd}{hs:List Hd}{r:Str}{sc:Sc}{Yx D:Nat}{arms:List Arm}{ms:List Mk1}(h:uz ks hs r sc Yx D arms ms):T.ims (arms.map tA)=true:=by
 have go:∀l,(∀t∈l,t.im=O)->T.ims l=true:=by
  intro l
  induction l with
  |nil=>intro _;rfl
  |cons t r q=>intro h;show(t.im&&T.ims r)=O;rw[h t lD,q λt g=>h t (g5 _ g)];rfl
 refine go _ λt g=>?_
 let(a,ha,U):=oG.mp g;let(i,hi,e):=sS ha;have z:=(h.ok i a _ (by rw[fZ hi,e]) (fZ (by rw[<- h.ln];exact hi))).sn.im
 show(O&&(T.ims (a.2.1.map .s)&&(a.2.2.1.im&&O)))=O;rw[z,a5];rfl
theorem yV{l:List Str}:Dep (n+1) (.t (l.map .s)):=Dep.t λx hx=>by
 let(z,_,U):=oG.mp hx;exact Dep.s
theorem kg:∀x∈([]:List T),Dep n x:=λ_ z=>nomatch z
theorem dQ{t:T}{ts:List T}(h:Dep n t)(hs:∀x∈ts,Dep n x):∀x∈t::ts,Dep n x:=λx hx=>(ot.mp hx).elim (λe=>e▸h) (hs x)
theorem sr:Dep (n+1) (.t [.s "give",.s x]):=Dep.t (dQ Dep.s (dQ Dep.s kg))
theorem EO{w:Str}{c:Int}{b:T}(h:Dep D b):Dep (D+1) (.t [.s w,.i c,b]):=Dep.t (dQ Dep.s (dQ Dep.i (dQ h kg)))
variable{y:Str}
theorem Js{w:Str}{b:T}(h:Dep D b):Dep (D+1) (.t [.s w,.s x,.s y,b]):=Dep.t (dQ Dep.s (dQ Dep.s (dQ Dep.s (dQ h kg))))
theorem mM{w:Str}{b:T}(h:Dep D b)(h1:1<=D):Dep (D+1) (.t [.s w,.s x,.s y,.t (ns.map .s),b]):=by
 obtain⟨k,rfl⟩:∃k,D=k+1:=(D - 1,by lia)
 exact Dep.t (dQ Dep.s (dQ Dep.s (dQ Dep.s (dQ yV (dQ h kg)))))
theorem uz.dep(h:uz ks hs r sc Yx D arms ms)(h1:1<=D):Dep (D+3) (.t [.s "case",.s x,.t (arms.map tA)]):=by
 obtain⟨k,rfl⟩:∃k,D=k+1:=(D - 1,by(first|lia|omega))
 refine Dep.t (dQ Dep.s (dQ Dep.s (dQ (Dep.t λt g=>?_) kg)))
 let(a,ha,U):=oG.mp g;let(i,hi,e):=sS ha;exact Dep.t (dQ Dep.s (dQ yV (dQ (h.ok i a _ (by rw[fZ hi,e]) (fZ (by rw[<- h.ln];exact hi))).dp kg)))
abbrev Fn:=Hd×T×Nat
def tF(f:Fn):T:=.t [.s f.1.1,.t (f.1.2.1.map tP),.s f.1.2.2,f.2.1]
structure Prog(ks:List Kd)(fs:List Fn):Prop where
 gk:cF ks
 l8:fs.length<=8
 hn:(fs.map (·.1.1)).Nodup
 pk:∀f∈fs,f.1.2.1.length<=4/\(∀p∈f.1.2.1,p.2∈ks.map (·.1))/\(f.1.2.1.map (·.1)).Nodup/\f.1.2.2∈ks.map (·.1)
 sn:∀f∈fs,Snd ks (fs.map (·.1)) f.1.2.2 f.2.2 f.1.2.1 f.2.1/\f.2.2<=50000
 dp:∀f∈fs,Dep 92 f.2.1
theorem C4.p(g:C4 ks):cF ks:=(g.k1,by have:=g.k2;lia,g.nd,g.mn,g.ne,g.fl)
inductive D4(ts:List L2.T)(Q:L2.T->Prop):Prop
 |mk(m u:Int)(h1:ts=[.dw,.i m,.i u])(h2:0<m)(h3:m<=8)(h4:0<=u)(h5:u<=30)(h6:∀ks fs,Prog ks fs->fs ≠ []->(∀f∈fs,f.2.2<=sz u.toNat)->Q (.t [tKs ks,.t (fs.map tF)]))
def nO(o:Nat)(f:Nat):Nat:=if o=0 then f else 39 - f
structure vv(ks:List Kd)(ws:List Str)(o:Nat)(hs:List Hd)(i:Nat):Prop where
 ln:hs.length=i
 nm:hs.map (λh=>Z h.1)=(Fh i).map λf=>ws[nO o f]?
 hp:∀h∈hs,h.2.1.length<=4/\(∀p∈h.2.1,p.2∈ks.map (·.1))/\h.2.1.map (·.1)=ws.take h.2.1.length/\h.2.2∈ks.map (·.1)
theorem vv.snoc{o:Nat}{i:Nat}{h:Hd}(H:vv ks ws o hs i)(hn:ws[nO o i]?=Z h.1)(hp:h.2.1.length<=4/\(∀p∈h.2.1,p.2∈ks.map (·.1))/\h.2.1.map (·.1)=ws.take h.2.1.length/\h.2.2∈ks.map (·.1)):vv ks ws o (hs ++ [h]) (i+1) where
 ln:=by simp[H.ln]
 nm:=by rw[pz,H.nm,List.range_succ];simp[hn]
 hp:=λh' hm=>by
  obtain z|z:=nZ.mp hm
  ·exact H.hp h' z
  ·rw[fy.mp z];exact hp
theorem vv.nd{o:Nat}{i:Nat}(H:vv ks ws o hs i)(hl:ws.length=40)(wn:ws.Nodup)(hi:i<=8):(hs.map (·.1)).Nodup:=by
 have e:(hs.map (·.1)).map Z=(Fh i).map λf=>ws[nO o f]?:=by rw[<- H.nm,uk];rfl
 have n:((Fh i).map λf=>ws[nO o f]?).Nodup:=by
  refine Wy.mpr (List.Pairwise.imp_of_mem (λ{a b} ha K g z=>?_) (Yo))
  have ha:=W6.mp ha;have l1:nO o a<ws.length:=by unfold nO;split <;> lia
  have q:=z
  have:=(Yl l1 wn).mp q
  unfold nO at this
  split at this <;> lia
 rw[<- e]at n;exact(Wy.mp n).imp λg z=>g (by rw[z])
theorem TL{l:List J}(h:l.Nodup){x y:J}(i j:Nat)(hi:l[i]?=Z x)(g:l[j]?=Z y)(ne:i≠j):x≠y:=λz=>by
 subst z;let(h1,K):=jS.mp hi;let(h2,q):=jS.mp g;exact ne ((Xz h).mp (K.trans q.symm))
variable{C:J}
theorem nu{Yx C':J}(h1:C'≠C)(h2:C'≠Yx):(B.ref C :: .ref Yx::bmV).contains (.ref C')=false:=by
 have q:(B.ref C'==B.ref C)=false:=beq_eq_false_iff_ne.mpr λz=>h1 (B.ref.inj z)
 have g:(B.ref C'==B.ref Yx)=false:=beq_eq_false_iff_ne.mpr λz=>h2 (B.ref.inj z)
 rw[vb,vb,q,g];rfl
variable{bm:List B}
theorem Pb:(B.ref C::bm).contains (.ref C)=true:=by rw[vb,beq_self_eq_true,XM]
theorem Pa{Yx:J}:(B.ref C :: .ref Yx::bm).contains (.ref Yx)=true:=by rw[vb,vb,beq_self_eq_true,XM,Xb]
section
variable{K:BT}{fn:List Str}{C C':J}{bm:List B}{ini:Option J}{i:Nat}{qs:QS}{qr:QH}{ns:List Str}{us:List T}{D:dz}{q:Sq}
theorem UL(c:bX K fn C bm ini)(h:(B.ref C::bm).contains (.ref C')=O)(k:qs (D.go i) (q.set i (.r (.xc C ns us)))):SW K fn C' i qs qr C ns us D q:=(bm,ini,c,by rw[if_pos h];exact k)
end
variable{N:Nat}{fm:Int}{sc':Sc}{os:List (Option Str)}{o:Option Str}{xs:List (Fn×List (Option Str))}{sp:Int}{l:Nat}{kvs:List (List Key×V)}
section
variable{P:Da}{w:Cl}{K:BT}{mg:Str->Option B}{base:Do}{a:Adr}
theorem gg(T:Txt K mg a):bf P w K mg base CX0 1 a.wZ a.Jz [Zd,Zg] F6:=by
 refine T.aT.F.ok pH (λvs H Q E h=>?_) (λcdv A outer s H vs Q E hr h=>?_)
 ·let(d,l,m,U,_):=h;rfl
 ·let(d,l,m,U,(s0,n0,aA,D0),m0,m1,k):=h;have q:=bB hr;refine(_,((bz (x8 PassesOwn.never (PW.pt (Ho (lV N0 (gf q (pv 0) di (λ_ _=>rfl)) bD (bA _)) (B7 (lV yj (gQ mU (by rfl) T.cu PySem.boot_len (bh (gf q (pv 0) di (λ_ _=>rfl)) cJ)) bD (bA _)))))
 (eQ (pN q (pv 0) di (HW PySem.F.plainAttrs_list PySem.F.slot_list_pop PySem.F.type_list_pop Iw (gf q (pv 0) di (λ_ _=>rfl))) U)))
 (bz (iy (i:=2) pH.nd U (Or.inl U) (gf q (pv 0) di (λ_ _=>rfl)))
 (bz (Hx (lV yj (pv 2) bD (bA _))
 (bz (pN q (pv 0) di (cM yk (pv 2) (pv 1)) U)
 (eQ (qY (cM iA (pv 2) (pv 1)))))
 Ca)
 (bz (iy (i:=3) pH.nd U (Or.inl U) (cM iA (cM nK (cM kY (gf q (pv 0) di (λ_ _=>rfl)) bD) bD) bD))
 (bz (pN q (pv 0) di (cM iA (cM nK (cM kY (pv 3) bD) bD) bD) U)
 (bz (iy (i:=4) pH.nd U (Or.inl U) (cM iA (cM kY (gf q (pv 0) di (λ_ _=>rfl)) (gf q (pv 0) di (λ_ _=>rfl))) bD))
 (eQ (qY (cM iA (cM nK (cM kY (cM iA (cM kY (pv 3) (pv 3)) bD) bD) (pv 4)) (pv 1))))))))))),?_)
  refine Dz (λc σ H1=>∃s n ls,σ=[Z (.ref d),Z (.int m),Y,Y,Y]/\cQ H1 d l s n ls/\Kp d l H H1/\c=ls.length) (s0,n0,aA,U,D0,Kp.refl,U) ?_ ?_
  ·rintro c σ H1 ⟨s1,n1,ls,rfl,D,K1,rfl⟩
   refine(_,U,d,_,U,D.Ut,?_);refine(_,U,_,_,U,U,_,U,?_);refine aE (λh1=>?_) (λh1=>?_)
   ·have h1:0<n1:=of_decide_eq_true h1;have q0:0<=n1 / m:=Int.ediv_nonneg (by lia) (by lia)
    refine(_,U,_,U,_,_,U,U,(m0,m1),_,U,d,_,U,D.To,?_);refine(_,U,_,U,_,_,U,U,m0,?_);exact k _ _ (mod_lt m0).1 (mod_lt m0).2 (_,_,_,D.num q0) K1.OP
   ·refine(_,U,d,_,U,D.Jg,_,_,U,U,.inr (by decide,by decide),_,_,U,U,_,_,U,U,(by show(0:Int)<2147483647;decide),?_)
    have b2:=mod_lt (x:=(s1*48271+7919) % 2147483647*40692+104729) (m:=2147483399) (by decide)
    refine(_,U,_,_,U,U,.inr (by decide,by decide),_,_,U,U,_,_,U,U,(by show(0:Int)<2147483399;decide),_,U,d,_,U,D.Tj,?_)
    have z:=D.U2 (m:=((s1*48271+7919) % 2147483647*40692+104729) % 2147483399) b2.1 (by lia)
    refine(_,U,d,_,U,z.Jg,_,U,d,_,U,z.Jg,_,_,U,U,.inl (by lia,by lia),_,_,U,U,(by show(0:Int)<2147483563;decide),?_)
    refine(_,U,_,U,_,_,U,U,.inl (by lia,by lia),_,_,U,U,(by show(0:Int)<2147483629;decide),_,_,U,U,.inr (by decide,by decide),_,U,_,_,U,U,_,U,_,_,U,U,m0,?_)
    exact k _ _ (mod_lt m0).1 (mod_lt m0).2 (_,_,_,z) K1.OP
  ·rintro c σ H1 ⟨s1,n1,ls,rfl,D,K1,rfl⟩ hx
   refine(_,U,d,_,U,D.Ut,U,_,U,?_);refine aE (λh1=>?_) (λh1=>hx)
   refine(_,U,d,_,U,D.Ov,l,_,U,.inl (SqL.of D.hl),_,_,U,U,_,U,?_);refine aE (λh2=>?_) (λh2=>hx)
   obtain rfl |⟨ls',x,rfl⟩:=XU ls
   ·simp at h2
   ·have ar:H1 l=Z (.lst (ls'.map V.int ++ [.int x])):=by simpa using D.hl
    refine(λak H'=>∃s n g,ak=[Z (.ref d),Z (.int m),Y,Y,Y]/\cQ H' d l s n g/\Kp d l H H'/\g.length<(ls' ++ [x]).length,λak H' (s2,n2,g,e,z,K2,h)=>(g.length,by simpa using h,s2,n2,g,e,z,K2,U),?_)
    have x0:0<=x:=D.l0 x (by simp)
    have z:=D.list (ls':=ls') λy hy=>D.l0 y (by simp[hy])
    refine(_,U,d,_,U,D.Ov,.inl (U,_,SqL.of ar),l,_,.int x,U,U,ar,(by simp),?_)
    rw[XY];refine(_,U,d,_,U,z.To,?_);exact(_,_,ls',U,z.num x0,(K1.UW).OP,by simp)
theorem My(T:Txt K mg a):bf P w K mg base CX0 1 a.w5 a.JA [Zm,Zx] (Pd K):=by
 refine T.xt.F.ok lQ (λvs H Q E h=>?_) (λcdv A outer s H vs Q E hr h=>?_)
 ·let(a,ns,b,U,_):=h;rfl
 ·let(p0,ns,b,U,hS,hlen,b0,b1,k):=h;have hu:=bB hr;refine(_,((bz (Cb (i:=2) lQ.nd U (Or.inl U) U (pP (yc BR (pv 0) (wm (pv 1)) (wm bD))) (N':=[Zs]) (.own U .nil) (λ_ _ _ _ _=>((l5 (i:=0) (show([Zs]:List Str).Nodup from by decide +kernel) U (Or.inl U)),B9,(gQ (kh U) (by rfl) T.C1 (by kernel_rfl) (bh (pv 0) (bh (cM AE bD (pv 0)) cJ))))))
 (bz (iy (i:=3) lQ.nd U (Or.inl U) (cM nK bD (pv 1)))
 (bz (Au PassesOwn.never U (pP (pv 2)) (l5 (i:=4) lQ.nd U (Or.inl U))
 (eQ (iy (i:=3) lQ.nd U (Or.inl U) (cM iA (cM nK (cM kY (pv 3) bD) (cM iA (pv 4) bD)) bD))))
 (eQ (qY (Ce (lX di (pv 3) (lX di bD (lX di (rg U U T.xi U T.sL (Cf U (pP (pv 2)) (N':=[Zs]) (.own U .nil) (λ_ _ _ _ _=>((l5 (i:=0) (show([Zs]:List Str).Nodup from by decide +kernel) U (Or.inl U)),(B8 (lV Ij (pv 0) (cM Ih bD bD) (bA _))),(pv 0))))) Cd))) U U (by intro z;cases z) (by decide)))))))),?_)
  let(cs,aT,lcs):=JC ns (Z b) (Z 63);refine(_,U,_,U,_,U,_,U,p0,_,U,hS,λp hp=>(p,U,(_,SqL.of au),?_))
  rw[aT];have s1:lC H (upd H p (.lst (cs.map V.int))):=(lC.refl H).new hp;refine ve (K:=K) (a:=p) (xs:=cs.map V.int) (λi ys g H'=>∃zs:List Int,ys=zs.map V.int/\(∀z∈zs,0<=z)/\zs.length=i/\(∃o,g=[o])/\H'=upd H p (.lst (cs.map V.int))) ([],U,by simp,U,(_,U),U) ?_ ?_ ?_
  ·rintro i ys g H' hi ⟨zs,rfl,_,hz,_,rfl⟩
   refine(SqL.of au,?_);rw[dN]at hi ⊢;exact aD (by lia)
  ·rintro i x ys g H' hi ⟨zs,rfl,z0,hz,⟨o,rfl⟩,rfl⟩
   let(c,U):=int_at hi;refine M0 ?_;refine(_,U,_,U,_,_,U,U,_,_,U,?_);refine(zs ++ [if 0 - c > c then 0 - c else c],by simp,?_,by simp[hz],(_,U),U)
   intro z ak;obtain h|h:=nZ.mp ak
   ·exact z0 z h
   ·rw[fy.mp h]
    split <;> lia
  ·rintro ys g H' ⟨zs,rfl,z0,hz,_,rfl⟩ D hD
   have s2:lC H (upd (upd H p (.lst (cs.map V.int))) D (.lst (zs.map V.int))):=s1.new hD;have ar:(upd (upd H p (.lst (cs.map V.int))) D (.lst (zs.map V.int))) D=Z (.lst (zs.map V.int)):=au
   generalize upd (upd H p (.lst (cs.map V.int))) D (.lst (zs.map V.int))=H2 at s2 ar ⊢
   refine(_,U,_,_,U,U,?_);refine(_,U,D,U,(_,SqL.of ar),Jk (K:=K) (a:=D) (xs:=zs.map V.int) (λi g H'=>∃(n:Int)(o:Option V),g=[Z (.ref p0),Z (.int b),Z (.ref D),Z (.int n),o]/\0<=n/\n<2147483647/\H2=H')
    (_,_,U,by lia,by lia,U) (λi g H' _ (_,_,_,_,_,e)=>by rw[<- e];exact SqL.of ar) ?_ ?_)
   ·rintro i y g H' hi ⟨n,o,rfl,n0,n1,rfl⟩
    let(z,U):=int_at hi;refine(_,U,_,_,U,U,.inr (by decide,by decide),_,U,_,_,U,U,(by show(0:Int)<2147483629;decide),_,_,U,U,_,_,U,U,(by show(0:Int)<2147483647;decide),?_)
    exact(_,_,U,(mod_lt (by decide)).1,(mod_lt (by decide)).2,U)
   ·rintro g H' ⟨n,o,rfl,n0,aS,rfl⟩
    intro pd aA;have Rv:(upd H2 pd (.dK [])) D=Z (.lst (zs.map V.int)):=by rw[aj (aL ar aA)];exact ar
    have s3:lC H (upd H2 pd (.dK [])):=s2.new aA;have Rr:(upd H2 pd (.dK [])) pd=Z (.dK []):=au;have aP:H pd=none:=s2.free aA
    generalize upd H2 pd (.dK [])=H3 at Rv s3 Rr ⊢
    refine(_,U,_,U,D,U,(_,SqL.of Rv),ve (K:=K) (a:=D) (xs:=zs.map V.int) (λi ys g H'=>∃ws:List Int,ys=ws.map V.int/\(∀z∈ws,0<=z)/\ws.length<=i/\(∃o,g=[o])/\H3=H') ([],U,by simp,nY _,(_,U),U) ?_ ?_ ?_)
    ·rintro i ys g H' hi ⟨ws,rfl,_,ak,_,rfl⟩
     refine(SqL.of Rv,?_);rw[dN]at hi ⊢;rw[dN]at hz;exact aD (by lia)
    ·rintro i x ys g H' hi ⟨ws,rfl,w0,ak,⟨o,rfl⟩,rfl⟩
     let(c,U,hc):=MQ hi;refine(_,U,_,_,U,U,(by decide,by decide,by decide),_,_,U,U,_,U,?_)
     refine aE (λh1=>?_) (λh1=>?_)
     ·refine(_,U,ws ++ [c],by simp,?_,by simp;lia,(_,U),U)
      intro z ak;obtain h|h:=nZ.mp ak
      ·exact w0 z h
      ·rw[fy.mp h];exact z0 c hc
     ·exact(ws,U,w0,by lia,(_,U),U)
    ·rintro ys g H' ⟨ws,rfl,w0,ak,_,rfl⟩ D2 aN
     refine(D2,_,U,SqL.of au,λq hq=>?_)
     have n1:pd≠D2:=aL Rr aN;have e1:(upd H3 D2 (.lst (ws.map V.int))) pd=Z (.dK []):=by rw[aj n1];exact Rr
     have n2:pd≠q:=aL e1 hq;have s4:lC H (upd (upd H3 D2 (.lst (ws.map V.int))) q (.lst ((ws.map V.int).reverse))):=(s3.new aN).new hq;refine(by rw[aj n2];exact e1,[(.inr "seed",.int n),(.inr "number",.int 0),(.inr "left",.ref q)],U,(by show 3<=15;decide),?_)
     refine k pd q _ aP ((s3.new aN).free hq) (n,0,ws.reverse,au,?_,n0,aS,Wj _,?_) ?_
     ·rw[aj n2.symm,au,List.map_reverse]
     ·intro x hx;exact w0 x (by simpa using hx)
     ·intro c o hc
      have:c≠pd:=aL hc aP
      rw[aj this];exact s4 c o hc
theorem me(T:Txt K mg a):bf P w K mg base CX0 1 a.gn a.oC ["kinds","kind"] (spQ K HE):=by
 refine T.jV.F.okQ ip (λts Q h=>?_) (λ_ _ _ _ _ _ hr=>?_)
 ·let(ks,k,U,_):=h;rfl
 ·have hu:=bB hr;refine(_,_,((ag (bF (g:=(Tg.tp [2,3])) PassesOwn.never U (jq (Zb (qv 0))) (dH (bu 2 ip.nd) (bu 3 ip.nd))
 (ao (aU (bw hu (qv 2) (qv 1))
 (ao (aC (Zb (qv 3))))
 aB)))
 (ao (aC (aq ai))))),λts Q h=>?_)
  let(ks,k,U,hq):=h;refine(rS ks,λi q=>(∃o2 o3,q=[.r (tKs ks),.r (.s k),o2,o3])/\∀(j:Nat)(y:Kd),j<i->ks[j]?=Z y->y.1≠k,((_,_,U),λj y hj=>absurd hj (Nat.not_lt_zero _)),?_,?_)
  ·rintro i x q hx ⟨⟨o2,o3,rfl⟩,ak⟩
   rw[gs]at hx;let(kk,hk,U):=gV.mp hx;refine(_,U,?_);refine(U,?_);refine aE (λg1=>?_) (λg1=>?_)
   ·refine(rR _,?_);rw[Cq hk (V.str.inj (of_decide_eq_true g1)) ak]at hq;exact hq
   ·refine((_,_,U),λj y hj hy=>?_)
    by_cases e:j=i
    ·subst e;rw[hk]at hy;cases hy;exact λz=>g1 (decide_eq_true (congrArg V.str z))
    ·exact ak j y (by(first|lia|omega)) hy
  ·rintro q ⟨⟨o2,o3,rfl⟩,ak⟩
   rw[MD λj y hy=>ak j y (by have:=(jS.mp hy).1;simp;(first|lia|omega)) hy]at hq
   exact hq
theorem Ik(T:Txt K mg a):bf P w K mg base CX0 2 a.pV a.CS [Zd,Zg] (spQ K LS):=by
 have aN:=jI (@gg P w K mg base a T);refine T.Dd.F.okQ b7 (λts Q h=>?_) (λ_ _ _ _ _ _ hr=>?_)
 ·let(m,U,_):=h;rfl
 ·have hu:=bB hr;refine(_,_,((ag (az 2 b7.nd aH)
 (ag (az 3 b7.nd (LC (Za aH) (Za (cg U (gN U T.fK (ae (Za (aK aN hr T.aT (ae (qv 0) (ae ah ax)))) ax)) (N':=[Zq,"_law_letters",Zd]) (.own U (.got (i:=2) U U (.inl U) (.got (i:=0) U U (.inl U) .nil))) (cm (g:=(Tg.nm 0)) (λ_ _ _ _ _=>((du 0),(Zb (av (qv 1) (Za (aK aN hr T.aT (ae (qv 2) (ae ah ax)))))))))))))
 (ag (az 4 b7.nd (aK aN hr T.aT (ae (qv 0) (ae (Za (bc (Za (bG T.cu (ae (qv 3) ax))) ah)) ax))))
 (ag (az 5 b7.nd (aK aN hr T.aT (ae (qv 0) (ae ah ax))))
 (ag (az 6 b7.nd (aO ai))
 (ag (bF (g:=(Tg.nm 7)) PassesOwn.never U (j7 U T.fK (ae (qv 1) ax)) (bu 7 b7.nd)
 (ag (az 8 b7.nd (Zb (av (qv 2) (Za (G9 (Za (bc (qv 5) (Za (kS ah (qv 7))))) ah)))))
 (ag (az 9 b7.nd (bc (Za (bc (Za (bc (Za (bc (Za (dW (qv 3) fE (fD (qv 4)))) (qv 8))) (Za (dW (qv 3) (fD (qv 4)) fE)))) (Za (kS (Za aH) (Za (G9 (qv 7) ah)))))) (Za (kS (Za aH) (Za (LH (qv 7) ah))))))
 (ag (aU (bM (wy U) qG U (qv 9) (Za (aq (lT (by rfl)))))
 (ao (az 9 b7.nd (bc (qv 9) (Za aH))))
 aB)
 (ag (aU (bM (wy U) qG U (qv 9) (Za (aq (lT (by rfl)))))
 (ao (az 9 b7.nd (bc (qv 9) (Za aH))))
 aB)
 (ao (br (i:=6) (pv 6) (Zb (qv 9)))))))))
 (ag (az 10 b7.nd (aO (lT (by rfl))))
 (ag (az 10 b7.nd (bc (qv 10) (Za (aO (lT (by rfl))))))
 (ag (az 9 b7.nd (Zb (av (qv 10) (Za (aK aN hr T.aT (ae (qv 0) (ae ah ax)))))))
 (ag (aU (QPW.pt (kP (bw hu (Za (aK aN hr T.aT (ae (qv 0) (ae ah ax)))) ah) (jZ (bM (Eb U) qG U (qv 9) (qv 6)))))
 (ao (Lv (i:=6) (pv 6) (Za (aK aN hr T.aT (ae (qv 0) (ae (qv 1) ax)))) (qv 9)))
 aB)
 (ao (fC (i:=6) (pv 6)))))))))))))),λts Q h=>?_)
  let(m,U,m0,m1,hq):=h;refine(by decide,by decide,λn n0 n1=>(by lia,by lia,aD (by rw[cL];lia),λi ys=>∃cs:List Nat,ys=cs.map (λc=>.s ⟨#[c]⟩)/\cs.length=i,([],U,U),?_,?_))
  ·rintro i x ys hx ⟨cs,rfl,hc⟩
   let(U,hi):=kM hx;refine(_,U,by decide,by decide,λr r0 r1=>(by decide +kernel,_,Ct r0 r1,U,?_))
   exact(cs ++ [rK r.toNat],by simp,by simp[hc])
  ·rintro ys ⟨cs,rfl,hc⟩
   rw[cL]at hc;have e2:((cs.map (λc=>(⟨#[c]⟩:Str))).map (·.length)).sum=cs.length:=by
    clear hc
    induction cs with
    |nil=>rfl
    |cons c cs ih=>simp only[E3,WZ,qf,ih,show(⟨#[c]⟩:Str).length=1 from rfl];lia
   refine(cs.map (λc=>(⟨#[c]⟩:Str)),?_,?_,?_)
   ·rw[<- KL,uk];rfl
   ·rw[e2,show(Str.ofString "").length=0 from by decide +kernel];lia
   have z:=PySem.size_glued (Str.ofString "") (cs.map (λc=>(⟨#[c]⟩:Str)))
   rw[e2,show(Str.ofString "").length=0 from by decide +kernel]at z
   have lz:(Txt.join (Str.ofString "") (cs.map (λc=>(⟨#[c]⟩:Str)))).length<=5:=by
    show(Builtin.Str.glued _ _).length<=5
    lia
   generalize Txt.join (Str.ofString "") (cs.map (λc=>(⟨#[c]⟩:Str)))=core at lz ⊢
   refine(bx (by lia),by lia,by lia,λat_ a0 a1=>(by decide,by decide,λtn t0 t1=>?_))
   have aA:(Txt.slice core Y (Z at_)).length<=5:=sR (Txt.slice_le _ _ _) lz;have ar:(Txt.slice core (Z at_) Y).length<=5:=sR (Txt.slice_le _ _ _) lz;have lx:(Str.ofString "x").length=1:=by decide +kernel
   have ly:(Str.ofString "y").length=1:=by decide +kernel
   have lq:(Str.ofString "q").length=1:=by decide +kernel
   refine(by lia,by lia,λi q=>(∃o7 o8 o9 L,q=[.r .dw,.r (.i m),.o (.s wI),.o (.s core),.o (.i at_),.o (.i tn),.o (.l L),o7,o8,o9,.no]/\L=((Fh i).map (wordOf kept (Txt.slice core Y (Z at_)) (Txt.slice core (Z at_) Y) tn.toNat)).map .s),(_,_,_,_,U,U),?_,?_)
   ·rintro i x q hx ⟨o7,o8,o9,L,rfl,rfl⟩
    let(U,hi):=kM hx;have hi:i<52:=by lia
    have e1:∀c:Nat,(⟨#[c]⟩:Str).length=1:=λ_=>rfl
    have eL:rK (((tn+7*(0+(i:Int))) % 26).toNat)=rK (tn.toNat+7*i):=by
     have ht:tn+7*(0+(i:Int))=((tn.toNat+7*i:Nat):Int):=by rw[WX,Int.natCast_add,XR,Wi t0];rfl
     rw[ht];show 97+(tn.toNat+7*i) % 26 % 26=97+(tn.toNat+7*i) % 26;rw[Nat.mod_mod]
    have r1:=gW "x" ((0+(i:Int)) % 2).toNat;have r2:=gW "y" ((0+(i:Int)) / 26).toNat
    replace r1:(jb "x" ((0+(i:Int)) % 2).toNat).length<=1:=by rw[r1,lx,WX];exact(show i % 2*1<=1 from by rw[Nat.mul_one];exact Xc (Yc i (by decide)))
    replace r2:(jb "y" ((0+(i:Int)) / 26).toNat).length<=1:=by rw[r2,ly,WX];exact(show i / 26*1<=1 from by rw[Nat.mul_one];exact Xc (Nat.div_lt_of_lt_mul hi))
    refine(_,U,.inl (by lia,by lia),(by show(0:Int)<26;decide),(by decide +kernel),_,Ct (mod_lt (by decide)).1 (mod_lt (by decide)).2,U,?_)
    refine(bx (by lia),bx (by rw[e1];lia),bx (by lia),bx (by rw[Str.length_append,e1];lia),(by show(0:Int)<2;decide),by lia,by lia,by lia,bx (by rw[Str.length_append,Str.length_append,e1];lia),(by decide,by decide),by lia,by lia,by lia,bx (by rw[Str.length_append,Str.length_append,Str.length_append,e1];lia),?_)
    have eW:Txt.slice core Y (Z at_)++⟨#[rK (((tn+7*(0+(i:Int))) % 26).toNat)]⟩++Txt.slice core (Z at_) Y++jb "x" ((0+(i:Int)) % 2).toNat++jb "y" ((0+(i:Int)) / 26).toNat=dh (Txt.slice core Y (Z at_)) (Txt.slice core (Z at_) Y) tn.toNat i:=by
     unfold dh;rw[eL,show((0+(i:Int)) % 2).toNat=i % 2 from by rw[WX];rfl,show((0+(i:Int)) / 26).toNat=i / 26 from by rw[WX];rfl]
    have lW:=vp (Txt.slice core Y (Z at_)) (Txt.slice core (Z at_) Y) tn.toNat i;rw[eW];have snoc:∀z:Str,z=wordOf kept (Txt.slice core Y (Z at_)) (Txt.slice core (Z at_) Y) tn.toNat i ->
      ((Fh i).map (wordOf kept (Txt.slice core Y (Z at_)) (Txt.slice core (Z at_) Y) tn.toNat)).map L2.T.s ++ [L2.T.s z]=((Fh (i+1)).map (wordOf kept (Txt.slice core Y (Z at_)) (Txt.slice core (Z at_) Y) tn.toNat)).map L2.T.s:=λz hz=>by
     subst hz;rw[List.range_succ];simp
    have ln:(((Fh i).map (wordOf kept (Txt.slice core Y (Z at_)) (Txt.slice core (Z at_) Y) tn.toNat)).map L2.T.s).length<pq:=aD (by simp;lia)
    refine(by rfl,aE (λg1=>?_) (λg1=>?_))
    ·have g1:inV (.str (dh (Txt.slice core Y (Z at_)) (Txt.slice core (Z at_) Y) tn.toNat i)) (yD.map V.str)=true:=by rw[<- dZ];exact g1
     refine(bx (by rw[lq];lia),by rfl,aE (λg2=>?_) (λ_=>?_))
     ·have g2:inT (.s (dh (Txt.slice core Y (Z at_)) (Txt.slice core (Z at_) Y) tn.toNat i++("q":Str))) (ku.map L2.T.s)=true:=g2;rw[dZ,Qu]at g2;cases g2
     exact(ln,U,_,_,_,_,U,snoc (dh (Txt.slice core Y (Z at_)) (Txt.slice core (Z at_) Y) tn.toNat i++("q":Str)) (by unfold wordOf;rw[k9,g1,XM,if_pos rfl]))
    ·have g1:inV (.str (dh (Txt.slice core Y (Z at_)) (Txt.slice core (Z at_) Y) tn.toNat i)) (yD.map V.str)=false:=by
      cases e:inV (.str (dh (Txt.slice core Y (Z at_)) (Txt.slice core (Z at_) Y) tn.toNat i)) (yD.map V.str)with
      |false=>rfl
      |true=>rw[<- dZ]at e;exact absurd e g1
     refine(by rfl,aE (λg2=>?_) (λg2=>?_))
     ·have g2:inV (.str (dh (Txt.slice core Y (Z at_)) (Txt.slice core (Z at_) Y) tn.toNat i)) (ku.map V.str)=true:=by rw[<- dZ];exact g2
      exact(bx (by rw[lq];lia),ln,U,_,_,_,_,U,snoc (dh (Txt.slice core Y (Z at_)) (Txt.slice core (Z at_) Y) tn.toNat i++("q":Str)) (by unfold wordOf;rw[k9,g1,g2,X9,if_pos rfl]))
     ·have g2:inV (.str (dh (Txt.slice core Y (Z at_)) (Txt.slice core (Z at_) Y) tn.toNat i)) (ku.map V.str)=false:=by
       cases e:inV (.str (dh (Txt.slice core Y (Z at_)) (Txt.slice core (Z at_) Y) tn.toNat i)) (ku.map V.str)with
       |false=>rfl
       |true=>rw[<- dZ]at e;exact absurd e g2
      exact(ln,U,_,_,_,_,U,snoc (dh (Txt.slice core Y (Z at_)) (Txt.slice core (Z at_) Y) tn.toNat i) (by unfold wordOf;rw[k9,g1,g2,X9,if_neg (by decide),Str.append_empty]))
   ·rintro q ⟨o7,o8,o9,L,rfl,rfl⟩
    rw[cL];have nd:((Fh m.toNat).map (wordOf kept (Txt.slice core Y (Z at_)) (Txt.slice core (Z at_) Y) tn.toNat)).Nodup:=nodup_range λi j hi hj aS=>Dy (by lia) (by lia) aS
    have wl:∀w∈(Fh m.toNat).map (wordOf kept (Txt.slice core Y (Z at_)) (Txt.slice core (Z at_) Y) tn.toNat),1<=w.length/\w.length<=20:=λw hw=>by
     let(i,hi,U):=oG.mp hw;exact zO aA ar (by have:=W6.mp hi;lia)
    have ll:((Fh m.toNat).map (wordOf kept (Txt.slice core Y (Z at_)) (Txt.slice core (Z at_) Y) tn.toNat)).length=m.toNat:=by simp
    generalize(Fh m.toNat).map (wordOf kept (Txt.slice core Y (Z at_)) (Txt.slice core (Z at_) Y) tn.toNat)=ws at nd wl ll
    refine(bx (by decide),by rfl,by rfl,by decide,by decide,λr r0 r1=>?_)
    let(wd,ew,hm):=Nl (ws:=near) r0 r1;refine(_,ew,U,by decide,by decide,λr3 _ _=>(U,?_))
    have done:Q (.l (ws.map .s)):=hq ws (by lia) nd wl
    refine aE (λ_=>?_) (λ_=>Vz done)
    refine(by rw[rZ];rfl,aE (λh2=>?_) (λ_=>done))
    have aP:wd ∉ ws:=MR (by rw[<- dZ];simpa using h2)
    refine(m0,by lia,λr4 ak a3=>(r4.toNat,?_,a5 ws,U,?_))
    ·unfold ixN;rw[if_pos ak,if_pos (by rw[dN];lia)]
    ·have z:=hq (ws.set r4.toNat wd) (by rw[Wn];lia) (Ek nd aP) λw hw=>by
      obtain z|z:=Xp hw
      ·exact wl w z
      ·rw[z];exact Ir wd hm
     rw[List.map_set]at z;exact z
theorem Im(T:Txt K mg a):bf P w K mg base CX0 2 a.pY a.CV [Zd,Zl] (spQ K LY):=by
 have aN:=jI (@gg P w K mg base a T);refine T.Df.F.okQ ck (λts Q h=>?_) (λ_ _ _ _ _ _ hr=>?_)
 ·let(ws,U,_):=h;rfl
 ·have hu:=bB hr;refine(_,_,((ag (az 2 ck.nd (aK aN hr T.aT (ae (qv 0) (ae ah ax))))
 (ag (Pw (i:=3) (j:=4) U ck.nd U U (by decide) U U (av (qv 1) ah) (av (qv 1) ah) U)
 (ag (az 5 ck.nd (bc (Za (dW (qv 1) (fD ah) fE)) (Za (dW (qv 1) fE (fD ah)))))
 (ag (aU (bw hu (qv 2) ah)
 (ao (aC (aq (af (aq (af (Zb (qv 3)) (af (aq (af (aq (af (Zb (av (qv 5) ah)) (af (aq ai) ai))) (af (aq (af (Zb (av (qv 5) ah)) (af (aq (af (Zb (qv 3)) ai)) ai))) ai))) ai))) ai))))
 aB)
 (ag (aU (bw hu (qv 2) ah)
 (ao (aC (aq (af (aq (af (Zb (qv 3)) (af (aq (af (aq (af (Zb (av (qv 5) ah)) (af (aq ai) ai))) (af (aq (af (Zb (av (qv 5) ah)) (af (aq (af (Zb (qv 3)) ai)) ai))) (af (aq (af (Zb (av (qv 5) ah)) (af (aq (af (Zb (qv 3)) ai)) ai))) ai)))) ai))) ai))))
 aB)
 (ag (aU (bw hu (qv 2) ah)
 (ao (aC (aq (af (aq (af (Zb (qv 3)) (af (aq (af (aq (af (Zb (av (qv 5) ah)) (af (aq ai) ai))) (af (aq (af (Zb (av (qv 5) ah)) (af (aq ai) ai))) ai))) ai))) (af (aq (af (Zb (qv 4)) (af (aq (af (aq (af (Zb (av (qv 5) ah)) (af (aq ai) ai))) (af (aq (af (Zb (av (qv 5) ah)) (af (aq (af (Zb (qv 3)) (af (Zb (qv 4)) ai))) ai))) ai))) ai))) ai)))))
 aB)
 (ag (aU (bw hu (qv 2) ah)
 (ao (aC (aq (af (aq (af (Zb (qv 3)) (af (aq (af (aq (af (Zb (av (qv 5) ah)) (af (aq ai) ai))) (af (aq (af (Zb (av (qv 5) ah)) (af (aq (af (Zb (qv 3)) (af (Zb (qv 3)) ai))) ai))) ai))) ai))) ai))))
 aB)
 (ag (aU (bw hu (qv 2) ah)
 (ao (aC (aq (af (aq (af (Zb (qv 3)) (af (aq (af (aq (af (Zb (av (qv 5) ah)) (af (aq ai) ai))) (af (aq (af (Zb (av (qv 5) ah)) (af (aq (af (Zb (qv 4)) ai)) ai))) ai))) ai))) (af (aq (af (Zb (qv 4)) (af (aq (af (aq (af (Zb (av (qv 5) ah)) (af (aq (af (Zb (qv 3)) ai)) ai))) ai)) ai))) ai)))))
 aB)
 (ag (az 6 ck.nd (aO ai))
 (ag (az 7 ck.nd (bc ah (Za (aK aN hr T.aT (ae (qv 0) (ae ah ax))))))
 (ag (az 8 ck.nd bp)
 (ag (bF (g:=(Tg.nm 9)) PassesOwn.never U (j7 U T.fK (ae (qv 7) ax)) (bu 9 ck.nd)
 (ag (az 10 ck.nd (aO ai))
 (ag (bF (g:=(Tg.nm 11)) PassesOwn.never U (j7 U T.fK (ae (Za (bc ah (Za (aK aN hr T.aT (ae (qv 0) (ae (Za (kU (aO (af bp (af bp ai))) (Za (aR vi BX (by rfl) T.JJ (by kernel_rfl) (ae (Za (js (wz hu U) pE (bA _) (qv 7) ah)) ax))))) ax)))))) ax)) (bu 11 ck.nd)
 (ag (az 12 ck.nd (kS (Za (aK aN hr T.aT (ae (qv 0) (ae (Za (kU (aO (af bp (af bp (af bp ai)))) (Za (aK aN hr T.aT (ae (qv 0) (ae ah ax)))))) ax)))) (Za (aR vi BX (by rfl) T.JJ (by kernel_rfl) (ae (Za (js yj (kG (g':=λi j=>.b (decide (j<i))) λ_ _ _ _=>.b _) (bA _) (Za (bc (qv 9) (qv 11))) ah)) ax)))))
 (ag (j6 (i:=13) ck.nd U (Or.inl U) U (gN U T.fK (ae (qv 12) ax)) (N':=["_law_i",Zl,Zd,Zg]) (.own U (.got (i:=1) U U (.inl U) (.got (i:=0) U U (.inl U) (.got (i:=7) U U (.inl U) .nil)))) (cm (g:=(Tg.nm 0)) (λ_ _ _ _ _=>((du 0),(Zb (av (qv 1) (Za (aK aN hr T.aT (ae (qv 2) (ae (qv 3) ax))))))))))
 (ag (br (i:=10) (pv 10) (aq (af (Zb (av (qv 5) (qv 8))) (af (aR (cp U) cj (by rfl) T.d9 (by kernel_rfl) (ae (qv 13) ax)) ai))))
 (ao (az 8 ck.nd (bc (qv 8) ah)))))))
 (ao (br (i:=6) (pv 6) (aq (af (Zb (av (qv 1) (qv 9))) (af (aR (cp U) cj (by rfl) T.d9 (by kernel_rfl) (ae (qv 10) ax)) ai))))))))
 (ao (aC (aR (cp U) cj (by rfl) T.d9 (by kernel_rfl) (ae (qv 6) ax))))))))))))))))),λts Q h=>?_)
  let(ws,U,hl,a3,hq):=h;obtain⟨x0,V,wr,rfl⟩:∃x0 V wr,ws=x0::V::wr:=by
   cases ws with
   |nil=>cases hl
   |cons x0 r=>cases r with
    |nil=>cases hl
    |cons V wr=>exact(x0,V,wr,U)
  have bI:atI ((x0::V::wr).map L2.T.s) 0=Z (.s x0):=fV (j:=0) U;have bE:atI ((x0::V::wr).map L2.T.s) 1=Z (.s V):=fV (j:=1) U;refine(by decide,by decide,λfm f0 f1=>(_,bI,U,_,bE,U,a5 _,a5 _,?_))
  have hM:((x0::V::wr).drop 4++(x0::V::wr).take 4).Nodup:=DT a3;have lM:((x0::V::wr).drop 4++(x0::V::wr).take 4).length=40:=by rw[iQ,Fs,qp];lia
  refine(bx (by have:=congrArg Nv (UA hl);rw[iQ,dN]at this;lia),CA _ _ _,CA _ _ _,?_)
  rw[UA hl];have a0:∀x∈(x0::V::wr).drop 4++(x0::V::wr).take 4,x∈x0::V::wr:=λx hx=>(nZ.mp hx).elim X1 RV
  generalize(x0::V::wr).drop 4++(x0::V::wr).take 4=M at hM lM a0
  obtain⟨m0,m1,m2,m3,mr,rfl⟩:∃m0 m1 m2 m3 mr,M=m0::m1::m2::m3::mr:=by
   match M,lM with
   |m0::m1::m2::m3::mr,_=>exact(m0,m1,m2,m3,mr,U)
  have t0:atI ((m0::m1::m2::m3::mr).map L2.T.s) 0=Z (.s m0):=fV (j:=0) U;have t1:atI ((m0::m1::m2::m3::mr).map L2.T.s) 1=Z (.s m1):=fV (j:=1) U;have t2:atI ((m0::m1::m2::m3::mr).map L2.T.s) 2=Z (.s m2):=fV (j:=2) U;have t3:atI ((m0::m1::m2::m3::mr).map L2.T.s) 3=Z (.s m3):=fV (j:=3) U;have bC:3 <=(x0::V::wr).length:=by lia
  have aP:∀(ks:List Kd)(n made:Nat),sP (x0::V::wr) (m0::m1::m2::m3::mr) n ks n made->1<=n->n<=3->Q (tKs ks):=λks n made D n1 n3=>hq ks (D.good a3 hM n1 n3 bC) λx hx=>a0 x (RV (D.mn▸hx))
  have a1:x0∈(x0::V::wr).take 1:=lD;have a2:x0∈(x0::V::wr).take 2:=lD;have b2:V∈(x0::V::wr).take 2:=g5 _ lD;refine(U,aE (λ_=>?_) (λ_=>?_))
  ·refine(U,_,t0,U,_,t1,U,U,?_);exact aP [(x0,[(m0,[]),(m1,[x0])])] 1 2 (U,U,by decide,all1 (Ws _ _,leK 2 6),all1 (all2 (leK 0 4,Bz) (leK 1 4,all1 a1))) (by decide) (by decide)
  refine(U,aE (λ_=>?_) (λ_=>?_))
  ·refine(U,_,t0,U,_,t1,U,U,_,t2,U,U,?_);exact aP [(x0,[(m0,[]),(m1,[x0]),(m2,[x0])])] 1 3 (U,U,by decide,all1 (Ws _ _,leK 3 6),all1 (VX (leK 0 4,Bz) (leK 1 4,all1 a1) (leK 1 4,all1 a1))) (by decide) (by decide)
  refine(U,aE (λ_=>?_) (λ_=>?_))
  ·refine(U,_,t0,U,_,t1,U,U,_,t2,U,_,t3,U,U,U,?_);exact aP [(x0,[(m0,[]),(m1,[])]),(V,[(m2,[]),(m3,[x0,V])])] 2 4 (U,U,by decide,all2 (Ws _ _,leK 2 6) (Ws _ _,leK 2 6),all2 (all2 (leK 0 4,Bz) (leK 0 4,Bz)) (all2 (leK 0 4,Bz) (leK 2 4,all2 a2 b2))) (by decide) (by decide)
  refine(U,aE (λ_=>?_) (λ_=>?_))
  ·refine(U,_,t0,U,_,t1,U,U,U,?_);exact aP [(x0,[(m0,[]),(m1,[x0,x0])])] 1 2 (U,U,by decide,all1 (Ws _ _,leK 2 6),all1 (all2 (leK 0 4,Bz) (leK 2 4,all2 a1 a1))) (by decide) (by decide)
  refine(U,aE (λ_=>?_) (λ_=>?_))
  ·refine(U,_,t0,U,_,t1,U,U,U,_,t2,U,U,?_);exact aP [(x0,[(m0,[]),(m1,[V])]),(V,[(m2,[x0])])] 2 3 (U,U,by decide,all2 (Ws _ _,leK 2 6) (Ws _ _,leK 1 6),all2 (all2 (leK 0 4,Bz) (leK 1 4,all1 b2)) (all1 (leK 1 4,all1 a2))) (by decide) (by decide)
  clear t0 t1 t2 t3 bI bE aP a1 a2 b2 bC
  generalize c3:m0::m1::m2::m3::mr=M at hM lM a0 ⊢
  generalize c2:x0::V::wr=ws at a3 hl a0 hq ⊢
  refine(by decide,by decide,λr2 cW cN=>?_)
  refine(by lia,by lia,λi q=>∃ks made L o9 a7 aA ar ak,q=[.r .dw,.r (.l (ws.map .s)),.o (.i fm),.o (.s x0),.o (.s V),.o (.l (M.map .s)),.o (.l L),.o (.i (1+r2)),.o (.i (made:Nat)),o9,a7,aA,ar,ak]/\L=ks.map tK/\sP ws M (1+r2).toNat ks i made,
   ([],0,_,_,_,_,_,_,U,U,(U,U,nY _,(λ_ z=>nomatch z),(λ_ z=>nomatch z))),?_,?_)
  ·rintro i x q hx ⟨ks,made,L,o9,a7,aA,ar,ak,rfl,rfl,D⟩
   let(U,hi):=kM hx;have cD:=D.b1;have c0:ks.length=i:=by
    have:=congrArg Nv D.nm
    rw[dN,qp,Nx (by omega)]at this
    exact this
   have bt:i<ws.length:=by lia
   refine(_,U,U,_,Tr 3 6 _,?_,?_,λr5 cI cf=>?_)
   ·split <;> decide
   ·split <;> decide
   have cH:r5<6:=by split at cf <;> lia
   refine(by lia,by lia,λj q=>∃ms fU L' aA ar ak,q=[.r .dw,.r (.l (ws.map .s)),.o (.i fm),.o (.s x0),.o (.s V),.o (.l (M.map .s)),.o (.l (ks.map tK)),.o (.i (1+r2)),.o (.i (fU:Nat)),.r (.i (0+(i:Nat))),.o (.l L'),aA,ar,ak]/\L'=ms.map tM/\ms.length=j/\fU=made+j/\M.take made++ms.map (·.1)=M.take fU/\(∀m∈ms,m.2.length<=4/\∀f∈m.2,f∈ws.take (1+r2).toNat),
    ([],made,_,_,_,_,U,U,U,U,by simp,λ_ z=>nomatch z),?_,?_)
   ·rintro j x q hx ⟨ms,fU,L',aA,ar,ak,rfl,rfl,aS,bj,a8,bb⟩
    let(U,hj):=kM hx;refine(_,U,by decide,by decide,λr6 cc b9=>?_)
    let(v,ev,hv):=NY (x:=3) (y:=3) (z:=5) cc b9;refine(_,ev,by lia,by lia,λr7 cG cE=>?_)
    refine(.inl (by lia,by lia),?_)
    have cq:∀b:Bool,0<=r7*(if b=O then 1 else 0)/\r7*(if b=O then 1 else 0)<=4:=λb=>by cases b <;> simp <;> lia
    let(w0,w4):=cq (decide (0<0+(i:Int)+(0+(j:Int))))
    generalize c1:r7*(if decide (0<0+(i:Int)+(0+(j:Int)))=O then 1 else 0)=wide at w0 w4 ⊢
    refine(by lia,by lia,aD (by rw[cL];lia),λp ys=>∃fs:List Str,ys=fs.map .s/\fs.length=p/\∀f∈fs,f∈ws.take (1+r2).toNat,([],U,U,λ_ z=>nomatch z),?_,?_)
    ·rintro p x ys hx ⟨fs,rfl,lf,hf⟩
     let(U,hp):=kM hx;refine(_,U,by lia,by lia,λr8 b0 bV=>?_)
     have h8:r8.toNat<ws.length:=by lia
     have e8:atI (ws.map L2.T.s) r8=Z (.s ws[r8.toNat]):=by
      have:=fV (ws:=ws) (j:=r8.toNat) (w:=ws[r8.toNat]) (by simp[h8])
      rwa [Wi b0]at this
     refine(_,e8,U,fs ++ [ws[r8.toNat]],by simp,by simp[lf],λf cx=>?_)
     obtain h|h:=nZ.mp cx
     ·exact hf f h
     ·rw[fy.mp h];exact List.mem_take_iff_getElem.mpr (r8.toNat,Nat.lt_min.mpr ((Int.toNat_lt_toNat (by omega)).mpr bV,h8),U)
    ·rintro ys ⟨fs,rfl,lf,hf⟩
     rw[cL]at lf;have cu:i<=2:=Xc (rE hi (Yg.mpr (show 1+r2<=3 by omega)))
     have ct:j<=5:=Xc (rE hj (Yg.mpr (show 1+r5<=6 by omega)))
     have Ot:fU<M.length:=by rw[bj,lM];exact V8 (Nat.add_le_add (sR cD (Nat.mul_le_mul_left 6 cu)) ct) (by decide)
     have em:atI (M.map L2.T.s) ((fU:Nat):Int)=Z (.s M[fU]):=fV (by simp[Ot])
     refine(aD (by rw[dN];lia),_,em,U,a5 _,?_)
     refine(ms ++ [(M[fU],fs)],fU+1,_,_,_,_,U,by simp[tM],by simp[aS],by lia,?_,λm hm=>?_)
     ·rw[pz,<- u4,a8];exact take_one (by simp[Ot])
     ·obtain h|h:=nZ.mp hm
      ·exact bb m h
      ·rw[fy.mp h];exact(by show fs.length<=4;lia,hf)
   ·rintro q ⟨ms,fU,L',aA,ar,ak,rfl,rfl,aS,bj,a8,bb⟩
    rw[cL]at aS bj;have ei:atI (ws.map L2.T.s) (0+((i:Nat):Int))=Z (.s ws[i]):=by rw[WX];exact fV (by simp[bt])
    refine(aD (by rw[dN];lia),_,ei,U,aX CC _,?_)
    refine(ks ++ [(ws[i],ms)],fU,_,_,_,_,_,_,U,by simp[tK,tMs],D.next (by simp[bt]) a8 (λz=>?_) (by lia) (by lia) bb)
    rw[z]at aS;simp at aS
    lia
  ·rintro q ⟨ks,made,L,o9,a7,aA,ar,ak,rfl,rfl,D⟩
   rw[cL]at D;refine(aX yF _,?_);exact hq ks (D.good a3 hM (by lia) (by lia) (by lia)) λx hx=>a0 x (RV (D.mn▸hx))
theorem Co(T:Txt K mg a):bf P w K mg base CX0 2 a.wY a.Jy [Zd,Zf,Zr] (spQ K Av):=by
 refine T.tL.F.okQ pF (λts Q h=>?_) (λ_ _ _ _ _ _ hr=>?_)
 ·let(sc,fs,t,_,U,_):=h;rfl
 ·have hu:=bB hr;refine(_,_,((ag (az 3 pF.nd (aO ai))
 (ag (bF (g:=(Tg.nm 4)) PassesOwn.never U (G0 (i:=2) (pv 2)) (bu 4 pF.nd)
 (ag (j6 (i:=5) pF.nd U (Or.inl U) U (pL (qv 1)) (N':=[ZB,Zy,Zp]) (.own U (.own U (.got (i:=4) U U (.inl U) .nil))) (Hf (g:=(Tg.tp [0,1])) (λ_ _ _ _ _=>((dH (du 0) (du 1)),(bw hu (qv 1) (qv 2)),(Zb (qv 0))))))
 (ag (aU (bw hu (qv 5) (Za (aO ai)))
 (ao (aC dG))
 aB)
 (ao (br (i:=3) (pv 3) (Zb (av (qv 5) (Za (dX (kh U) z9 (by rfl) T.C1 (by kernel_rfl) (ae (Za (aK (jI (gg T)) hr T.aT (ae (qv 0) (ae (Za (bG T.cu (ae (qv 5) ax))) ax)))) (ae (Za (aK (jI (gg T)) hr T.aT (ae (qv 0) (ae (Za (bG T.cu (ae (qv 5) ax))) ax)))) ax)))))))))))
 (ao (aC (aR (cp U) cj (by rfl) T.d9 (by kernel_rfl) (ae (qv 3) ax))))))),λts Q h=>?_)
  let(sc,fs,t,ht,U,aS,a3,hn,hq):=h;obtain rfl|rfl:=ht
  all_goals
   refine(λi q=>∃ns o4 o5 L,q=[.r .dw,.r (.l (sc.map tP)),.r _,.o (.l L),o4,o5]/\L=ns.map .s/\Fills sc ns (fs.take i),([],_,_,_,U,U,U,λ_ z=>nomatch z),?_,?_)
   ·rintro i x q hx ⟨ns,o4,o5,L,rfl,rfl,hF⟩
    rw[gs]at hx;let(f,hf,U):=gV.mp hx;have a0:i<fs.length:=(jS.mp hf).1;refine(_,U,aD (by rw[dN];lia),λk ys=>∃os:List Str,ys=os.map .s/\os.length<=k/\∀n∈os,(n,f)∈sc,([],U,nY _,λ_ z=>nomatch z),?_,?_)
    ·rintro k x ys hx ⟨os,rfl,lo,ho⟩
     rw[gs]at hx;let(p,hp,U):=gV.mp hx;refine(_,U,U,aE (λe=>(U,os ++ [p.1],by simp,by simp;lia,λn hn=>?_)) (λ_=>(os,U,by lia,ho)))
     obtain h|h:=nZ.mp hn
     ·exact ho n h
     ·rw[fy.mp h];have e':(L2.T.s p.2).v=(L2.T.s f).v:=by simpa using e
      have e2:p.2=f:=V.str.inj e';rw[<- e2];exact mu hp
    ·rintro ys ⟨os,rfl,lo,ho⟩
     rw[dN]at lo;refine(by rw[rZ];rfl,aE (λ_=>hn) (λaA=>?_))
     have l0:0<os.length:=by
      cases os with
      |nil=>exact absurd U aA
      |cons _ _=>simp
     have ln:ns.length=i:=by rw[hF.1,qp];lia
     have ak:((os.map L2.T.s).length:Int)=os.length:=by rw[dN]
     refine(aD (by rw[dN];lia),by rw[ak];lia,by rw[ak];lia,λr r0 r1=>(by rw[ak];lia,by rw[ak];lia,λr' aP ar=>?_))
     rw[ak]at r1 ar;have hm:∃m:Int,(if r' > r then r' else r)=m/\0<=m/\m<os.length:=(_,U,by split <;> lia,by split <;> lia)
     let(m,em,m0,m1):=hm;have aN:m.toNat<os.length:=by lia
     refine(.s os[m.toNat],(by show atI (os.map L2.T.s) (if r' > r then r' else r)=_;rw[em];exact RH m0 aN),U,ns ++ [os[m.toNat]],_,_,_,U,by simp,?_)
     rw[<- take_one hf];exact hF.snoc (ho _ (WW _))
   ·rintro q ⟨ns,o4,o5,L,rfl,rfl,hF⟩
    rw[dN,rr]at hF;exact(a5 _,hq ns hF)
theorem Io(T:Txt K mg a):bf P w K mg base CX0 3 a.pZ a.CW [Zd,Zj,Zf,Zp,Zi] (spQ K pO):=by
 refine T.xr.F.okQ dq (λts Q h=>?_) (λ_ _ _ _ _ _ hr=>?_)
 ·let(ks,hs,ws,sc,f,h,U,_):=h;rfl
 ·have hu:=bB hr;refine(_,_,((ag (v9 (g:=(Tg.tp [5,6,7])) (i:=1) (pv 1) (pR (K:=K) (n:=3) U U (cV (bu 5 dq.nd) (cV (bu 6 dq.nd) (cV (bu 7 dq.nd) pQ)))))
 (ag (az 8 dq.nd (aK (Co T) hr T.tL (ae (qv 0) (ae (qv 2) (ae (Za (aO (af (Zb (qv 3)) ai))) ax)))))
 (ag (aU (bM l9 jg (bA _) (qv 8) (Za dG))
 (ao (aC (aq (af aH (af (Zb (av (qv 8) ah)) ai)))))
 aB)
 (ag (az 9 dq.nd (Zb (av (qv 7) (Za (bG T.cu (ae (qv 2) ax))))))
 (ag (bF (g:=(Tg.tp [10,11])) PassesOwn.never U (jq (Zb (fF (Za (aR (cB U) dF (by rfl) T.fq (by kernel_rfl) (ae (qv 5) ax))) (qv 3)))) (dH (bu 10 dq.nd) (bu 11 dq.nd))
 (ag (az 12 dq.nd (aK (Co T) hr T.tL (ae (qv 0) (ae (qv 2) (ae (qv 11) ax)))))
 (ao (aU (bM l9 jg (bA _) (qv 12) (Za dG))
 (ao (aC (aq (af aH (af (Zb (qv 9)) (af (Zb (qv 10)) (af (Zb (qv 12)) (af (aq (af aH (af (Zb (qv 9)) ai))) ai))))))))
 aB))))
 (ag (az 12 dq.nd (aR (cp U) cj (by rfl) T.d9 (by kernel_rfl) (ae (Za (cg U (pL (Za (dW (qv 2) fE (fD (Za (bG T.cu (ae (av (av (qv 6) (qv 4)) ah) ax))))))) (N':=[ZB,Zy]) (.own U (.own U .nil)) (cm (g:=(Tg.tp [0,1])) (λ_ _ _ _ _=>((dH (du 0) (du 1)),(Zb (qv 0))))))) ax)))
 (ao (aC (aq (af aH (af (Zb (qv 9)) (af (Zb (av (av (qv 6) (qv 4)) ah)) (af (Zb (qv 12)) (af (aq (af aH (af (Zb (qv 9)) ai))) ai))))))))))))))),λts Q hh=>?_)
  let(ks,hs,ws,sc,f,h,U,W,hf,S,hq):=hh;have MV:h∈hs:=mu hf;let(a3,a0,aT,aP):=W.hp h MV;have ef:atI (hs.map tH) (f:Int)=Z (tH h):=bQ (by rw[gs,hf];rfl)
  have aN:sc.length<ws.length:=by have:=S.ln;have:=W.wl;(first|lia|omega)
  have ex:atI (ws.map L2.T.s) ((sc.map tP).length:Int)=Z (.s ws[sc.length]):=by rw[dN];exact fV (fZ aN)
  have fx:ws[sc.length] ∉ sc.map (·.1):=S.fresh W.wn (fZ aN)
  generalize ws[sc.length]=x at ex fx
  refine(_,U,U,sc,[h.2.2],_,.inr U,U,by have:=S.ln;(first|lia|omega),by show 1<=1000;decide,?_,λns hF=>?_)
  ·let(kd,aA,ek):=N3 aP;refine(_,ex,U,aX yF ks,_,rj ks,_,uU W.gk.nd aP,rR _,λi q=>∃ar ak V,q=[.r .dw,.r (tW ks hs ws),.r (.l (sc.map tP)),.r (.s h.2.2),.r (.i f),.r (tKs ks),.r (.l (hs.map tH)),.r (.l (ws.map .s)),.o .n,.o (.s x),ar,ak,V],(_,_,_,U),?_,?_)
   ·rintro i t q hx ⟨ar,ak,V,rfl⟩
    rw[gs]at hx;let(m,hm,U):=gV.mp hx;have aS:m∈kd.2:=by rw[<- yu W.gk.nd aA,ek];exact mu hm
    refine(_,U,sc,m.2,_,.inl U,U,by have:=S.ln;(first|lia|omega),by have:=(W.gk.fl kd aA m aS).1;(first|lia|omega),(_,_,_,U),λns hF=>?_)
    refine(U,U,a5 _,U,hq 2 _ (by decide) (.make aA aS hF fx (.give ?_)) (mM sr (nY _)))
    rw[ek];simp
   ·rintro q ⟨ar,ak,V,rfl⟩
    have ec:cY (sc.map tP) Y (Z ((h.2.1.map tP).length:Int))=h.2.1.map tP:=by rw[dN,sC (by rw[dN];exact S.p1),<- Xf,S.pf]
    refine(_,ef,_,U,aX fw _,?_);rw[ec];refine(aD (by rw[dN];(first|lia|omega)),λi ys=>ys=((h.2.1.take i).map (·.1)).map .s,U,?_,?_)
    ·rintro i t ys hx rfl
     rw[gs]at hx;let(p,hp,U):=gV.mp hx;refine(_,U,U,?_);show _ ++ [L2.T.s p.1]=_;rw[ro,hp];simp
    ·rintro ys rfl
     rw[dN,rr];refine(a5 _,U,_,ef,_,U,U,a5 _,U,hq 2 _ (by decide) (.call MV ?_ fx (.give (by simp))) (mM sr (nY _)))
     have z:=Fills.self (sc:=sc) (n:=h.2.1.length)
     rwa [S.pf]at z
  ·obtain⟨n,rfl⟩:∃n,ns=[n]:=by
    match ns,hF.1 with
    |[n],_=>exact(n,U)
   exact(_,U,U,hq 1 _ (by decide) (.give (hF.2 (n,h.2.2) (by simp))) sr)
theorem Mz(T:Txt K mg a)(N:Nat)(iR:bf P w K mg base CX0 (2*N+3) a.sf a.Br [Zd,Zj,Zf,Zi,Zk] (spQ K (kX N))):bf P w K mg base CX0 (2*N+4) a.w6 a.JB [Zd,Zj,Zf,Zi,Zk] (spQ K (Qd N)):=by
 refine T.J7.F.okQ dA (λts Q h=>?_) (λ_ _ _ _ _ _ hr=>?_)
 ·let(ks,hs,ws,sc,f,h,u,U,_):=h;rfl
 ·have hu:=bB hr;refine(_,_,((ag (v9 (g:=(Tg.tp [5,6,7])) (i:=1) (pv 1) (pR (K:=K) (n:=3) U U (cV (bu 5 dA.nd) (cV (bu 6 dA.nd) (cV (bu 7 dA.nd) pQ)))))
 (ag (wa (g:=(Tg.tp [8,9])) (av (qv 2) (Za (dX (kh U) z9 (by rfl) T.C1 (by kernel_rfl) (ae (Za (aK (jI (gg T)) hr T.aT (ae (qv 0) (ae (Za (bG T.cu (ae (qv 2) ax))) ax)))) (ae (Za (aK (jI (gg T)) hr T.aT (ae (qv 0) (ae (Za (bG T.cu (ae (qv 2) ax))) ax)))) ax))))) (dH (bu 8 dA.nd) (bu 9 dA.nd)))
 (ag (az 10 dA.nd (Zb (fF (Za (aR (cB U) dF (by rfl) T.fq (by kernel_rfl) (ae (qv 5) ax))) (qv 9))))
 (ag (xX (i:=4) (pv 4) (pv 4) (Za (bG T.cu (ae (qv 10) ax))))
 (ag (az 11 dA.nd (aO ai))
 (ag (bF (g:=(Tg.tp [12,13])) PassesOwn.never U (jq (Zb (qv 10))) (dH (bu 12 dA.nd) (bu 13 dA.nd))
 (ag (j6 (i:=14) dA.nd U (Or.inl U) U (wb U T.bC (by kernel_rfl) (ae (qv 13) ax)) (N':=[Zq,"_law_field",Zl,Zf]) (.own U (.own U (.got (i:=7) U U (.inl U) (.got (i:=2) U U (.inl U) .nil)))) (cm (g:=(Tg.tp [0,1])) (λ_ _ _ _ _=>((dH (du 0) (du 1)),(aq (af (Zb (av (qv 2) (Za (bc (Za (bG T.cu (ae (qv 3) ax))) (qv 0))))) (af (Zb (qv 1)) ai)))))))
 (ag (az 15 dA.nd (aR (cp U) cj (by rfl) T.d9 (by kernel_rfl) (ae (Za (cg U (pL (qv 14)) (N':=[ZB,"_law_field"]) (.own U (.own U .nil)) (cm (g:=(Tg.tp [0,1])) (λ_ _ _ _ _=>((dH (du 0) (du 1)),(Zb (qv 0))))))) ax)))
 (ao (br (i:=11) (pv 11) (aq (af (Zb (qv 12)) (af (Zb (qv 15)) (af (aK iR hr T.lG (ae (qv 0) (ae (qv 1) (ae (Za (bc (qv 2) (qv 14))) (ae (qv 3) (ae (qv 4) ax)))))) ai)))))))))
 (ao (aC (aq (af aH (af (Zb (qv 8)) (af (aR (cp U) cj (by rfl) T.d9 (by kernel_rfl) (ae (qv 11) ax)) ai))))))))))))),λts Q hh=>?_)
  let(ks,hs,ws,sc,f,h,u,U,W,hf,S,hl,bt,bI,hq):=hh;have l0:0<sc.length:=Wq.mpr bt;have V:((sc.map tP).length:Int)=sc.length:=by rw[dN]
  refine(_,U,by rw[V];lia,by rw[V];lia,λr r0 r1=>(by rw[V];lia,by rw[V];lia,λr' a7 aS=>?_))
  rw[V]at r1 aS;let(m0,m1):=max_two r0 r1 a7 aS;let((x,k),hx,ex):=iC (f:=tP) m0 m1;refine(tP (x,k),ex,U,_,U,?_);let(kd,ak,ek):=N3 (S.kd _ hx);obtain rfl:kd.1=k:=ek;have em:=yu W.gk.nd ak;refine(aX yF ks,_,rj ks,tMs kd.2,by rw[uU W.gk.nd (S.kd _ hx),em],rR _,W4 _,?_)
  let(ne1,a8):=W.gk.ne kd ak;have bj:1<=kd.2.length:=Wq.mpr ne1;have bb:((kd.2.map tM).length:Int)=kd.2.length:=by rw[dN]
  have wl:=W.wl;have e1:(u - ((kd.2.map tM).length:Int)).toNat=u.toNat - kd.2.length:=by rw[bb];lia
  generalize u - ((kd.2.map tM).length:Int)=u' at e1 ⊢
  refine(rR kd.2,λi q=>∃arms L aP aN aA ar,q=[.r .dw,.r (tW ks hs ws),.r (.l (sc.map tP)),.r (.i f),.r (.rm u'),.r (tKs ks),.r (.l (hs.map tH)),.r (.l (ws.map .s)),.r (.s x),.r (.s kd.1),.o (tMs kd.2),.o (.l L),aP,aN,aA,ar]/\L=arms.map tA/\uz ks hs h.2.2 sc (sz u'.toNat) (3*u'.toNat+2) arms (kd.2.take i),
   ([],_,_,_,_,_,U,U,(U,λi a m h1=>by simp at h1)),?_,?_)
  ·rintro i t q hx ⟨arms,L,aP,aN,aA,ar,rfl,rfl,hA⟩
   rw[gs]at hx;let(m,hm,U):=gV.mp hx;let(cc,bE):=W.gk.fl kd ak m (mu hm);have b9:i<kd.2.length:=(jS.mp hm).1;have lA:arms.length=i:=by rw[hA.ln,qp];lia
   let(ln,a0,S'):=S.more (ns:=(ws.drop sc.length).take m.2.length) W.wn U (by lia) (by lia) bE
   refine(_,U,aD (by rw[aZ,dN];lia),λj ys=>ys=(((ws.drop sc.length).take j).zip (m.2.take j)).map tP,U,?_,?_)
   ·rintro j y ys hy rfl
    let(z,hz,U):=cb hy;rw[gs]at hz;let(g,hg,U):=gV.mp hz;have b0:j<m.2.length:=(jS.mp hg).1;have a3:sc.length+j<ws.length:=by lia
    have ew:atI (ws.map L2.T.s) (((sc.map tP).length:Int)+(j:Nat))=Z (.s ws[sc.length+j]):=by
     rw[dN];exact fV (j:=sc.length+j) (fZ a3)
    refine(_,U,_,ew,U,U,?_);show _ ++ [tP (ws[sc.length+j],g)]=_;rw[Fj (a:=ws[sc.length+j]) (by rw[List.getElem?_drop,fZ a3]) hg,pz]
    rfl
   ·rintro ys rfl
    rw[show(g8 (m.2.map L2.T.s)).length=m.2.length by rw[aZ,dN],rr]
    generalize bV:(ws.drop sc.length).take m.2.length=ns at ln a0 S' ⊢
    refine(aD (by rw[dN,Ww];lia),λj ys=>ys=(((ns.zip m.2).take j).map (·.1)).map .s,U,?_,?_)
    ·rintro j y ys hy rfl
     rw[gs]at hy;let(p,hp,U):=gV.mp hy;refine(_,U,U,?_);show _ ++ [L2.T.s p.1]=_;rw[ro,hp];simp
    ·rintro ys rfl
     rw[show((ns.zip m.2).map tP).length=(ns.zip m.2).length by rw[dN],rr,BK ln]
     refine(a5 _,aD (by rw[dN];lia),U,a5 _,bx (by rw[dN,dN,Ww];lia),aX fw _,aX fw _,ks,hs,ws,sc++ns.zip m.2,f,h,_,by rw[pz],W,hf,S',by rw[iQ,Ww];lia,by lia,λn b hn hb dd=>?_)
     refine(arms ++ [(m.1,ns,b,n)],_,_,_,_,_,U,by simp[tA],?_)
     rw[ro,hm];exact hA.snoc (U,ln,a0,hb,hn,dd)
  ·rintro q ⟨arms,L,aP,aN,aA,ar,rfl,rfl,hA⟩
   rw[dN,rr]at hA;let(hS,hle):=hA.snd hx ak;refine(U,hA.im,hq _ _ ?_ hS ((hA.dep (by lia)).mono (by lia)))
   rw[hA.ln,e1]at hle
   have:=KQ (n:=u.toNat) bj a8
   lia
def qMk(N:Nat):QS:=qX (Hi (Tg.tp [17,18]) (qOp qIx (aY 5) (fS nJ (aF (aY 0) (aF (qCB Aq (aF (aY 5) cA)) cA)))))
 (qX (Hi (Tg.tp [19,20]) (qOp qIx (aY 18) (fS nJ (aF (aY 0) (aF (qCB Aq (aF (aY 18) cA)) cA)))))
  (qX (qW 16 (fS Av (aF (aY 0) (aF (aY 2) (aF (aY 20) cA)))))
   (qX (DX (oq (qOp (DW ϊ) (aY 16) (qC .n))) (λD q=>fS pO (aF (aY 0) (aF (aY 1) (aF (aY 2) (aF (aY 8) (aF (aY 3) cA))))) q D.rt) x3)
    λD q=>jt (aF (qC (.s (Str.ofString "make"))) (aF (qIm (aY 10)) (aF (qIm (aY 19)) (aF (qIm (aY 16)) (aF (fS (kX N) (aF (aY 0) (aF (aY 1) (aF (qOp kW (aY 2) (LM (aF (jt (aF (qIm (aY 10)) (aF (qIm (aY 17)) cA))) cA))) (aF (aY 3) (aF (aY 4) cA)))))) cA))))) q D.rt)))
def qCl(N:Nat):QS:=qX (DX (oq (qOp Ar (aY 9) (qC (.i 6))))
 (qX (qW 15 (fS nJ (aF (aY 0) (aF (qCB Aq (aF (aY 6) cA)) cA))))
  (qX (qW 16 (fS Av (aF (aY 0) (aF (aY 2) (aF (B5 [Y] (asT (qOp qIx (qOp qIx (aY 6) (aY 15)) (qC (.i 1)))) (Tg.nm 0) Hj (qIm (qOp qIx (aY 0) (qC (.i 1))))) cA)))))
   (DX (oq (qOp (DW O) (aY 16) (qC .n))) (λD q=>jt (aF (qC (.s (Str.ofString "call"))) (aF (qIm (aY 10)) (aF (qIm (qOp qIx (qOp qIx (aY 6) (aY 15)) (qC (.i 0)))) (aF (qIm (aY 16)) (aF (fS (kX N) (aF (aY 0) (aF (aY 1) (aF (qOp kW (aY 2) (LM (aF (jt (aF (qIm (aY 10)) (aF (qIm (qOp qIx (qOp qIx (aY 6) (aY 15)) (qC (.i 2)))) cA))) cA))) (aF (aY 3) (aF (aY 4) cA)))))) cA))))) q D.rt) x3))) x3) (qMk N)
def qNm(N:Nat):QS:=qX (Hi (Tg.tp [13,14]) (qOp qIx (aY 2) (fS nJ (aF (aY 0) (aF (qCB Aq (aF (aY 2) cA)) cA)))))
 λD q=>jt (aF (qC (.s (Str.ofString "name"))) (aF (qIm (aY 10)) (aF (qIm (aY 13)) (aF (fS (kX N) (aF (aY 0) (aF (aY 1) (aF (qOp kW (aY 2) (LM (aF (jt (aF (qIm (aY 10)) (aF (qIm (aY 14)) cA))) cA))) (aF (aY 3) (aF (aY 4) cA)))))) cA)))) q D.rt
structure Dg(N Yx D:Nat)(ks:List Kd)(hs:List Hd)(ws:List Str)(sc:Sc)(f:Nat)(h:Hd)(u:Int)(x:Str)(Q:L2.T->Prop):Prop where
 W:Wld ks hs ws
 kd:∀p∈sc,p.2∈ks.map (·.1)
 l16:sc.length<=16
 fx:x ∉ sc.map (·.1)
 hE:pO [.dw,tW ks hs ws,.l (sc.map tP),.s h.2.2,.i f] Q
 go:∀{k:Str},k∈ks.map (·.1)->∀{Q':L2.T->Prop},(∀n b,n<=Yx->Snd ks hs h.2.2 n (sc++[Prod.mk x k]) b->Dep D b->Q' b)->kX N [.dw,tW ks hs ws,.l (sc.map tP ++ [tP (x,k)]),.i f,.rm u] Q'
 hq:∀n b,n<=Yx+1->Snd ks hs h.2.2 n sc b->Dep (D+1) b->Q b
 d1:1<=D
theorem B1{f:Nat}{h:Hd}{u:Int}{Q:L2.T->Prop}(C:Dg N Yx D ks hs ws sc f h u x Q)(a3 a0 aT aS aP aN aA ar ak V:Sl):
  qMk N {nx:=λ_=>Q .n,rt:=Q} [.r .dw,.r (tW ks hs ws),.r (.l (sc.map tP)),.r (.i f),.r (.rm u),.r (tKs ks),.r (.l (hs.map tH)),.r (.l (ws.map .s)),.o (.s h.2.2),.o (.i fm),.o (.s x),a3,a0,aT,aS,aP,aN,aA,ar,ak,V]:=by
 let(W,a8,h3,fx,hE,go,hq,d1):=C;have lk:((ks.map tK).length)=ks.length:=by rw[dN]
 have k1:=W.gk.k1;have k2:=W.gk.k2;refine(by lia,by lia,λr6 P z=>?_)
 rw[lk]at z;let(kd,g,ek):=iC P z;let(ne1,a7):=W.gk.ne kd g;have lm:((kd.2.map tM).length)=kd.2.length:=by rw[dN]
 have l1:=Wq.mpr ne1;refine(_,ek,yF kd,_,U,by lia,by lia,λr7 K q=>?_)
 rw[lm]at q;let(m,hm,em):=iC K q;refine(_,em,CC m,_,U,sc,m.2,_,.inl U,U,by lia,by have:=(W.gk.fl kd g m hm).1;lia,hE,λns hF=>?_)
 refine(U,U,a5 _,U,U,bx (by rw[dN];show sc.length+1<=10000;lia),aX fw _,U,?_)
 exact go (oG.mpr (kd,g,U)) λn b hn hb dd=>hq (n+1) _ (by lia) (.make g hm hF fx hb) (mM dd d1)
theorem Lm{f:Nat}{h:Hd}{u:Int}{Q:L2.T->Prop}{nx:Sq->Prop}(C:Dg N Yx D ks hs ws sc f h u x Q)(a3:sc ≠ [])(aT aS aP aN aA ar ak V P K:Sl):
  qNm N {nx:=nx,rt:=Q} [.r .dw,.r (tW ks hs ws),.r (.l (sc.map tP)),.r (.i f),.r (.rm u),.r (tKs ks),.r (.l (hs.map tH)),.r (.l (ws.map .s)),.o (.s h.2.2),.o (.i fm),.o (.s x),aT,aS,aP,aN,aA,ar,ak,V,P,K]:=by
 let(W,a0,h3,fx,hE,go,hq,d1):=C;have g:((sc.map tP).length)=sc.length:=by rw[dN]
 have l0:=Wq.mpr a3;refine(by rw[g];lia,by rw[g];lia,λr5 z q=>?_)
 rw[g]at q;let((y,k),hy,ey):=iC z q;refine(_,ey,U,_,U,U,U,U,U,bx (by rw[dN];show sc.length+1<=10000;lia),aX fw _,U,?_)
 exact go (a0 _ hy) λn b hn hb dd=>hq (n+1) _ (by lia) (.name hy fx hb) (Js dd)
theorem Lo{f:Nat}{h:Hd}{u:Int}{Q:L2.T->Prop}(C:Dg N Yx D ks hs ws sc f h u x Q)(aS aP aN aA ar ak V P K z:Sl):
  qCl N {nx:=λ_=>Q .n,rt:=Q} [.r .dw,.r (tW ks hs ws),.r (.l (sc.map tP)),.r (.i f),.r (.rm u),.r (tKs ks),.r (.l (hs.map tH)),.r (.l (ws.map .s)),.o (.s h.2.2),.o (.i fm),.o (.s x),aS,aP,aN,aA,ar,ak,V,P,K,z]:=by
 let(W,aT,h3,fx,hE,go,hq,d1):=id C;refine(U,aE (λ_=>?_) (λ_=>B1 C _ _ _ _ _ _ _ _ _ _))
 have lh:((hs.map tH).length)=hs.length:=by rw[dN]
 have a3:=W.h1;have a0:=W.h8;refine(by lia,by lia,λg g0 g1=>?_)
 rw[lh]at g1;let(hd,q,eg):=iC g0 g1;let(q1,q2,q3,q4):=W.hp hd q;refine(_,eg,_,U,aD (by rw[dN];lia),λi ys=>ys=((hd.2.1.take i).map (·.2)).map .s,U,?_,?_)
 ·rintro i t ys ht rfl
  rw[gs]at ht;let(p,hp,U):=gV.mp ht;refine(_,U,_,U,U,?_);rw[ro,hp];simp
 ·rintro ys rfl
  rw[show(hd.2.1.map tP).length=hd.2.1.length by rw[dN],rr]
  refine(sc,hd.2.1.map (·.2),_,.inr U,U,by lia,by rw[dN];lia,B1 C _ _ _ _ _ _ _ _ _ _,λns hF=>?_)
  refine(U,_,eg,_,U,U,a5 _,U,_,eg,_,U,U,bx (by rw[dN];show sc.length+1<=10000;lia),aX fw _,U,?_)
  exact go q4 λn b hn hb dd=>hq (n+1) _ (by lia) (.call q hF fx hb) (mM dd d1)
theorem Tq{r:Int}(h0:0<=r)(h1:r<3):∃w:Str,atI [L2.T.s "pay",L2.T.s "pay",L2.T.s "get"] r=Z (.s w)/\(w="pay" \/ w="get"):=by
 obtain⟨n,rfl⟩:∃n:Nat,r=n:=(r.toNat,by lia)
 match n,h1 with
 | 0,_=>exact(_,U,.inl U)
 | 1,_=>exact(_,U,.inl U)
 | 2,_=>exact(_,U,.inr U)
 |n+3,h=>lia
theorem MA(T:Txt K mg a)(N:Nat):bf P w K mg base CX0 (2*N+3) a.sf a.Br [Zd,Zj,Zf,Zi,Zk] (spQ K (kX N)):=by
 induction N with
 |zero =>
  refine never λts Q hh=>?_
  let(ks,hs,ws,sc,f,h,u,U,W,hf,S,hl,a3,hq):=hh
  (first|lia|omega)
 |succ N iR =>
  have R5:=Mz T N iR;have V:=jI (@gg P w K mg base a T);refine T.lG.F.okQ bW (λts Q h=>?_) (λ_ _ _ _ _ _ hr=>?_)
  ·let(ks,hs,ws,sc,f,h,u,U,_):=h;rfl
  ·have hu:=bB hr;refine(_,_,((ag (v9 (g:=(Tg.tp [5,6,7])) (i:=1) (pv 1) (pR (K:=K) (n:=3) U U (cV (bu 5 bW.nd) (cV (bu 6 bW.nd) (cV (bu 7 bW.nd) pQ)))))
 (ag (az 8 bW.nd (Zb (av (av (qv 6) (qv 3)) ah)))
 (ag (az 9 bW.nd (aK V hr T.aT (ae (qv 0) (ae ah ax))))
 (ag (aU (QPW.pt (uJ (uK (Lz (qv 4) ah) ah) (uJ (bw hu (qv 9) ah) (v8 (NP (Za (bG T.cu (ae (qv 2) ax))) ah)))))
 (ao (aC (aK (Io T) hr T.xr (ae (qv 0) (ae (qv 1) (ae (qv 2) (ae (qv 8) (ae (qv 3) ax))))))))
 aB)
 (ag (xX (i:=4) (pv 4) (pv 4) ah)
 (ag (az 10 bW.nd (Zb (av (qv 7) (Za (bG T.cu (ae (qv 2) ax))))))
 (ag (aU (uK (qv 9) ah)
 (ag (az 11 bW.nd (bc ah (Za (aK V hr T.aT (ae (qv 0) (ae (Za (kU (aO (af bp (af bp (af bp ai)))) (Za (aK V hr T.aT (ae (qv 0) (ae ah ax)))))) ax))))))
 (ag (az 12 bW.nd (kU (aO (lT (by rfl))) (Za (aK V hr T.aT (ae (qv 0) (ae ah ax))))))
 (ao (aC (aq (af (Zb (qv 12)) (af (Zb (qv 11)) (af (aK iR hr T.lG (ae (qv 0) (ae (qv 1) (ae (qv 2) (ae (qv 3) (ae (qv 4) ax)))))) ai))))))))
 aB)
 (ag (aU (QPW.pt (kP (uK (qv 9) ah) (jZ (bM (yi hu U) uF (bA _) (qv 2) (Za (aO ai))))))
 (ao (aC (aK R5 hr T.J7 (ae (qv 0) (ae (qv 1) (ae (qv 2) (ae (qv 3) (ae (qv 4) ax))))))))
 aB)
 (ag (aU (QPW.pt (kP (bw hu (qv 9) ah) (jZ (bM (yi hu U) uF (bA _) (qv 2) (Za (aO ai))))))
 (ag (wa (g:=(Tg.tp [13,14])) (av (qv 2) (Za (aK V hr T.aT (ae (qv 0) (ae (Za (bG T.cu (ae (qv 2) ax))) ax))))) (dH (bu 13 bW.nd) (bu 14 bW.nd)))
 (ao (aC (aq (af aH (af (Zb (qv 10)) (af (Zb (qv 13)) (af (aK iR hr T.lG (ae (qv 0) (ae (qv 1) (ae (Za (bc (qv 2) (Za (aO (af (aq (af (Zb (qv 10)) (af (Zb (qv 14)) ai))) ai))))) (ae (qv 3) (ae (qv 4) ax)))))) ai))))))))
 aB)
 (ag (aU (bw hu (qv 9) ah)
 (ag (az 15 bW.nd (aK V hr T.aT (ae (qv 0) (ae (Za (bG T.cu (ae (qv 6) ax))) ax))))
 (ag (az 16 bW.nd (aK (Co T) hr T.tL (ae (qv 0) (ae (qv 2) (ae (Za (cg U (kQ (av (av (qv 6) (qv 15)) ah)) (N':=["_law_param"]) (.own U .nil) (cm (g:=(Tg.nm 0)) (λ_ _ _ _ _=>((du 0),(Zb (av (qv 0) ah))))))) ax)))))
 (ao (aU (bM l9 jg (bA _) (qv 16) (Za dG))
 (ao (aC (aq (af aH (af (Zb (qv 10)) (af (Zb (av (av (qv 6) (qv 15)) ah)) (af (Zb (qv 16)) (af (aK iR hr T.lG (ae (qv 0) (ae (qv 1) (ae (Za (bc (qv 2) (Za (aO (af (aq (af (Zb (qv 10)) (af (Zb (av (av (qv 6) (qv 15)) ah)) ai))) ai))))) (ae (qv 3) (ae (qv 4) ax)))))) ai))))))))
 aB))))
 aB)
 (ag (wa (g:=(Tg.tp [17,18])) (av (qv 5) (Za (aK V hr T.aT (ae (qv 0) (ae (Za (bG T.cu (ae (qv 5) ax))) ax))))) (dH (bu 17 bW.nd) (bu 18 bW.nd)))
 (ag (wa (g:=(Tg.tp [19,20])) (av (qv 18) (Za (aK V hr T.aT (ae (qv 0) (ae (Za (bG T.cu (ae (qv 18) ax))) ax))))) (dH (bu 19 bW.nd) (bu 20 bW.nd)))
 (ag (az 16 bW.nd (aK (Co T) hr T.tL (ae (qv 0) (ae (qv 2) (ae (qv 20) ax)))))
 (ag (aU (bM AG vP (bA _) (qv 16) (Za dG))
 (ao (aC (aK (Io T) hr T.xr (ae (qv 0) (ae (qv 1) (ae (qv 2) (ae (qv 8) (ae (qv 3) ax))))))))
 aB)
 (ao (aC (aq (af aH (af (Zb (qv 10)) (af (Zb (qv 19)) (af (Zb (qv 16)) (af (aK iR hr T.lG (ae (qv 0) (ae (qv 1) (ae (Za (bc (qv 2) (Za (aO (af (aq (af (Zb (qv 10)) (af (Zb (qv 17)) ai))) ai))))) (ae (qv 3) (ae (qv 4) ax)))))) ai))))))))))))))))))))))),λts Q hh=>?_)
   let(ks,hs,ws,sc,f,h,u,U,W,hf,S,hl,a3,hq):=hh;have ef:atI (hs.map tH) (f:Int)=Z (tH h):=bQ (by rw[gs,hf];rfl)
   have hE:pO [.dw,tW ks hs ws,.l (sc.map tP),.s h.2.2,.i f] Q:=(ks,hs,ws,sc,f,h,U,W,hf,S,λn b hn hb dd=>hq n b (sR hn (F5 _)) hb (dd.mono (by(first|lia|omega))))
   have a0:((sc.map tP).length:Int)=sc.length:=by rw[dN]
   have wl:=W.wl;have ak:sc.length<ws.length:=by(first|lia|omega)
   have ex:atI (ws.map L2.T.s) ((sc.map tP).length:Int)=Z (.s ws[sc.length]):=by rw[dN];exact fV (fZ ak)
   have hx:ws[sc.length]?=Z ws[sc.length]:=fZ ak;have fx:ws[sc.length] ∉ sc.map (·.1):=S.fresh W.wn hx
   generalize ws[sc.length]=x at ex fx hx
   refine(_,U,_,ef,_,U,U,by decide,by decide,λfm f0 f1=>(U,λr bb=>aE (λ_=>hE) (λh1=>(U,aE (λ_=>hE) (λ_=>aE (λ_=>hE) (λh3=>?_))))))
   have h1:¬ r<1:=λz=>h1 (decide_eq_true z)
   have h3:sc.length<=16:=by
    have h3:¬(16:Int)<((sc.map tP).length:Int):=λz=>h3 (decide_eq_true z)
    rw[a0]at h3
    (first|lia|omega)
   have u1:u.toNat=(u - 1).toNat+1:=by(first|lia|omega)
   have uN:(u - 1).toNat<N:=by(first|lia|omega)
   have s1:=z5 (u - 1).toNat;rw[<- u1]at s1;have go:∀{k:Str},k∈ks.map (·.1)->∀{Q':L2.T->Prop},(∀n b,n<=sz (u - 1).toNat->Snd ks hs h.2.2 n (sc++[Prod.mk x k]) b->Dep (3*(u - 1).toNat+2) b->Q' b)->kX N [.dw,tW ks hs ws,.l (sc.map tP ++ [tP (x,k)]),.i f,.rm (u - 1)] Q':=λ{k} hk {Q'} hQ =>
    (ks,hs,ws,sc ++ [(x,k)],f,h,u - 1,by rw[pz];rfl,W,hf,S.snoc hx (by(first|lia|omega)) hk,by rw[iQ];simp;(first|lia|omega),uN,hQ)
   have C:Dg N (sz (u - 1).toNat) (3*(u - 1).toNat+2) ks hs ws sc f h (u - 1) x Q:=(W,S.kd,h3,fx,hE,go,λn b hn hb dd=>hq n b (by(first|lia|omega)) hb (dd.mono (by(first|lia|omega))),by(first|lia|omega))
   refine(by decide,_,ex,U,aE (λ_=>?_) (λ_=>?_))
   ·refine(by decide,by decide,λr2 aS aP=>?_)
    let(v2,a7,a8):=NY (x:=3) (y:=9) (z:=1000) aS aP;refine(_,a7,by(first|lia|omega),by(first|lia|omega),λc c0 c1=>(by decide,by decide,λr4 aA ar=>?_))
    let(wd,ew,hw):=Tq aA ar;refine(_,ew,U,U,ks,hs,ws,sc,f,h,u - 1,U,W,hf,S,hl,uN,λn b hn hb dd=>hq (n+1) _ (by(first|lia|omega)) (.fb hw hb) ((EO dd).mono (by(first|lia|omega))))
   ·refine(λrest=>aE (λ_=>aE (λq=>?_) (λ_=>rest)) (λ_=>rest)) ?_
    ·have VG:sc ≠ []:=λz=>by rw[z]at q;exact absurd q (by decide)
     exact(ks,hs,ws,sc,f,h,u - 1,U,W,hf,S,by(first|lia|omega),VG,uN,λn b hn hb dd=>hq n b (by rw[u1];exact hn) hb (dd.mono (by(first|lia|omega))))
    refine(λrest=>(U,aE (λ_=>aE (λq=>Lm C (λz=>by rw[z]at q;exact absurd q (by decide)) _ _ _ _ _ _ _ _ _ _) (λ_=>rest)) (λ_=>rest))) ?_
    exact Lo C _ _ _ _ _ _ _ _ _ _
theorem AI(T:Txt K mg a):bf P w K mg base CX0 66 a.ke a.u9 [Zd,ZC,Zk] (spQ K D4):=by
 have aN:=jI (@gg P w K mg base a T);refine T.vy.F.okQ bK (λts Q h=>?_) (λ_ _ _ _ _ _ hr=>?_)
 ·let(m,u,U,_):=h;rfl
 ·have hu:=bB hr;refine(_,_,((ag (az 3 bK.nd (aK (Ik T) hr T.Dd (ae (qv 0) (ae ah ax))))
 (ag (az 4 bK.nd (aK (Im T) hr T.Df (ae (qv 0) (ae (qv 3) ax))))
 (ag (az 5 bK.nd (aO ai))
 (ag (az 6 bK.nd (kS ah (Za (aK aN hr T.aT (ae (qv 0) (ae ah ax))))))
 (ag (bF (g:=(Tg.nm 7)) PassesOwn.never U (j7 U T.fK (ae (Za (bc ah (Za (aK aN hr T.aT (ae (qv 0) (ae (qv 1) ax)))))) ax)) (bu 7 bK.nd)
 (ag (az 8 bK.nd (kU (aO (af bp (af bp (af bp (af bp (af bp (af bp (af bp ai)))))))) (Za (aK aN hr T.aT (ae (qv 0) (ae ah ax))))))
 (ag (j6 (i:=9) bK.nd U (Or.inl U) U (gN U T.fK (ae (qv 8) ax)) (N':=[Zq,Zl,Zt,Zd]) (.own U (.got (i:=3) U U (.inl U) (.got (i:=4) U U (.inl U) (.got (i:=0) U U (.inl U) .nil)))) (cm (g:=(Tg.nm 0)) (λ_ _ _ _ _=>((du 0),(aq (af (Zb (av (qv 1) (qv 0))) (af (Zb (av (av (qv 2) (Za (aK aN hr T.aT (ae (qv 3) (ae (Za (bG T.cu (ae (qv 2) ax))) ax))))) ah)) ai)))))))
 (ao (br (i:=5) (pv 5) (aq (af (Zb (av (qv 3) (Za (dX (kh U) z9 (by rfl) T.C1 (by kernel_rfl) (ae (Za (qT (qv 6) (qv 7))) (ae (Za (qT (qv 7) (qv 6))) ax)))))) (af (aR (cp U) cj (by rfl) T.d9 (by kernel_rfl) (ae (qv 9) ax)) (af (Zb (av (av (qv 4) (Za (aK aN hr T.aT (ae (qv 0) (ae (Za (bG T.cu (ae (qv 4) ax))) ax))))) ah)) ai)))))))))
 (ag (az 10 bK.nd (aO ai))
 (ag (bF (g:=(Tg.tp [7,11])) PassesOwn.never U (G6 (i:=5) U T.bC (by kernel_rfl) (pv 5)) (dH (bu 7 bK.nd) (bu 11 bK.nd))
 (ag (az 12 bK.nd (aK (MA T 31) hr T.lG (ae (qv 0) (ae (Lx (ae (qv 4) (ae (qv 5) (ae (qv 3) ax)))) (ae (Za (aR (E4 U) DO (by rfl) T.xi (by kernel_rfl) (ae (av (qv 11) ah) ax))) (ae (qv 7) (ae (Za (Ly (aO (af (Zb (qv 2)) ai)))) ax)))))))
 (ao (br (i:=10) (pv 10) (bc (qv 11) (Za (aq (af (Zb (qv 12)) ai))))))))
 (ao (aC (aq (af (Zb (qv 4)) (af (aR (cp U) cj (by rfl) T.d9 (by kernel_rfl) (ae (qv 10) ax)) ai))))))))))))),λts Q hh=>?_)
  let(mo,u,U,cD,cx,u0,ct,hq):=hh;refine(40,U,by decide,by decide,λws hl aP _=>?_)
  have hl:ws.length=40:=by(first|lia|omega)
  refine(ws,U,hl,aP,λks cq _=>(by decide,by decide,λow w0 w1=>?_))
  have gk:=cq.p;have k1:=gk.k1;have k2:=gk.k2;have lk:((ks.map tK).length:Int)=ks.length:=by rw[dN]
  refine(.inl (by(first|lia|omega),by(first|lia|omega)),by(first|lia|omega),by(first|lia|omega),λn n0 n1=>?_)
  refine(by(first|lia|omega),by(first|lia|omega),λi q=>∃hs L o5 o6 o7,q=[.r .dw,.r (.i mo),.r (.i u),.o (.l (ws.map .s)),.o (tKs ks),.o (.l L),.o (.i (39*ow)),o5,o6,o7,.no,.no,.no]/\L=hs.map tH/\vv ks ws ow.toNat hs i,([],_,_,_,_,U,U,(U,U,λ_ z=>nomatch z)),?_,?_)
  ·rintro i x q hx ⟨hs,L,o5,o6,o7,rfl,rfl,hH⟩
   let(U,hi):=kM hx;refine(_,U,by decide,by decide,λr2 bV bI=>?_)
   let(m,hm,em):=iC (xs:=[1,1,2,2,0,3,4]) (f:=L2.T.i) bV bI;have hm:m=1\/m=1\/m=2\/m=2\/m=0\/m=3\/m=4:=by simpa using hm
   refine(_,em,by(first|lia|omega),by(first|lia|omega),aD (by rw[cL];(first|lia|omega)),λp ys=>∃ps:Sc,ys=ps.map tP/\ps.map (·.1)=ws.take p/\∀q∈ps,q.2∈ks.map (·.1),([],U,U,λ_ z=>nomatch z),?_,?_)
   ·rintro p y ys hy ⟨ps,rfl,ar,a0⟩
    let(U,hp):=kM hy;have bj:p<ws.length:=by(first|lia|omega)
    have ew:atI (ws.map L2.T.s) (0+((p:Nat):Int))=Z (.s ws[p]):=by rw[WX];exact fV (by simp[bj])
    refine(_,U,_,ew,U,by rw[lk];(first|lia|omega),by rw[lk];(first|lia|omega),λr3 bE a8=>?_)
    rw[lk]at a8;let(kd,a3,ek):=iC (f:=tK) bE a8;refine(_,ek,_,U,U,ps ++ [(ws[p],kd.1)],by simp[tP],?_,λq b9=>?_)
    ·rw[pz,ar];exact take_one (by simp[bj])
    ·obtain z|z:=nZ.mp b9
     ·exact a0 q z
     ·rw[fy.mp z];exact oG.mpr (kd,a3,U)
   ·rintro ys ⟨ps,rfl,ar,a0⟩
    rw[cL]at ar;have b0:ps.length=m.toNat:=by
     have:=congrArg Nv ar
     rw[dN,qp]at this
     (first|lia|omega)
    have bb:nO ow.toNat i<ws.length:=by unfold nO;split <;> omega
    have ei:atI (ws.map L2.T.s) (if 0+(i:Int) - 39*ow > 39*ow - (0+(i:Int))then 0+(i:Int) - 39*ow else 39*ow - (0+(i:Int)))=Z (.s ws[nO ow.toNat i]):=by
     have e:(if 0+(i:Int) - 39*ow > 39*ow - (0+(i:Int))then 0+(i:Int) - 39*ow else 39*ow - (0+(i:Int)))=((nO ow.toNat i:Nat):Int):=by
      unfold nO
      have:ow=0\/ow=1:=by(first|lia|omega)
      obtain rfl|rfl:=this
      ·show _=((i:Nat):Int);split <;> omega
      ·show _=((39 - i:Nat):Int);split <;> omega
     rw[e];exact fV (by simp[bb])
    refine(aD (by rw[dN,hH.ln];(first|lia|omega)),_,ei,U,aX fw _,by rw[lk];(first|lia|omega),by rw[lk];(first|lia|omega),λr4 bt a7=>?_)
    rw[lk]at a7;let(kd,a3,ek):=iC (f:=tK) bt a7;refine(_,ek,_,U,U,hs ++ [(ws[nO ow.toNat i],ps,kd.1)],_,_,_,_,U,by simp[tH],hH.snoc (fZ bb) (by show ps.length<=4;(first|lia|omega),a0,by show ps.map (·.1)=ws.take ps.length;rw[b0];exact ar,oG.mpr (kd,a3,U)))
  ·rintro q ⟨hs,L,o5,o6,o7,rfl,rfl,hH⟩
   rw[cL]at hH;have W:Wld ks hs ws:=(gk,hl,aP,by rw[hH.ln];(first|lia|omega),by rw[hH.ln];(first|lia|omega),hH.nd hl aP (by(first|lia|omega)),hH.hp)
   refine(λi q=>∃fs L o5 o9 aS,q=[.r .dw,.r (.i mo),.r (.i u),.o (.l (ws.map .s)),.o (tKs ks),.r (.l (hs.map tH)),.o (.i (39*ow)),o5,o6,o7,.o (.l L),o9,aS]/\L=fs.map tF/\fs.map (·.1)=hs.take i/\∀f∈fs,Snd ks hs f.1.2.2 f.2.2 f.1.2.1 f.2.1/\f.2.2<=sz u.toNat/\Dep 92 f.2.1,([],_,_,_,_,U,U,U,λ_ z=>nomatch z),?_,?_)
   ·rintro i x q hx ⟨fs,L,o5,o9,aS,rfl,rfl,V,ak⟩
    let(y,hy,U):=cb hx;rw[gs]at hy;let(hd,aA,U):=gV.mp hy;have MV:=mu aA;let(q1,q2,q3,q4):=W.hp hd MV;have cE:fs.length=i:=by
     have:=congrArg Nv V
     rw[dN,qp]at this
     have:=(jS.mp aA).1
     (first|lia|omega)
    have lhs:=W.h8;have cG:=(jS.mp aA).1;refine(_,U,_,U,aX fw _,U,ks,hs,ws,hd.2.1,i,hd,u,U,W,aA,(q3,by(first|lia|omega),q2,nY _,by rw[rr]),by(first|lia|omega),by(first|lia|omega),λn b hn hb dd=>?_)
    refine(aD (by rw[dN];(first|lia|omega)),hb.im,bx (by show 4<=10000;decide),T8 hd,(by show(b.im&&O)=O;rw[hb.im];rfl),fs ++ [(hd,b,n)],_,_,_,_,U,by simp[tF],?_,λf' cf=>?_)
    ·rw[pz,V,ro,aA];rfl
    ·obtain z|z:=nZ.mp cf
     ·exact ak f' z
     ·rw[fy.mp z];exact(hb,hn,dd.mono (by(first|lia|omega)))
   ·rintro q ⟨fs,L,o5,o9,aS,rfl,rfl,V,ak⟩
    rw[aZ,dN,rr]at V;have cc:L2.T.ims (fs.map tF)=true:=by
     have go:∀(l:List Fn),(∀f∈l,f.2.1.im=O)->L2.T.ims (l.map tF)=true:=by
      intro l
      induction l with
      |nil=>intro _;rfl
      |cons f r ih =>
       intro h;show((O&&(L2.T.ims (f.1.2.1.map tP)&&(O&&(f.2.1.im&&O))))&&L2.T.ims (r.map tF))=O;rw[aX fw,h f lD,ih λf hf=>h f (g5 _ hf)];rfl
     exact go fs λf hf=>(ak f hf).1.im
    refine(rS ks,cc,hq ks fs (gk,?_,?_,λf hf=>?_,λf hf=>?_,λf hf=>(ak f hf).2.2) ?_ λf hf=>(ak f hf).2.1)
    ·have:=congrArg Nv V
     rw[dN]at this
     have:=W.h8
     (first|lia|omega)
    ·have:fs.map (·.1.1)=(fs.map (·.1)).map (·.1):=by rw[uk];rfl
     rw[this,V];exact W.hn
    ·have hm:f.1∈hs:=by rw[<- V];exact oG.mpr (f,hf,U)
     let(q1,q2,q3,q4):=W.hp f.1 hm;exact(q1,q2,by rw[q3];exact aP.sublist (Wm _ _),q4)
    ·rw[V];exact((ak f hf).1,sR (ak f hf).2.1 (sR (KP (by(first|lia|omega))) Sx))
    ·intro e;rw[e]at V
     have:=hH.ln
     rw[<- V]at this;simp at this
     (first|lia|omega)
theorem kb{ts:List L2.T}(h:∀t∈ts,t.im=O):L2.T.ims ts=true:=by
 induction ts with
 |nil=>rfl
 |cons t r g=>show(t.im&&L2.T.ims r)=O;rw[h t lD,g λt q=>h t (g5 _ q)];rfl
theorem cP(h:n<=1002000):n<pq:=V8 h (by decide)
def RJ:L2.T->L2.T
 |.t [_,_,b]=>b
 |_=>.n
def subs:L2.T->List (L2.T×L2.T)
 |.t [.s _,.s _,.t arms]=>arms.map λx=>(RJ x,x)
 |.t [.s _,.i _,b]=>[(b,.n)]
 |.t [.s _,.s _,.s _,b]=>[(b,.n)]
 |.t [.s _,.s _,.s _,.t _,b]=>[(b,.n)]
 |_=>[]
inductive Kid(ks:List Kd)(hs:List Hd):Sc->L2.T->Nat->L2.T->L2.T->Sc->Prop
 |fb{sc:Sc}{w:Str}{c:Int}{b:L2.T}:(w="pay" \/ w="get")->Kid ks hs sc (.t [.s w,.i c,b]) 0 b .n sc
 |name{sc:Sc}{x y k:Str}{b:L2.T}:(y,k)∈sc->x ∉ sc.map (·.1)->Kid ks hs sc (.t [.s "name",.s x,.s y,b]) 0 b .n (sc++[Prod.mk x k])
 |make{sc:Sc}{x:Str}{m:Mk1}{kd:Kd}{ns:List Str}{b:L2.T}:kd∈ks->m∈kd.2->x ∉ sc.map (·.1)->Kid ks hs sc (.t [.s "make",.s x,.s m.1,.t (ns.map .s),b]) 0 b .n (sc ++ [(x,kd.1)])
 |call{sc:Sc}{x:Str}{h:Hd}{ns:List Str}{b:L2.T}:h∈hs->x ∉ sc.map (·.1)->Kid ks hs sc (.t [.s "call",.s x,.s h.1,.t (ns.map .s),b]) 0 b .n (sc ++ [(x,h.2.2)])
 |case{sc:Sc}{x:Str}{kd:Kd}{arms:List Arm}{j:Nat}{a:Arm}{m:Mk1}:(x,kd.1)∈sc->kd∈ks->arms.map (·.1)=kd.2.map (·.1)->arms[j]?=Z a->kd.2[j]?=Z m->a.2.1.length=m.2.length->(sc.map (·.1)++a.2.1).Nodup->Kid ks hs sc (.t [.s "case",.s x,.t (arms.map tA)]) j a.2.2.1 (tA a) (sc++a.2.1.zip m.2)
inductive Shp:L2.T->Prop
 |give{x:Str}:Shp (.t [.s "give",.s x])
 |fb{w:Str}{c:Int}{b:L2.T}:(w="pay" \/ w="get")->b.im=O->Shp (.t [.s w,.i c,b])
 |name{x y:Str}{b:L2.T}:b.im=O->Shp (.t [.s "name",.s x,.s y,b])
 |use{w x m:Str}{ns:List Str}{b:L2.T}:(w="make" \/ w="call")->b.im=O->Shp (.t [.s w,.s x,.s m,.t (ns.map .s),b])
 |case{x:Str}{arms:List Arm}:(∀a∈arms,a.2.2.1.im=O)->arms.length<=50000->Shp (.t [.s "case",.s x,.t (arms.map tA)])
structure Nod where
 b:L2.T
 ab:L2.T
 am:L2.T
 pa:List (Nat×L2.T×Nat)
 sc:Sc
def Ez(n:Nat)(d:Nod)(j:Nat)(b am:L2.T)(sc:Sc):Nod:=(b,.i n,am,d.pa ++ [(n,d.b,j)],sc)
inductive Ask(ks:List Kd)(sc:Sc):L2.T->Option Str->Prop
 |give{x:Str}:Ask ks sc (.t [.s "give",.s x]) Y
 |fb{w:Str}{c:Int}{b:L2.T}:(w="pay" \/ w="get")->Ask ks sc (.t [.s w,.i c,b]) Y
 |name{x y k:Str}{b:L2.T}:(y,k)∈sc->Ask ks sc (.t [.s "name",.s x,.s y,b]) (Z k)
 |make{x:Str}{m:Mk1}{kd:Kd}{ns:List Str}{b:L2.T}:kd∈ks->m∈kd.2->Ask ks sc (.t [.s "make",.s x,.s m.1,.t (ns.map .s),b]) (Z kd.1)
 |call{x g:Str}{ns:List Str}{b:L2.T}:Ask ks sc (.t [.s "call",.s x,.s g,.t (ns.map .s),b]) Y
 |case{x k:Str}{arms:List Arm}:(x,k)∈sc->Ask ks sc (.t [.s "case",.s x,.t (arms.map tA)]) (Z k)
structure RY(ks:List Kd)(hs:List Hd)(n:Nat)(d:Nod)(cs:List Nod):Prop where
 ok:∀(j:Nat)(c:Nod),cs[j]?=Z c->c=Ez n d j c.b c.am c.sc/\Kid ks hs d.sc d.b j c.b c.am c.sc
 su:cs.map (λc=>Prod.mk c.b c.am)=subs d.b
 sh:Shp d.b
 ak:∃o,Ask ks d.sc d.b o
mutual
inductive Pre(ks:List Kd)(hs:List Hd):Nat->Nod->List Nod->Prop
 |mk{n:Nat}{d:Nod}{cs L:List Nod}:RY ks hs n d cs->cw ks hs (n+1) cs L->Pre ks hs n d (d::L)
inductive cw(ks:List Kd)(hs:List Hd):Nat->List Nod->List Nod->Prop
 |nil{n:Nat}:cw ks hs n [] []
 |cons{n:Nat}{d:Nod}{ds L M:List Nod}:Pre ks hs n d L->cw ks hs (n+L.length) ds M->cw ks hs n (d::ds) (L++M)
end
variable{ds:List Nod}{L:List Nod}
theorem cw.app{es M:List Nod}:∀{n:Nat},cw ks hs n ds L->cw ks hs (n+L.length) es M->cw ks hs n (ds++es) (L++M):=by
 induction ds generalizing L with
 |nil=>intro n h h2;cases h;simpa using h2
 |cons d ds g =>
  intro n h h2;cases h with
  |@cons _ _ _ z q h1 h3 =>
   rw[XE,u4];exact .cons h1 (g h3 (by rw[iQ,<- Nat.add_assoc]at h2;exact h2))
theorem cw.pop{d:Nod}(h:cw ks hs n (d::ds) L):∃cs g,RY ks hs n d cs/\L=d::g/\cw ks hs (n+1) (cs++ds) g:=by
 cases h with
 |@cons _ _ _ z q h1 h3 =>
  cases h1 with
  |@mk _ _ cs L2 hk h2 =>
   refine(cs,L2++q,hk,U,h2.app ?_);rw[qf]at h3;rw[show n+1+L2.length=n+(L2.length+1)by(first|lia|omega)]
   exact h3
theorem cw.le(h:cw ks hs n ds L):ds.length<=L.length:=by
 induction ds generalizing n L with
 |nil=>exact wh _
 |cons d ds g =>
  cases h with
  |cons h1 h3 =>
   have:=g h3
   cases h1;simp only[qf,iQ]
   (first|lia|omega)
theorem QF{l:List Nat}{x:Nat}(h:x∈l):x<=l.sum:=by
 induction l with
 |nil=>cases h
 |cons y r g =>
  rw[WZ];obtain z|z:=ot.mp h
  ·omega
  ·have:=g z;(first|lia|omega)
theorem MH{l:List Nat}(h:∀x∈l,1<=x):l.length<=l.sum:=by
 induction l with
 |nil=>exact nY _
 |cons y r g =>
  have h1:=h y lD;have h2:=g λz q=>h z (g5 _ q)
  rw[WZ,qf]
  (first|lia|omega)
theorem Snd.pos{b:L2.T}(h:Snd ks hs r n sc b):1<=n:=by cases h <;> omega
theorem Snd.pre{b:L2.T}(h:Snd ks hs r m sc b)(aN:m<=50000):∀(n:Nat)(ab am:L2.T)(pa:List (Nat×L2.T×Nat)),∃L,Pre ks hs n (b,ab,am,pa,sc) L/\L.length<=m:=by
 have one:∀{m:Nat}{sc sc':Sc}{b b':L2.T}{o:Option Str},Kid ks hs sc b 0 b' .n sc'->Shp b->Ask ks sc b o->subs b=[(b',.n)]->(∀(n:Nat)(ab am:L2.T)(pa:List (Nat×L2.T×Nat)),∃L,Pre ks hs n (b',ab,am,pa,sc') L/\L.length<=m)->∀(n:Nat)(ab am:L2.T)(pa:List (Nat×L2.T×Nat)),∃L,Pre ks hs n (b,ab,am,pa,sc) L/\L.length<=m+1:=by
  intro m sc sc' b b' o hk sh ak aA g n ab am pa;let(L,h1,h2):=g (n+1) (.i n) .n (pa ++ [(n,b,0)]);refine((b,ab,am,pa,sc)::L,.mk (cs:=[(b',.i n,.n,pa ++ [(n,b,0)],sc')]) (λj c q=>?_,by rw[aA];rfl,sh,(o,ak)) (by have:=cw.cons h1 (.nil);rwa [qg]at this),by simp;(first|lia|omega))
  cases j with
  |zero=>cases q;exact(U,hk)
  |succ j=>simp at q
 induction h with
 |give hx =>
  intro n ab am pa;exact([_],.mk (cs:=[]) (λj c q=>by simp at q,U,.give,(Y,.give)) .nil,by simp)
 |fb hw h g=>exact one (.fb hw) (.fb hw h.im) (.fb hw) U (g (by(first|lia|omega)))
 |name hy hx h g=>exact one (.name hy hx) (.name h.im) (.name hy) U (g (by(first|lia|omega)))
 |make K hm hF hx h g=>exact one (.make K hm hx) (.use (.inl U) h.im) (.make K hm) U (g (by(first|lia|omega)))
 |call hh hF hx h g=>exact one (.call hh hx) (.use (.inr U) h.im) .call U (g (by(first|lia|omega)))
 |@case sc x kd arms hx K Q h1 h2 g =>
  intro n ab am pa;have el:arms.length=kd.2.length:=by simpa using congrArg Nv Q
  have sz:∀(j:Nat)(a:Arm),arms[j]?=Z a->a.2.2.2 <=(arms.map (·.2.2.2)).sum:=λj a ha=>QF (oG.mpr (a,mu ha,U))
  have sh:Shp (.t [.s "case",.s x,.t (arms.map tA)]):=.case (λa ha=>by
   let(i,hi,e):=sS ha;exact(h2 i a (kd.2[i]'(by(first|lia|omega))) (by rw[fZ hi,e]) (fZ _)).im) (by
   have:arms.length <=(arms.map (·.2.2.2)).sum:=by
    have:=MH (l:=arms.map (·.2.2.2)) λz hz=>by
     let(a,ha,U):=oG.mp hz;let(i,hi,e):=sS ha;exact(h2 i a (kd.2[i]'(by(first|lia|omega))) (by rw[fZ hi,e]) (fZ _)).pos
    simpa using this
   omega)
  let b:L2.T:=.t [.s "case",.s x,.t (arms.map tA)]
  have go:∀(k j:Nat),j+k=arms.length->∀P,∃(cs L:List Nod),cw ks hs P cs L/\cs.length=k/\L.length <=((arms.drop j).map (·.2.2.2)).sum/\cs.map (λc=>Prod.mk c.b c.am)=(arms.drop j).map (λa=>Prod.mk a.2.2.1 (tA a))/\∀(i:Nat)(c:Nod),cs[i]?=Z c->c=Ez n (b,ab,am,pa,sc) (j+i) c.b c.am c.sc/\Kid ks hs sc b (j+i) c.b c.am c.sc:=by
   intro k
   induction k with
   |zero =>
    intro j hj P;refine([],[],.nil,U,wh _,?_,λi c q=>by simp at q)
    rw[Xd (by(first|lia|omega))];rfl
   |succ k ar =>
    intro j hj P;have V:j<arms.length:=by(first|lia|omega)
    have ea:arms[j]?=Z arms[j]:=fZ V;have em:kd.2[j]?=Z (kd.2[j]'(by(first|lia|omega))):=fZ _
    let(q1,q2):=h1 j _ _ ea em;have hK:Kid ks hs sc b j arms[j].2.2.1 (tA arms[j]) (sc++arms[j].2.1.zip (kd.2[j]'(by(first|lia|omega))).2):=.case hx K Q ea em q1 q2
    let(L1,p1,p2):=g j _ _ ea em (by have:=sz j _ ea;(first|lia|omega)) P (.i n) (tA arms[j]) (pa ++ [(n,b,j)])
    let(cs,L,c1,c2,c3,c4,c5):=ar (j+1) (by(first|lia|omega)) (P+L1.length)
    have ed:arms.drop j=arms[j]::arms.drop (j+1):=Xs V;refine(_::cs,L1++L,.cons p1 c1,by simp[c2],?_,?_,λi c q=>?_)
    ·rw[ed,E3,WZ,iQ];(first|lia|omega)
    ·rw[ed,E3,E3,c4]
    ·cases i with
     |zero=>cases q;exact(U,hK)
     |succ i =>
      let(z1,z2):=c5 i c q;rw[show j+(i+1)=j+1+i by(first|lia|omega)]
      exact(z1,z2)
  let(cs,L,c1,_,c3,c4,c5):=go arms.length 0 (by(first|lia|omega)) (n+1)
  rw[X0]at c3 c4;refine(_::L,.mk (cs:=cs) (λj c q=>?_,?_,sh,(_,.case hx)) c1,by simp;(first|lia|omega))
  ·have:=c5 j c q
   rwa [Fq]at this
  ·rw[c4];show _=(arms.map tA).map λx=>Prod.mk (RJ x) x
   rw[uk];rfl
theorem cw.from:∀(k:Nat){n:Nat}{ds M:List Nod},M.length=k->cw ks hs n ds M->∀(m:Nat)(d:Nod),M[m]?=Z d->(∃j,ds[j]?=Z d/\(m=0->j=0))\/∃(p:Nat)(e:Nod)(cs:List Nod)(j:Nat),p<m/\M[p]?=Z e/\RY ks hs (n+p) e cs/\cs[j]?=Z d:=by
 intro k
 induction k with
 |zero =>
  intro n ds M hl h m d hm;rw[uy.mp hl]at hm;simp at hm
 |succ k P =>
  intro n ds M hl h m d hm;cases ds with
  |nil=>cases h;simp at hl
  |cons d0 ds =>
   let(cs,L',hk,U,h2):=h.pop;cases m with
   |zero=>cases hm;exact .inl (0,U,λ_=>rfl)
   |succ m =>
    obtain⟨j,g,_⟩|⟨p,e,K,j,hp,he,V,Q⟩:=P (n:=n+1) (by simpa using hl) h2 m d (by simpa using hm)
    ·by_cases q:j<cs.length
     ·rw[vr q]at g;exact .inr (0,d0,cs,j,by(first|lia|omega),U,hk,g)
     ·rw[C5 (by(first|lia|omega))]at g
      exact .inl (j - cs.length+1,by simpa using g,λz=>by(first|lia|omega))
    ·exact .inr (p+1,e,K,j,by(first|lia|omega),by simpa using he,by rw[show n+(p+1)=n+1+p by(first|lia|omega)];exact V,Q)
def spT(C:J)(p a r:L2.T):L2.T:=.ob C [Ze,"above","arm"] [p,a,r]
def spN(C:J)(d:Nod):L2.T:=spT C d.b d.ab d.am
inductive D6(C:J)(ts:List L2.T)(Q:L2.T->Prop):Prop
 |mk (b:L2.T) (n:Nat) (h1:ts=[b,.i n]) (h2:Shp b) (h3:b.im=O) (h4:Q (.l ((subs b).map λp=>spT C p.1 (.i n) p.2)))
theorem Shp.im{b:L2.T}(h:Shp b):b.im=true:=by
 cases h with
 |give=>rfl
 |fb _ h=>show(O&&(O&&(L2.T.im _&&O)))=O;rw[h];rfl
 |name h=>show(O&&(O&&(O&&(L2.T.im _&&O))))=O;rw[h];rfl
 |use _ h=>show(O&&(O&&(O&&(L2.T.ims _&&(L2.T.im _&&O)))))=O;rw[h,a5];rfl
 |case h =>
  show(O&&(O&&(L2.T.ims _&&O)))=O;rw[kb λt g=>by
   let(a,ha,U):=oG.mp g;show(O&&(L2.T.ims (a.2.1.map .s)&&(a.2.2.1.im&&O)))=O;rw[h a ha,a5];rfl]
  rfl
theorem cw.ims{M:List Nod}(h:cw ks hs n ds M):∀e∈M,e.b.im=true:=by
 have go:∀(k:Nat){n:Nat}{ds M:List Nod},M.length=k->cw ks hs n ds M->∀e∈M,e.b.im=true:=by
  intro k
  induction k with
  |zero =>
   intro n ds M hl h e he;rw[uy.mp hl]at he;cases he
  |succ k g =>
   intro n ds M hl h e he;cases ds with
   |nil=>cases h;simp at hl
   |cons z ds =>
    let(cs,K,q,U,h2):=h.pop;obtain rfl|he:=ot.mp he
    ·exact q.sh.im
    ·exact g (by simpa using hl) h2 e he
 exact go _ U h
theorem cw.asks:∀(k:Nat){n:Nat}{ds M:List Nod},M.length=k->cw ks hs n ds M->∀e∈M,∃o,Ask ks e.sc e.b o:=by
 intro k
 induction k with
 |zero =>
  intro n ds M hl h e he;rw[uy.mp hl]at he;cases he
 |succ k g =>
  intro n ds M hl h e he;cases ds with
  |nil=>cases h;simp at hl
  |cons z ds =>
   let(cs,K,q,U,h2):=h.pop;obtain rfl|he:=ot.mp he
   ·exact q.ak
   ·exact g (by simpa using hl) h2 e he
inductive LW(C:J)(ts:List L2.T)(Q:L2.T->Prop):Prop
 |mk(ks:List Kd)(hs:List Hd)(d:Nod)(L:List Nod)(h1:ts=[d.b])(h2:d.ab=.n)(h3:d.am=.n)(h4:Pre ks hs 0 d L)(h5:L.length<=50000)(h6:Q (.l (L.map (spN C))))
inductive HD(ts:List L2.T)(Q:L2.T->Prop):Prop
 |mk(ks:List Kd)(hs:List Hd)(d:Nod)(L:List Nod)(h1:ts=[d.b])(h2:d.ab=.n)(h3:d.am=.n)(h4:Pre ks hs 0 d L)(h5:L.length<=50000)(h6:Q (.l (L.map (·.b))))
theorem Cn(T:Txt K mg a):bf P w K mg base CX0 1 a.dP a.jK [Zh,Ze,"above","arm"] (vM a.aP [Ze,"above","arm"]):=by
 refine Fun.ok T.gu vS (λvs H Q E h=>?_) λcdv A outer s H vs Q E hr h=>?_
 ·let(x,dx,args,U,hl,_):=h;show args.length+1=4;rw[hl];rfl
 ·let(x,dx,args,U,hl,hx,hq):=h;obtain⟨v1,v2,g,rfl⟩:∃v1 v2 g,args=[v1,v2,g]:=by
   cases args with
   |nil=>cases hl
   |cons v1 r=>cases r with
    |nil=>cases hl
    |cons v2 r=>cases r with
     |nil=>cases hl
     |cons g r=>cases r with
      |nil=>exact(v1,v2,g,U)
      |cons=>cases hl
  refine(_,bz (jv (pv 0) (pv 1) U) (bz (jv (pv 0) (pv 2) U) (eQ (jv (pv 0) (pv 3) U))),(_,U,_,U,x,a.aP,dx,_,U,hx,T.cc,T.dv,(by show 0<1000;decide),(_,U,_,U,x,a.aP,dx,_,U,au,T.cc,T.bE,(by show 1<1000;decide),(_,U,_,U,x,a.aP,dx,_,U,au,T.cc,T.jz,(by show 2<1000;decide),?_))))
  rw[gc,gc];exact hq
theorem nL(T:Txt K mg a):bf P w K mg base CX0 3 a.dB a.iZ [Ze,"number"] (spQ K (D6 a.aP)):=by
 refine T.i8.F.okQ nA (λts Q h=>?_) (λ_ _ _ _ _ _ hr=>?_)
 ·let(b,n,U,_):=h;rfl
 ·have hu:=bB hr;refine(_,_,((ag (aU (bw hu (av (qv 0) ah) (Za aH))
 (ao (aC (aO ai)))
 aB)
 (ag (aU (bw hu (av (qv 0) ah) (Za aH))
 (ao (aC (cg U (kQ (av (qv 0) ah)) (N':=["arm","number"]) (.own U (.got (i:=1) U U (.inl U) .nil)) (cm (g:=(Tg.nm 0)) (λ_ _ _ _ _=>((du 0),(gO U T.wF (Cn T) (hr.mono (by(first|lia|omega))) U T.wC T.jN (ae (av (qv 0) ah) (ae (qv 1) (ae (qv 0) ax))))))))))
 aB)
 (ao (aC (aO (af (gO U T.wF (Cn T) (hr.mono (by(first|lia|omega))) U T.wC T.jN (ae (av (qv 0) (Za (jr ah))) (ae (qv 1) (ae (Za dG) ax)))) ai))))))),λts Q h=>?_)
  let(b,n,U,hS,ak,hq):=h;cases hS with
  |give=>exact(_,U,U,aE (λ_=>hq) (λz=>absurd (by decide +kernel) z))
  |@fb w c b hw q =>
   have n1:¬ decide ((L2.T.s w).v=(L2.T.s "give").v)=true:=by obtain rfl|rfl:=hw <;> decide +kernel
   have V:¬ decide ((L2.T.s w).v=(L2.T.s "case").v)=true:=by obtain rfl|rfl:=hw <;> decide +kernel
   refine(_,U,U,aE (λz=>absurd z n1) λ_=>(_,U,U,aE (λz=>absurd z V) λ_=>(_,U,?_)))
   exact((by show(b.im&&(O&&(O&&O)))=O;rw[q];rfl),U,hq)
  |@name x y b q =>
   refine(_,U,U,aE (λz=>absurd z (by decide +kernel)) λ_=>(_,U,U,aE (λz=>absurd z (by decide +kernel)) λ_=>(_,U,?_)))
   exact((by show(b.im&&(O&&(O&&O)))=O;rw[q];rfl),U,hq)
  |@use w x m ns b hw q =>
   have n1:¬ decide ((L2.T.s w).v=(L2.T.s "give").v)=true:=by obtain rfl|rfl:=hw <;> decide +kernel
   have V:¬ decide ((L2.T.s w).v=(L2.T.s "case").v)=true:=by obtain rfl|rfl:=hw <;> decide +kernel
   refine(_,U,U,aE (λz=>absurd z n1) λ_=>(_,U,U,aE (λz=>absurd z V) λ_=>(_,U,?_)))
   exact((by show(b.im&&(O&&(O&&O)))=O;rw[q];rfl),U,hq)
  |@case x arms q hl =>
   refine(_,U,U,aE (λz=>absurd z (by decide +kernel)) λ_=>(_,U,U,aE (λ_=>?_) λz=>absurd (by decide +kernel) z))
   refine(_,U,cP (by rw[dN];(first|lia|omega)),λi ys=>ys=(arms.take i).map (λz=>spT a.aP z.2.2.1 (.i n) (tA z)),U,?_,?_)
   ·rintro i y ys hy rfl
    rw[gs]at hy;let(z,hz,U):=gV.mp hy;have hi:=q z (mu hz);refine(_,U,_,U,(by show(z.2.2.1.im&&(O&&((O&&(L2.T.ims (z.2.1.map .s)&&(z.2.2.1.im&&O)))&&O)))=O;rw[hi,a5];rfl),U,?_)
    show _ ++ [spT a.aP z.2.2.1 (.i n) (tA z)]=_;rw[ro,hz];simp
   ·rintro ys rfl
    rw[dN,rr];have e:(subs (.t [.s "case",.s x,.t (arms.map tA)])).map (λp=>spT a.aP p.1 (.i n) p.2)=arms.map λz=>spT a.aP z.2.2.1 (.i n) (tA z):=by
     show((arms.map tA).map λx=>Prod.mk (RJ x) x).map _=_
     rw[uk,uk];rfl
    rw[e]at hq;exact hq
theorem rn(T:Txt K mg a):bf P w K mg base CX0 4 a.pW a.CT ["body"] (spQ K (LW a.aP)):=by
 refine T.qi.F.okQ lP (λts Q h=>?_) (λ_ _ _ _ _ _ hr=>?_)
 ·let(ks,hs,d,L,U,_):=h;rfl
 ·have hu:=bB hr;refine(_,_,((ag (az 1 lP.nd (aO ai))
 (ag (az 2 lP.nd (aO (af (gO U T.wF (Cn T) (hr.mono (by(first|lia|omega))) U T.wC T.jN (ae (qv 0) (ae (Za dG) (ae (Za dG) ax)))) ai)))
 (ag (xW PassesOwn.never (gM (qv 2))
 (ag (GZ (j:=3) lP.nd U (Or.inl U) (pv 2))
 (ag (c7 (i:=2) (pv 2) (xZ U U T.xi U T.sL (Za (aK (nL T) hr T.i8 (ae (aW T.cc T.dv (qv 3)) (ae (Za (bG T.cu (ae (qv 1) ax))) ax))))))
 (ao (br (i:=1) (pv 1) (Zb (qv 3)))))))
 (ao (fC (i:=1) (pv 1))))))),λts Q h=>?_)
  let(ks,hs,d,L,U,e1,e2,hP,hL,hq):=h;have ak:d.b.im=true:=by cases hP with|mk hk _=>exact hk.sh.im
  refine((by show(d.b.im&&(O&&(O&&O)))=O;rw[ak];rfl),U,?_)
  refine(λc q=>∃(A W M:List Nod)(X Yw:List L2.T)(V:Sl),q=[.r d.b,.o (.l X),.o (.l Yw),V]/\X=A.map (spN a.aP)/\Yw=W.reverse.map (spN a.aP)/\cw ks hs A.length W M/\L=A++M/\c=M.length,(_,[],[d],L,_,_,_,U,U,?_,?_,U,U),?_)
  ·show [spT a.aP d.b .n .n]=[spT a.aP d.b d.ab d.am];rw[e1,e2]
  ·have:=cw.cons hP (.nil)
   rwa [qg]at this
  rintro c q ⟨A,W,M,X,Yw,V,rfl,rfl,rfl,hM,g,rfl⟩
  cases W with
  |nil =>
   cases hM;rw[qg]at g;subst g;exact hq
  |cons v W =>
   let(cs,M',hK,U,h2):=hM.pop;have hle:=h2.le;have aA:A.length+(M'.length+1)<=50000:=by rw[g,iQ,qf]at hL;exact hL
   rw[iQ]at hle;have eY:(v::W).reverse.map (spN a.aP)=W.reverse.map (spN a.aP) ++ [spN a.aP v]:=by simp
   have ar:cs.map (spN a.aP)=(subs v.b).map λp=>spT a.aP p.1 (.i A.length) p.2:=by
    rw[<- hK.su,uk];refine WE λc hc=>?_
    let(j,hj,U):=sS hc;have e:=(hK.ok j _ (fZ hj)).1;show spT _ _ _ _=spT _ _ _ _;rw[show cs[j].ab=.i A.length from congrArg Nod.ab e]
   refine aE (λ_=>?_) (λz=>absurd (by rw[eY];simp) z)
   refine(λq'=>∃(A W M:List Nod)(X Yw:List L2.T)(V:Sl),q'=[.r d.b,.o (.l X),.o (.l Yw),V]/\X=A.map (spN a.aP)/\Yw=W.reverse.map (spN a.aP)/\cw ks hs A.length W M/\L=A++M/\M.length<M'.length+1,?_,?_)
   ·rintro q' ⟨A,W,M,X,Yw,V,rfl,rfl,rfl,g1,g2,g3⟩
    exact(M.length,g3,A,W,M,_,_,_,U,U,U,g1,g2,U)
   ·refine(_,_,eY,kb λt ht=>by
     let(z,_,U):=oG.mp ht;rfl,by decide,?_)
    refine(U,(by decide),_,U,v.b,A.length,(by rw[dN]),hK.sh,hK.sh.im,?_)
    refine(kb λt ht=>by
     let(z,_,U):=oG.mp ht;rfl,?_)
    rw[<- ar];refine(?_,?_)
    ·have:W.length+cs.length<=1002000:=by(first|lia|omega)
     simp only[dN,X7];exact sV (cP this)
    ·refine(cP (by rw[dN];(first|lia|omega)),U,?_)
     exact(A ++ [v],cs++W,M',_,_,_,U,by simp,by simp,by rw[iQ];exact h2,by simp[g],by(first|lia|omega))
def en{α:Type}(f:α->Str)(g:α->L2.T)(x:α):Key×L2.T:=(.inr (f x),g x)
theorem l7{α:Type}{f:α->Str}{g:α->L2.T}:∀xs:List α,cn (xs.map λx=>.t [.s (f x),g x])=Z (xs.map (en f g))
 |[]=>rfl
 |k::r=>by
  show(match(Z (.inr (f k)):Option Key),cn (r.map λx=>.t [.s (f x),g x])with|some k',Z r=>Z ((Prod.mk k' (g k))::r)|_,_=>Y)=_
  rw[l7 r];rfl
theorem yt{α:Type}{f:α->Str}{g:α->L2.T}{xs ys:List α}(h:((xs++ys).map f).Nodup):cX (xs.map (en f g)) (ys.map (en f g))=(xs++ys).map (en f g):=by
 rw[pz]at h;let(h1,h2,h3):=yK.mp h;rw[mh,pz]
 ·rw[uk]
  have:(ys.map ((λx:Key×L2.T=>x.1) ∘ en f g))=(ys.map f).map Sum.inr:=by rw[uk];rfl
  rw[this];exact Wy.mpr (h2.imp λK z=>K (Sum.inr.inj z))
 ·intro p hp q hq;let(x,hx,U):=oG.mp hp;let(y,P,U):=oG.mp hq;exact λz=>h3 _ (oG.mpr (y,P,U)) _ (oG.mpr (x,hx,U)) (Sum.inr.inj z)
theorem p8{α:Type}{f:α->Str}{g:α->L2.T}{xs:List α}(h:(xs.map f).Nodup):cX [] (xs.map (en f g))=xs.map (en f g):=yt (xs:=[]) h
theorem mj{α:Type}{f:α->Str}{g:α->L2.T}:∀{xs:List α}{x:α},(xs.map f).Nodup->x∈xs->cC (xs.map (en f g)) (.inr (f x))=Z (g x)
 |y::r,x,h,hx=>by
  have h':=u6.mp h;unfold cC;rw[E3,Ny,show(en f g y).1=.inr (f y)from U,A8];by_cases e:f y=f x
  ·rw[decide_eq_true e];obtain rfl|z:=ot.mp hx
   ·rfl
   ·exact absurd (oG.mpr (x,z,e.symm)) h'.1
  ·rw[decide_eq_false e];obtain rfl|z:=ot.mp hx
   ·exact absurd U e
   ·exact mj (xs:=r) h'.2 z
abbrev enM:Mk1->Key×L2.T:=en (·.1) λm=>.t (m.2.map .s)
abbrev enP:Str×Str->Key×L2.T:=en (·.1) λp=>.s p.2
theorem Mf(ms:List Mk1):cn (ms.map tM)=Z (ms.map enM):=l7 (f:=λm:Mk1=>m.1) (g:=λm:Mk1=>.t (m.2.map .s)) ms
theorem wt(sc:Sc):cn (sc.map tP)=Z (sc.map enP):=l7 (f:=λm:Str×Str=>m.1) (g:=λp:Str×Str=>.s p.2) sc
theorem wH{k:Str}(h:(sc.map (·.1)).Nodup)(hx:(x,k)∈sc):cC (sc.map enP) (.inr x)=Z (.s k):=mj (f:=λm:Str×Str=>m.1) (g:=λp:Str×Str=>.s p.2) h hx
theorem rX:∀{ks:List Kd}{i j:Nat}{k k':Kd}{m m':Mk1},(names ks).Nodup->ks[i]?=Z k->ks[j]?=Z k'->m∈k.2->m'∈k'.2->m.1=m'.1->i=j
 |x::r,0,0,_,_,_,_,_,_,_,_,_,_=>rfl
 |x::r,i+1,j+1,k,k',m,m',h,h1,h2,h3,h4,h5=>by
  have h:(x.2.map (·.1)++names r).Nodup:=h;exact congrArg (· + 1) (rX (ks:=r) (k:=k) (k':=k') (yK.mp h).2.1 (by simpa using h1) (by simpa using h2) h3 h4 h5)
 |x::r,0,j+1,k,k',m,m',h,h1,h2,h3,h4,h5=>by
  have h:(x.2.map (·.1)++names r).Nodup:=h;cases h1;exact absurd h5 ((yK.mp h).2.2 _ (oG.mpr (m,h3,U)) _ (WH.mpr (k',mu (by simpa using h2),oG.mpr (m',h4,U))))
 |x::r,i+1,0,k,k',m,m',h,h1,h2,h3,h4,h5=>by
  have h:(x.2.map (·.1)++names r).Nodup:=h;cases h2;exact absurd h5.symm ((yK.mp h).2.2 _ (oG.mpr (m',h4,U)) _ (WH.mpr (k,mu (by simpa using h1),oG.mpr (m,h3,U))))
theorem yp(h:(names ks).Nodup){k:Kd}(hk:k∈ks):(k.2.map (·.1)).Nodup:=by
 induction ks with
 |nil=>cases hk
 |cons x r g =>
  have h:(x.2.map (·.1)++names r).Nodup:=h;let(h1,h2,_):=yK.mp h;obtain rfl|z:=ot.mp hk
  ·exact h1
  ·exact g h2 z
theorem Cp(h:(ks.map (·.1)).Nodup){k:Kd}(hk:k∈ks):gU ks k.1=k.2:=by
 let(i,hi,U):=sS hk;refine Cq (fZ hi) U λj y z q e=>?_
 have g:j<ks.length:=by(first|lia|omega)
 rw[fZ g]at q;cases q
 have:=(Xz (h₀:=by simpa using g) (h₁:=by simpa using hi) h).mp (by simpa using e)
 (first|lia|omega)
inductive Pth(ks:List Kd)(hs:List Hd):Sc->List (Nat×L2.T×Nat)->Sc->Prop
 |nil{sc:Sc}:Pth ks hs sc [] sc
 |cons{sc sc' Sz:Sc}{n j:Nat}{b b' am:L2.T}{r:List (Nat×L2.T×Nat)}:Kid ks hs sc b j b' am sc'->Pth ks hs sc' r Sz->Pth ks hs sc ((n,b,j)::r) Sz
theorem Pth.snoc{g:Sc}{pa:List (Nat×L2.T×Nat)}{b b' am:L2.T}(h:Pth ks hs g pa sc)(hk:Kid ks hs sc b j b' am sc'):Pth ks hs g (pa ++ [(n,b,j)]) sc':=by
 induction h with
 |nil=>exact .cons hk .nil
 |cons h1 _ q=>exact .cons h1 (q hk)
theorem cw.all{R:Nod->Prop}(hk:∀n d j b am sc,R d->Kid ks hs d.sc d.b j b am sc->R (Ez n d j b am sc)):∀(k:Nat){n:Nat}{ds M:List Nod},M.length=k->cw ks hs n ds M->(∀d∈ds,R d)->∀e∈M,R e:=by
 intro k
 induction k with
 |zero =>
  intro n ds M hl h h0 e he;rw[uy.mp hl]at he;cases he
 |succ k g =>
  intro n ds M hl h h0 e he;cases ds with
  |nil=>cases h;simp at hl
  |cons d0 ds =>
   let(cs,L',P,U,h2):=h.pop;have hd:=h0 d0 lD;obtain rfl|he:=ot.mp he
   ·exact hd
   ·refine g (by simpa using hl) h2 (λc K=>?_) e he
    obtain z|z:=nZ.mp K
    ·let(j,q,U):=sS z;let(V,Q):=P.ok j _ (fZ q);rw[V];exact hk _ _ _ _ _ _ hd Q
    ·exact h0 c (g5 _ z)
theorem Kid.nd{b b' am:L2.T}(h:Kid ks hs sc b j b' am sc')(hn:(sc.map (·.1)).Nodup):(sc'.map (·.1)).Nodup:=by
 have one:∀{x k:Str},x ∉ sc.map (·.1)->((sc++[Prod.mk x k]).map (·.1)).Nodup:=λ{x k} hx=>by
  rw[pz];exact yK.mpr (hn,by simp,λy q z g e=>hx (by rw[E3,List.map_nil,fy]at g;subst g;rw[<- e];exact q))
 cases h with
 |fb=>exact hn
 |name _ hx=>exact one hx
 |make _ _ hx=>exact one hx
 |call _ hx=>exact one hx
 |case _ _ _ _ _ hl K =>
  rw[pz,XG (by(first|lia|omega))]
  exact K
theorem Kid.ext{b b' am:L2.T}(h:Kid ks hs sc b j b' am sc'):sc'=sc++sc'.drop sc.length:=by
 cases h <;> simp
theorem Kid.dep{b b' am:L2.T}(h:Kid ks hs sc b j b' am sc')(hd:Dep (N+1) b):Dep N b':=by
 have sub:∀{M:Nat}{xs:List L2.T}{x:L2.T},Dep M (.t xs)->x∈xs->Dep (M - 1) x:=λ{M xs x} h hx=>by
  cases M with
  |zero=>obtain⟨_,z⟩|⟨_,z⟩:=h <;> cases z
  |succ M =>
   obtain⟨_,z⟩|⟨_,z⟩|⟨_,z,h⟩:=h
   ·cases z
   ·cases z
   ·cases z;exact h _ hx
 cases h with
 |fb=>exact sub hd (by simp)
 |name=>exact sub hd (by simp)
 |make=>exact sub hd (by simp)
 |call=>exact sub hd (by simp)
 |@case _ _ arms _ ar _ _ _ _ ha =>
  have h1:=sub hd (x:=.t (arms.map tA)) (by simp)
  have h2:=sub h1 (x:=tA ar) (oG.mpr (ar,mu ha,U));have h3:=sub h2 (x:=ar.2.2.1) (by simp)
  exact h3.mono (by(first|lia|omega))
def iN(z:Nat):L2.T:=.i (z:Int)
theorem uS(T:Txt K mg a):bf P w K mg base CX0 5 a.mK a.y2 ["body"] (spQ K HD):=by
 refine T.tJ.F.okQ DR (λts Q h=>?_) (λ_ _ _ _ _ _ hr=>?_)
 ·let(ks,hs,d,L,U,_):=h;rfl
 ·have hu:=bB hr;refine(_,_,((ao (aC (cg U (pL (Za (aK (rn T) hr T.qi (ae (qv 0) ax)))) (N':=["spot"]) (.own U .nil) (cm (g:=(Tg.nm 0)) (λ_ _ _ _ _=>((du 0),(Zb (aW T.cc T.dv (qv 0)))))))))),λts Q h=>?_)
  let(ks,hs,d,L,U,e1,e2,hP,hL,hq):=h;have q:=(show cw ks hs 0 [d] L by have:=cw.cons hP (.nil);rwa [qg]at this).ims
  refine(ks,hs,d,L,U,e1,e2,hP,hL,cP (by rw[dN];(first|lia|omega)),λi ys=>ys=(L.take i).map (·.b),U,?_,?_)
  ·rintro i y ys hy rfl
   rw[gs]at hy;let(z,V,U):=gV.mp hy;refine(_,U,U,(by decide),_,U,q z (mu V),?_)
   show _ ++ [z.b]=_;rw[ro,V];simp
  ·rintro ys rfl
   rw[dN,rr];exact hq
inductive x9(ts:List L2.T)(Q:L2.T->Prop):Prop
 |mk(fs:List Fn)(j:Nat)(f:Fn)(h1:ts=[.t (fs.map tF),.s f.1.1])(h2:(fs.map (·.1.1)).Nodup)(h3:(∀f∈fs,f.2.1.im=O))(h4:fs.length<=8)(h5:fs[j]?=Z f)(h6:Q (.i (j:Int)))
theorem rD{α β:Type}{f:α->β}{xs:List α}(h:(xs.map f).Nodup){i:Nat}{x y:α}(hx:xs[i]?=Z x)(g:xs[j]?=Z y)(e:f x=f y):i=j:=by
 have hi:=(jS.mp hx).1;exact(Yl (by simpa using hi) h).mp (by rw[gs,gs,hx,g];exact congrArg Z e)
theorem A9{fs:List Fn}(h:∀f∈fs,f.2.1.im=O):L2.T.ims (fs.map tF)=true:=kb λt g=>by
 let(f,hf,U):=oG.mp g;show(O&&(L2.T.ims (f.1.2.1.map tP)&&(O&&(f.2.1.im&&O))))=O;rw[aX fw,h f hf];rfl
theorem fG(T:Txt K mg a):bf P w K mg base CX0 1 a.gm a.oB ["functions","name"] (spQ K x9):=by
 refine T.fe.F.okQ il (λts Q h=>?_) (λ_ _ _ _ _ _ hr=>?_)
 ·let(fs,j,f,U,_):=h;rfl
 ·have hu:=bB hr;refine(_,_,((ag (bF (g:=(Tg.tp [2,3])) PassesOwn.never U (pK U T.bC (by kernel_rfl) (ae (qv 0) ax)) (dH (bu 2 il.nd) (bu 3 il.nd))
 (ao (aU (bw hu (av (qv 3) ah) (qv 1))
 (ao (aC (Zb (qv 2))))
 aB)))
 (ao (aC dG)))),λts Q h=>?_)
  let(fs,j,f,U,hn,aA,h8,hf,hq):=h;refine(A9 aA,λi q=>(∃o2 o3,q=[.r (.t (fs.map tF)),.r (.s f.1.1),o2,o3])/\i<=j,((_,_,U),wh _),?_,?_)
  ·rintro i x q hx ⟨⟨o2,o3,rfl⟩,ak⟩
   let(y,hy,U):=cb hx;rw[gs]at hy;let(f',ar,U):=gV.mp hy;refine(_,U,_,U,U,aE (λg=>?_) λg=>((_,_,U),?_))
   ·have:=rD hn ar hf (V.str.inj (of_decide_eq_true g))
    subst this;exact(U,hq)
   ·obtain z|rfl:=Nat.lt_or_eq_of_le ak
    ·exact z
    ·rw[hf]at ar;cases ar;exact absurd (decide_eq_true U) g
  ·rintro q ⟨_,ak⟩
   rw[aZ,dN]at ak
   have:=(jS.mp hf).1
   (first|lia|omega)
inductive HG(ts:List L2.T)(Q:L2.T->Prop):Prop
 |mk(ks:List Kd)(kd:Kd)(m:Mk1)(h1:ts=[tKs ks,.s m.1])(h2:cF ks)(h3:kd∈ks)(h4:m∈kd.2)(h5:Q (.s kd.1))
theorem gS(T:Txt K mg a):bf P w K mg base CX0 1 a.dD a.i4 ["kinds","maker"] (spQ K HG):=by
 refine T.fu.F.okQ eC (λts Q h=>?_) (λ_ _ _ _ _ _ hr=>?_)
 ·let(ks,kd,m,U,_):=h;rfl
 ·have hu:=bB hr;refine(_,_,((ag (bF (g:=(Tg.tp [2,3])) PassesOwn.never U (jq (Zb (qv 0))) (dH (bu 2 eC.nd) (bu 3 eC.nd))
 (ao (aU (bM (wy U) qG U (qv 1) (Za (cg U (kQ (qv 3)) (N':=["one"]) (.own U .nil) (cm (g:=(Tg.nm 0)) (λ_ _ _ _ _=>((du 0),(Zb (av (qv 0) ah))))))))
 (ao (aC (Zb (qv 2))))
 aB)))
 (ao (aC dG)))),λts Q h=>?_)
  let(ks,kd,m,U,gk,aP,hm,hq):=h;let(j,hj,aS):=sS aP;have ak:ks[j]?=Z kd:=by rw[fZ hj,aS]
  refine(rS ks,λi q=>(∃o2 o3,q=[.r (tKs ks),.r (.s m.1),o2,o3])/\i<=j,((_,_,U),wh _),?_,?_)
  ·rintro i x q hx ⟨⟨o2,o3,rfl⟩,aA⟩
   rw[gs]at hx;let(k',V,U):=gV.mp hx;refine(_,U,aD (by rw[dN];have:=(gk.ne k' (mu V)).2;(first|lia|omega)),λi ys=>ys=((k'.2.take i).map (·.1)).map .s,U,?_,?_)
   ·rintro i' y ys hy rfl
    rw[gs]at hy;let(z,hz,U):=gV.mp hy;refine(_,U,_,U,U,?_);show _ ++ [L2.T.s z.1]=_;rw[ro,hz];simp
   ·rintro ys rfl
    rw[dN,rr];have ar:inT (L2.T.s m.1) ((k'.2.map (·.1)).map L2.T.s)=O ↔ i=j:=by
     rw[dZ,pT]
     constructor
     ·intro g;let(m',aN,em):=oG.mp g;exact rX gk.mn V ak aN hm em
     ·rintro rfl
      rw[ak]at V;cases V;exact oG.mpr (m,hm,U)
    refine(by rw[rZ];rfl,aE (λg=>?_) λg=>?_)
    ·have e:=ar.mp g;subst e;rw[ak]at V;cases V;exact(U,hq)
    ·have e:i≠j:=λz=>g (ar.mpr z)
     exact((_,_,U),by(first|lia|omega))
  ·rintro q ⟨_,aA⟩
   rw[dN]at aA
   (first|lia|omega)
inductive D5(ts:List L2.T)(Q:L2.T->Prop):Prop
 |mk(ks:List Kd)(fs:List Fn)(sc sc':Sc)(b b' am:L2.T)(j:Nat)(kt:L2.T)(h1:ts=[.t [tKs ks,.t (fs.map tF)],b,am,kt])(h2:kt.dof=Z (sc.map enP))(h3:Prog ks fs)(h4:Kid ks (fs.map (·.1)) sc b j b' am sc')(h5:(sc.map (·.1)).Nodup)(h6:(∀p∈sc,p.2∈ks.map (·.1)))(h7:Q (.l ((sc'.drop sc.length).map tP)))
theorem ou(T:Txt K mg a):bf P w K mg base CX0 2 a.iK a.sA ["program",Ze,"arm","kinds"] (spQ K D5):=by
 refine T.lF.F.okQ jk (λts Q h=>?_) (λ_ _ _ _ _ _ hr=>?_)
 ·let(ks,fs,sc,sc',b,b',am,j,kt,U,_):=h;rfl
 ·have hu:=bB hr;refine(_,_,((ag (az 4 jk.nd (Zb (av (qv 1) ah)))
 (ag (aU (bw hu (qv 4) (Za aH))
 (ao (aC (aO (af (aq (af (Zb (av (qv 1) ah)) (af (aK (gS T) hr T.fu (ae (av (qv 0) ah) (ae (av (qv 1) ah) ax))) ai))) ai))))
 aB)
 (ag (aU (bw hu (qv 4) (Za aH))
 (ao (aC (aO (af (aq (af (Zb (av (qv 1) ah)) (af (Zb (av (av (av (qv 0) ah) (Za (aK (fG T) hr T.fe (ae (av (qv 0) ah) (ae (av (qv 1) ah) ax))))) ah)) ai))) ai))))
 aB)
 (ag (aU (bw hu (qv 4) (Za aH))
 (ao (aC (aO (af (aq (af (Zb (av (qv 1) ah)) (af (Zb (fF (qv 3) (av (qv 1) ah))) ai))) ai))))
 aB)
 (ag (aU (bw hu (qv 4) (Za aH))
 (ag (az 5 jk.nd (aR (cB U) dF (by rfl) T.fq (by kernel_rfl) (ae (Za (aK (me T) hr T.jV (ae (av (qv 0) ah) (ae (fF (qv 3) (av (qv 1) ah)) ax)))) ax)))
 (ao (aC (Ao U U T.xi U T.UH (ae (av (qv 2) ah) (ae (fF (qv 5) (av (qv 2) ah)) ax))))))
 aB)
 (ao (aC (aO ai))))))))),λts Q h=>?_)
  let(ks,fs,sc,sc',b,b',am,j,kt,U,ak,q,hK,V,aT,hq):=h;cases hK with
  |@fb w c b hw =>
   have n1:¬ decide ((L2.T.s w).v=(L2.T.s "make").v)=true:=by obtain rfl|rfl:=hw <;> decide +kernel
   have n2:¬ decide ((L2.T.s w).v=(L2.T.s "call").v)=true:=by obtain rfl|rfl:=hw <;> decide +kernel
   have n3:¬ decide ((L2.T.s w).v=(L2.T.s "name").v)=true:=by obtain rfl|rfl:=hw <;> decide +kernel
   have n4:¬ decide ((L2.T.s w).v=(L2.T.s "case").v)=true:=by obtain rfl|rfl:=hw <;> decide +kernel
   refine(_,U,U,U,aE (λz=>absurd z n1) λ_=>(U,aE (λz=>absurd z n2) λ_=>(U,aE (λz=>absurd z n3) λ_=>(U,aE (λz=>absurd z n4) λ_=>?_))))
   rw[XI]at hq;exact hq
  |name hy hx =>
   refine(_,U,U,U,aE (λz=>absurd z (by decide +kernel)) λ_=>(U,aE (λz=>absurd z (by decide +kernel)) λ_=>(U,aE (λ_=>?_) λz=>absurd (by decide +kernel) z)))
   rw[WU]at hq;refine(_,U,U,_,U,?_);simp only[lU,ak];exact(_,wH V hy,U,hq)
  |make g hm hx =>
   refine(_,U,U,U,aE (λ_=>?_) λz=>absurd (by decide +kernel) z)
   rw[WU]at hq;exact(_,U,U,_,U,_,U,ks,_,_,U,q.gk,g,hm,hq)
  |call hh hx =>
   refine(_,U,U,U,aE (λz=>absurd z (by decide +kernel)) λ_=>(U,aE (λ_=>?_) λz=>absurd (by decide +kernel) z))
   rw[WU]at hq;let(f,hf,U):=oG.mp hh;let(i,hi,aS):=sS hf;have aA:fs[i]?=Z f:=by rw[fZ hi,aS]
   refine(_,U,U,_,U,_,U,_,U,fs,i,f,U,q.hn,λf hf=>(q.sn f hf).1.im,q.l8,aA,?_)
   exact(_,bQ (v:=tF f) (by rw[gs,aA];rfl),_,U,U,hq)
  |@case x kd arms _ ar m hx g aN ha hm hl hN =>
   refine(_,U,U,U,aE (λz=>absurd z (by decide +kernel)) λ_=>(U,aE (λz=>absurd z (by decide +kernel)) λ_=>(U,aE (λz=>absurd z (by decide +kernel)) λ_=>(U,aE (λ_=>?_) λz=>absurd (by decide +kernel) z))))
   rw[WU]at hq;refine(_,U,_,U,?_);simp only[lU,ak];refine(_,wH V hx,ks,kd.1,U,?_);rw[Cp q.gk.nd g];refine(aX CC _,_,Mf kd.2,?_);rw[p8 (yp q.gk.mn g)];have em:ar.1=m.1:=by
    have:=congrArg (·[j]?) aN
    simp only[gs,ha,hm]at this;exact Option.some.inj this
   have aP:cC (kd.2.map enM) (.inr ar.1)=Z (.t (m.2.map .s)):=by rw[em];exact mj (yp q.gk.mn g) (mu hm)
   refine(_,U,_,U,_,aP,a5 _,a5 _,?_);have ez:Kt (ar.2.1.map L2.T.s) (m.2.map L2.T.s)=(ar.2.1.zip m.2).map tP:=by
    unfold Kt;rw[List.zip_map,uk];rfl
   rw[ez];exact hq
theorem Kid.sk{b b' am:L2.T}(gk:cF ks)(K:∀h∈hs,h.2.2∈ks.map (·.1))(h:Kid ks hs sc b j b' am sc')(hn:∀p∈sc,p.2∈ks.map (·.1)):∀p∈sc',p.2∈ks.map (·.1):=by
 have one:∀{x k:Str},k∈ks.map (·.1)->∀p∈sc ++ [(x,k)],p.2∈ks.map (·.1):=λ{x k} hk p hp=>by
  obtain z|z:=nZ.mp hp
  ·exact hn p z
  ·rw[fy.mp z];exact hk
 cases h with
 |fb=>exact hn
 |name q hx=>exact one (hn _ q)
 |make g _ hx=>exact one (oG.mpr (_,g,U))
 |call h1 hx=>exact one (K _ h1)
 |@case _ kd _ _ _ m _ g _ _ hm hl P =>
  intro p hp;obtain z|z:=nZ.mp hp
  ·exact hn p z
  ·exact(gk.fl kd g m (mu hm)).2 _ (WJ z).2
def rtN(f:Fn):Nod:=(f.2.1,.n,.n,[],f.1.2.1)
structure Good(ks:List Kd)(fs:List Fn)(f:Fn)(e:Nod):Prop where
 nd:(e.sc.map (·.1)).Nodup
 sk:∀p∈e.sc,p.2∈ks.map (·.1)
 pt:Pth ks (fs.map (·.1)) f.1.2.1 e.pa e.sc
 dp:∃N,N+e.pa.length=92/\Dep N e.b
 sl:e.sc.length<=4+4*e.pa.length
 pi:∀s∈e.pa,s.2.1.im=O
variable{e:Nod}
theorem Good.lim{fs:List Fn}{f:Fn}(g:Good ks fs f e):e.sc.length<=372:=by
 let(N,h,d):=g.dp
 have:=g.sl
 (first|lia|omega)
theorem Kid.len{b b' am:L2.T}(gk:cF ks)(h:Kid ks hs sc b j b' am sc'):sc'.length<=sc.length+4:=by
 cases h with
 |fb=>omega
 |name=>simp
 |make=>simp
 |call=>simp
 |@case _ kd _ _ _ m _ g _ _ hm hl q =>
  have:=(gk.fl kd g m (mu hm)).1
  rw[iQ,Ww]
  (first|lia|omega)
theorem Kid.tup{ks:List Kd}{hs:List Hd}{sc sc':Sc}{b b' am:L2.T}{j:Nat}(h:Kid ks hs sc b j b' am sc'):¬ Dep 0 b:=by
 rintro(⟨_,z⟩|⟨_,z⟩) <;> cases h <;> cases z
theorem Jt:∀{N:Nat}{t:L2.T},Dep N t->t.im=O
 | 0,_,h=>by obtain⟨_,rfl⟩|⟨_,rfl⟩:=h <;> rfl
 |N+1,_,h=>by
  obtain⟨_,rfl⟩|⟨_,rfl⟩|⟨ts,rfl,h⟩:=h
  ·rfl
  ·rfl
  ·exact kb λt g=>Jt (h t g)
theorem CF{fs:List Fn}{f:Fn}(q:Prog ks fs)(hf:f∈fs)(V:cw ks (fs.map (·.1)) 0 [rtN f] L):∀e∈L,Good ks fs f e:=by
 let(p1,p2,p3,p4):=q.pk f hf;refine V.all (R:=Good ks fs f) (λn d j b am sc g hk=>(hk.nd g.nd,hk.sk q.gk (λh Q=>?_) g.sk,g.pt.snoc hk,?_,?_,λs hs=>?_)) _ U λd hd=>?_
 ·let(f',P,U):=oG.mp Q;exact(q.pk f' P).2.2.2
 ·let(N,hN,K):=g.dp;cases N with
  |zero=>exact absurd K hk.tup
  |succ N=>exact(N,by show N+(d.pa ++ [_]).length=92;rw[iQ];simp;(first|lia|omega),hk.dep K)
 ·have:=hk.len q.gk
  have:=g.sl
  show sc.length<=4+4*(d.pa ++ [_]).length;rw[iQ];simp;(first|lia|omega)
 ·have hs:s∈d.pa ++ [(n,d.b,j)]:=hs;obtain z|z:=nZ.mp hs
  ·exact g.pi s z
  ·rw[fy.mp z];let(N,_,K):=g.dp;exact Jt K
 ·rw[fy.mp hd];exact(p3,p2,.nil,(92,U,q.dp f hf),p1,λ_ z=>nomatch z)
theorem my:∀sc:Sc,L2.T.imk (sc.map enP)=O
 |[]=>rfl
 |p::r=>by show(O&&L2.T.imk (r.map enP))=O;rw[my r];rfl
def tPr(ks:List Kd)(fs:List Fn):L2.T:=.t [tKs ks,.t (fs.map tF)]
inductive L0(ts:List L2.T)(Q:L2.T->Prop):Prop
 |mk (ks:List Kd) (fs:List Fn) (i:Nat) (f:Fn) (L:List Nod) (h1:ts=[tPr ks fs,iN i]) (h2:Prog ks fs) (h3:fs[i]?=Z f) (h4:Pre ks (fs.map (·.1)) 0 (rtN f) L) (h5:L.length<=50000) (h6:∀X:List L2.T,X.map L2.T.dof=L.map (λe=>Z (e.sc.map enP))->Q (.l X))
theorem rA(T:Txt K mg a):bf P w K mg base CX0 5 a.eZ a.kz ["program","f"] (spQ K L0):=by
 refine T.kC.F.okQ cU (λts Q h=>?_) (λ_ _ _ _ _ _ hr=>?_)
 ·let(ks,fs,i,f,L,U,_):=h;rfl
 ·have hu:=bB hr;refine(_,_,((ag (az 2 cU.nd (aO ai))
 (ag (az 3 cU.nd (aK (rn T) hr T.qi (ae (av (av (av (qv 0) ah) (qv 1)) ah) ax)))
 (ag (bF (g:=(Tg.nm 4)) PassesOwn.never U (B3 (i:=3) (pv 3)) (bu 4 cU.nd)
 (ao (aU (bM AG vP (bA _) (aW T.cc T.bE (qv 4)) (Za dG))
 (ao (br (i:=2) (pv 2) (pM (aR (cB U) dF (by rfl) T.fq (by kernel_rfl) (ae (av (av (av (qv 0) ah) (qv 1)) ah) ax)))))
 (ag (az 5 cU.nd (aR d8 fA (by rfl) T.fq (by kernel_rfl) (ae (av (qv 2) (aW T.cc T.bE (qv 4))) ax)))
 (ag (Pr (i:=5) U (pv 5) (aK (ou T) hr T.lF (ae (qv 0) (ae (aW T.cc T.dv (av (qv 3) (aW T.cc T.bE (qv 4)))) (ae (aW T.cc T.jz (qv 4)) (ae (qv 5) ax))))))
 (ao (qR (i:=5) (br (i:=2) (pv 2) (Zb (qv 5))))))))))
 (ao (fC (i:=2) (pv 2))))))),λts Q h=>?_)
  let(ks,fs,i,f,L,U,hP,hf,hR,hL,hq):=h;have aN:cw ks (fs.map (·.1)) 0 [rtN f] L:=by have:=cw.cons hR (.nil);rwa [qg]at this
  have ar:=mu hf;have G:=CF hP ar aN;have ef:atI (fs.map tF) (i:Int)=Z (tF f):=bQ (by rw[gs,hf];rfl)
  refine(_,U,_,ef,_,U,ks,fs.map (·.1),rtN f,L,U,U,U,hR,hL,?_);refine(λc q=>∃(X:List L2.T)(o4 o5:Sl),q=[.r (tPr ks fs),.r (iN i),.o (.l X),.r (.l (L.map (spN a.aP))),o4,o5]/\X.map L2.T.dof=(L.take c).map λe=>Z (e.sc.map enP),(_,_,_,U,U),?_,?_)
  ·rintro c y q hy ⟨X,o4,o5,rfl,hX⟩
   rw[gs]at hy;let(e,he,U):=gV.mp hy;have bb:=(jS.mp he).1;have bj:X.length=c:=by
    have:=congrArg Nv hX
    rw[dN,dN,qp]at this
    (first|lia|omega)
   have aA:X.length<pq:=cP (by(first|lia|omega))
   have fin:∀t:L2.T,t.dof=Z (e.sc.map enP)->(X ++ [t]).map L2.T.dof=(L.take (c+1)).map λe=>Z (e.sc.map enP):=λt ht=>by
    rw[pz,hX,ro,he];simp[ht]
   refine(_,U,U,(by decide),_,U,?_)
   obtain⟨j,hj,_⟩|⟨p,V,cs,j,a0,ak,hK,hc⟩:=aN.from _ rfl c e he
   ·have:e=rtN f:=by
     cases j with
     |zero=>cases hj;rfl
     |succ j=>simp at hj
    subst this;refine(aA,_,U,_,ef,_,U,aX fw _,_,wt _,?_);rw[p8 (hP.pk f ar).2.2.1];exact(my _,λo vs=>(_,_,_,U,fin _ U))
   ·rw[Fq]at hK;let(a8,wN):=hK.ok j _ hc;let(eb,a7,a3,bt,z):=e;obtain rfl:a7=iN p:=congrArg Nod.ab a8;have g':=G V (mu ak);obtain⟨t,aT,aS⟩:∃t,X[p]?=Z t/\t.dof=Z (V.sc.map enP):=by
     have:=congrArg (·[p]?) hX
     simp only[gs,Xx a0,ak]at this;exact gV.mp this
    have a1:atI X (p:Int)=Z t:=bQ aT;have a2:atI (L.map (spN a.aP)) (p:Int)=Z (spN a.aP V):=bQ (by rw[gs,ak];rfl)
    have em:cX (V.sc.map enP) ((z.drop V.sc.length).map enP)=z.map enP:=by
     have ex:=wN.ext;have nn:=wN.nd g'.nd;rw[ex]at nn;rw[yt nn,<- ex]
    refine(U,(by decide),_,U,_,a1,?_)
    simp only[cA,nH,aS];refine(my _,?_);refine(U,(by decide),_,U,_,a2,U,(by decide),_,U,U,(by decide),_,U,ks,fs,V.sc,z,V.b,eb,a3,j,_,U,U,hP,wN,g'.nd,g'.sk,?_)
    refine(my _,aX fw _,_,wt _,?_,?_)
    ·have:=g'.lim
     have:z.length<=V.sc.length+4:=wN.len hP.gk
     simp only[dN,Fs];exact sV (cP (by(first|lia|omega)))
    ·rw[em];exact(my _,λo vs=>(aA,U,_,_,_,U,fin _ U))
  ·rintro q ⟨X,o4,o5,rfl,hX⟩
   rw[dN,rr]at hX;exact hq X hX
def mkE(r:Str):Key×L2.T:=(.inr r,.b O)
theorem pS{rs:List Str}{s:Str}:(cC (rs.map mkE) (.inr s)).isSome=decide (s∈rs):=by
 unfold cC;rw[WQ,List.find?_map];rw[WQ,W2,List.find?_isSome]
 constructor
 ·rintro⟨x,hx,e⟩
  have e:(Sum.inr x:Key)=.inr s:=of_decide_eq_true e;exact decide_eq_true (Sum.inr.inj e▸hx)
 ·intro h;exact(s,of_decide_eq_true h,decide_eq_true U)
theorem P2{rs:List Str}{s:Str}(h:s ∉ rs):ju (rs.map mkE) (.inr s) (.b O)=(rs ++ [s]).map mkE:=by
 unfold ju;rw[if_neg]
 ·simp[mkE]
 ·rw[WI,Wg]
  rintro⟨x,hx,e⟩
  have e:(Sum.inr x:Key)=.inr s:=of_decide_eq_true e;exact h (Sum.inr.inj e▸hx)
theorem IU:∀rs:List Str,L2.T.imk (rs.map mkE)=O
 |[]=>rfl
 |p::r=>by show(O&&L2.T.imk (r.map mkE))=O;rw[IU r];rfl
theorem mD{α β:Type}{f:α->List β}{n:Nat}:∀xs:List α,(∀x∈xs,(f x).length<=n)->(xs.flatMap f).length<=n*xs.length
 |[],_=>by simp
 |x::r,h=>by
  have h1:=h x lD;have h2:=mD (f:=f) r λy g=>h y (g5 _ g)
  rw[List.flatMap_cons,iQ,qf,Nat.mul_succ]
  (first|lia|omega)
theorem cF.lr{ks:List Kd}(g:cF ks):(lr ks).length<=144:=by
 have h:=mD (f:=λk:Kd=>k.2.flatMap (·.2)) (n:=24) ks λk hk=>by
  have h1:=mD (f:=λm:Mk1=>m.2) (n:=4) k.2 λm hm=>(g.fl k hk m hm).1
  have h2:=(g.ne k hk).2
  (first|lia|omega)
 have h2:=g.k2;unfold L2.lr
 (first|lia|omega)
inductive D3(ts:List L2.T)(Q:L2.T->Prop):Prop
 |mk(ks:List Kd)(k:Str)(h1:ts=[tKs ks,.s k])(h2:cF ks)(h3:∀rs:List Str,(∀s,s∈rs ↔ Reach ks k s)->Q (.d (rs.map mkE)))
theorem nM(T:Txt K mg a):bf P w K mg base CX0 2 a.dC a.i3 ["kinds","kind"] (spQ K D3):=by
 refine T.i9.F.okQ bU (λts Q h=>?_) (λ_ _ _ _ _ _ hr=>?_)
 ·let(ks,k,U,_):=h;rfl
 ·have hu:=bB hr;refine(_,_,((ag (az 2 bU.nd (He (qv 1) (Za qU)))
 (ag (az 3 bU.nd (aO (af (Zb (qv 1)) ai)))
 (ag (xW PassesOwn.never (gM (qv 3))
 (ag (GZ (j:=4) bU.nd U (Or.inl U) (pv 3))
 (ao (bF (g:=(Tg.nm 5)) PassesOwn.never U (jq (aK (me T) hr T.jV (ae (qv 0) (ae (qv 4) ax)))) (bu 5 bU.nd)
 (ao (bF (g:=(Tg.nm 6)) PassesOwn.never U (jq (Zb (av (qv 5) ah))) (bu 6 bU.nd)
 (ao (aU (bM (Ee hu) xM U (qv 6) (qv 2))
 (ag (qQ (i:=2) hu (pv 2) (qv 6) (Za qU))
 (ao (br (i:=3) (pv 3) (Zb (qv 6)))))
 aB))))))))
 (ao (fC (i:=2) (pv 2))))))),λts Q h=>?_)
  let(ks,k,U,gk,hq):=h;have aA:=gk.lr;refine(U,U,λc q=>∃(rs W:List Str)(D:List (Key×L2.T))(X:List L2.T)(o4 o5 V:Sl),q=[.r (tKs ks),.r (.s k),.o (.d D),.o (.l X),o4,o5,V]/\D=rs.map mkE/\X=W.map .s/\RWt ks k rs W/\c=2*un (lr ks) rs+W.length,(_,[k],[k],_,_,_,_,_,U,U,U,.start,U),?_)
  rintro c q ⟨rs,W,D,X,o4,o5,V,rfl,rfl,rfl,R,rfl⟩
  obtain rfl |⟨W,here,rfl⟩:=XU W
  ·exact hq rs λs=>R.all
  ·rw[List.concat_eq_append]at *;have R0:=R.pop
   generalize hc:2*un (lr ks) rs+(W ++ [here]).length=c at R0 ⊢
   refine aE (λ_=>?_) (λz=>absurd (by simp) z)
   refine(λq'=>∃(rs W:List Str)(D:List (Key×L2.T))(X:List L2.T)(o4 o5 V:Sl),q'=[.r (tKs ks),.r (.s k),.o (.d D),.o (.l X),o4,o5,V]/\D=rs.map mkE/\X=W.map .s/\RWt ks k rs W/\2*un (lr ks) rs+W.length<c,?_,?_)
   ·rintro q' ⟨rs,W,D,X,o4,o5,V,rfl,rfl,rfl,g1,g2⟩
    exact(_,g2,rs,W,_,_,_,_,_,U,U,U,g1,U)
   ·refine(W.map .s,.s here,by simp,a5 _,by decide,ks,here,U,?_)
    refine(λi q=>∃(rs W:List Str)(D:List (Key×L2.T))(X:List L2.T)(o4 o5 V:Sl),q=[.r (tKs ks),.r (.s k),.o (.d D),.o (.l X),o4,o5,V]/\D=rs.map mkE/\X=W.map .s/\RS ks k here (((gU ks here).take i).flatMap (·.2)) rs W c,(rs,W,_,_,_,_,_,U,U,U,R0),?_,?_)
    ·rintro i y q hy ⟨rs,W,D,X,o4,o5,V,rfl,rfl,rfl,R1⟩
     rw[gs]at hy;let(m,hm,U):=gV.mp hy;refine(_,U,_,U,a5 _,λj q=>∃(rs W:List Str)(D:List (Key×L2.T))(X:List L2.T)(o4 o5 V:Sl),q=[.r (tKs ks),.r (.s k),.o (.d D),.o (.l X),o4,o5,V]/\D=rs.map mkE/\X=W.map .s/\RS ks k here (((gU ks here).take i).flatMap (·.2)++m.2.take j) rs W c,(rs,W,_,_,_,_,_,U,U,U,by rw[X3,qg];exact R1),?_,?_)
     ·rintro j y q hy ⟨rs,W,D,X,o4,o5,V,rfl,rfl,rfl,R2⟩
      rw[gs]at hy;let(f,hf,U):=gV.mp hy;have ak:f∈wU ks here:=WH.mpr (m,mu hm,mu hf);have et:((gU ks here).take i).flatMap (·.2)++m.2.take (j+1)=(((gU ks here).take i).flatMap (·.2)++m.2.take j) ++ [f]:=by
       rw[ro,hf,u4];rfl
      have hsz:=R2.sz;have ar:=R2.sw;refine(_,U,aE (λg=>?_) λg=>?_)
      ·have g:(!(cC (rs.map mkE) (.inr f)).isSome)=true:=g;rw[pS]at g;have hn:f ∉ rs:=λz=>by rw[decide_eq_true z]at g;cases g
       refine(aD (by rw[dN];(first|lia|omega)),IU _,U,?_)
       rw[P2 hn];refine(aD (by rw[dN];(first|lia|omega)),U,?_)
       exact(rs ++ [f],W ++ [f],_,_,_,_,_,U,U,by simp,by rw[et];exact R2.new hn ak)
      ·have g:¬(!(cC (rs.map mkE) (.inr f)).isSome)=true:=g;rw[pS]at g;have hn:f∈rs:=by
        by_cases z:f∈rs
        ·exact z
        ·rw[decide_eq_false z]at g;exact absurd U g
       exact(rs,W,_,_,_,_,_,U,U,U,by rw[et];exact R2.old hn)
     ·rintro q ⟨rs,W,D,X,o4,o5,V,rfl,rfl,rfl,R2⟩
      rw[dN,rr]at R2;exact(rs,W,_,_,_,_,_,U,U,U,by rw[<- nt (f:=λm:Mk1=>m.2) hm];exact R2)
    ·rintro q ⟨rs,W,D,X,o4,o5,V,rfl,rfl,rfl,R1⟩
     rw[dN,rr]at R1;exact(rs,W,_,_,_,_,_,U,U,U,R1.fin U,R1.m)
inductive Hy(ts:List L2.T)(Q:L2.T->Prop):Prop
 |mk(ks:List Kd)(k:Str)(h1:ts=[tKs ks,.s k])(h2:cF ks)(h3:Q (.t ((ff ks k ks).map .s)))
theorem cF.wl(g:cF ks){k:Str}{xs:List Kd}(h:∀x∈xs,x∈ks):(ff ks k xs).length<=6*xs.length:=by
 refine mD xs λx hx=>?_
 split
 ·rw[dN];exact(g.ne x (h x hx)).2
 ·exact wh _
theorem uQ(T:Txt K mg a):bf P w K mg base CX0 3 a.mG a.yW ["kinds","kind"] (spQ K Hy):=by
 refine T.tw.F.okQ gL (λts Q h=>?_) (λ_ _ _ _ _ _ hr=>?_)
 ·let(ks,k,U,_):=h;rfl
 ·have hu:=bB hr;refine(_,_,((ag (az 2 gL.nd (aK (nM T) hr T.i9 (ae (qv 0) (ae (qv 1) ax))))
 (ag (az 3 gL.nd (aO ai))
 (ag (bF (g:=(Tg.tp [4,5])) PassesOwn.never U (jq (Zb (qv 0))) (dH (bu 4 gL.nd) (bu 5 gL.nd))
 (ao (aU (bM (Qo hu) xM U (qv 4) (qv 2))
 (ao (c7 (i:=3) (pv 3) (cg U (kQ (qv 5)) (N':=["maker"]) (.own U .nil) (cm (g:=(Tg.nm 0)) (λ_ _ _ _ _=>((du 0),(Zb (av (qv 0) ah))))))))
 aB)))
 (ao (aC (aR (cp U) cj (by rfl) T.d9 (by kernel_rfl) (ae (qv 3) ax)))))))),λts Q h=>?_)
  let(ks,k,U,gk,hq):=h;have k6:=gk.k2;refine(ks,k,U,gk,λrs V=>?_)
  refine(rS ks,λi q=>∃(X:List L2.T)(o4 o5:Sl),q=[.r (tKs ks),.r (.s k),.o (.d (rs.map mkE)),.o (.l X),o4,o5]/\X=(ff ks k (ks.take i)).map .s,(_,_,_,U,U),?_,?_)
  ·rintro i y q hy ⟨X,o4,o5,rfl,rfl⟩
   rw[gs]at hy;let(x,hx,U):=gV.mp hy;have hl:=gk.wl (k:=k) (xs:=ks.take i) λy hy=>RV hy
   have ar:(ks.take i).length<=6:=by rw[qp];(first|lia|omega)
   have ak:=(gk.ne x (mu hx)).2;refine(_,U,aE (λg=>?_) λg=>?_)
   ·have g:(cC (rs.map mkE) (.inr x.1)).isSome=true:=g;rw[pS]at g;have hR:=(V _).mp (of_decide_eq_true g);refine(aD (by rw[dN];(first|lia|omega)),λj ys=>ys=((x.2.take j).map (·.1)).map .s,U,?_,?_)
    ·rintro j z ys hz rfl
     rw[gs]at hz;let(m,hm,U):=gV.mp hz;refine(_,U,_,U,U,?_);show _ ++ [L2.T.s m.1]=_;rw[ro,hm];simp
    ·rintro ys rfl
     rw[dN,rr];refine(?_,?_)
     ·simp only[dN];exact sV (aD (by(first|lia|omega)))
     ·exact(_,_,_,U,by rw[FA hx hR,pz])
   ·have g:¬(cC (rs.map mkE) (.inr x.1)).isSome=true:=g;rw[pS]at g;have hR:¬ Reach ks k x.1:=λz=>g (decide_eq_true ((V _).mpr z))
    exact(_,_,_,U,by rw[Kz hx hR])
  ·rintro q ⟨X,o4,o5,rfl,rfl⟩
   rw[dN,rr];exact(a5 _,hq)
inductive LU(ts:List L2.T)(Q:L2.T->Prop):Prop
 |mk (ks:List Kd) (u:L2.T) (fam:List L2.T) (k:Str) (h1:ts=[.t [tKs ks,u],.t fam,.s k]) (h2:cF ks) (h3:L2.T.ims fam=O) (h4:fam.length<=10) (h5:Q (.l ((ff ks k ks).map λm=>.t (fam ++ [.s m]))))
theorem jx(T:Txt K mg a):bf P w K mg base CX0 4 a.eV a.ky ["program","family","kind"] (spQ K LU):=by
 refine T.cI.F.okQ qI (λts Q h=>?_) (λ_ _ _ _ _ _ hr=>?_)
 ·let(ks,u,fam,k,U,_):=h;rfl
 ·have V:=bB hr;refine(_,_,((ao (aC (cg U (kQ (Za (aK (uQ T) hr T.tw (ae (av (qv 0) ah) (ae (qv 2) ax))))) (N':=["maker","family"]) (.own U (.got (i:=1) U U (.inl U) .nil)) (cm (g:=(Tg.nm 0)) (λ_ _ _ _ _=>((du 0),(bc (qv 1) (Za (aq (af (Zb (qv 0)) ai))))))))))),λts Q h=>?_)
  let(ks,u,fam,k,U,gk,hi,hl,hq):=h;have z:=gk.k2;have wl:=gk.wl (k:=k) (xs:=ks) λ_ h=>h
  refine(_,U,ks,k,U,gk,aD (by rw[dN];(first|lia|omega)),λi ys=>ys=((ff ks k ks).take i).map λm=>.t (fam ++ [.s m]),U,?_,?_)
  ·rintro i y ys q rfl
   rw[gs]at q;let(m,hm,U):=gV.mp q;refine(_,U,U,bx (by show fam.length+1<=10000;(first|lia|omega)),hi,U,?_)
   rw[ro,hm];simp
  ·rintro ys rfl
   rw[dN,rr];exact hq
noncomputable def xF(ks:List Kd)(i n:Nat)(o:Option Str):List L2.T:=match o with
 |some k=>(ff ks k ks).map λm=>.t [.s "piece",iN i,iN n,.s m]
 |none=>[]
noncomputable def dS(ks:List Kd)(i:Nat):Nat->List (Option Str)->List L2.T
 |_,[]=>[]
 |n,o::r=>xF ks i n o++dS ks i (n+1) r
theorem zP{i:Nat}:∀{n:Nat},dS ks i n (os ++ [o])=dS ks i n os++xF ks i (n+os.length) o:=by
 induction os with
 |nil=>intro n;show _ ++ []=[]++_;rw[qg];rfl
 |cons p r g=>intro n;show _++dS ks i (n+1) (r ++ [o])=(_++_)++_;rw[g,u4,qf,show n+1+r.length=n+(r.length+1)by(first|lia|omega)]
theorem FJ(g:cF ks){i:Nat}:(xF ks i n o).length<=36:=by
 unfold xF
 split
 ·rw[dN]
  have:=g.wl (k:=by assumption) (xs:=ks) λ_ h=>h
  have:=g.k2
  (first|lia|omega)
 ·exact wh _
theorem ni(g:cF ks){i:Nat}:∀{n:Nat},(dS ks i n os).length<=36*os.length:=by
 induction os with
 |nil=>intro n;exact wh _
 |cons p r q =>
  intro n;show(xF ks i n p++dS ks i (n+1) r).length<=_;have h1:=FJ g (i:=i) (n:=n) (o:=p);have h2:=q (n:=n+1);rw[iQ,qf]
  (first|lia|omega)
theorem iD(h:n<=16000000):n<pq:=V8 h (by decide)
structure zu(ks:List Kd)(L:List Nod)(os:List (Option Str)):Prop where
 ln:os.length=L.length
 ok:∀(n:Nat)(e:Nod)(o:Option Str),L[n]?=Z e->os[n]?=Z o->Ask ks e.sc e.b o
inductive Qc(ts:List L2.T)(Q:L2.T->Prop):Prop
 |mk(ks:List Kd)(fs:List Fn)(i:Nat)(f:Fn)(L:List Nod)(os:List (Option Str))(h1:ts=[tPr ks fs,iN i])(h2:Prog ks fs)(h3:fs[i]?=Z f)(h4:Pre ks (fs.map (·.1)) 0 (rtN f) L)(h5:L.length<=50000)(h6:zu ks L os)(h7:Q (.l (dS ks i 0 os)))
theorem md(T:Txt K mg a):bf P w K mg base CX0 6 a.de a.hJ ["program","f"] (spQ K Qc):=by
 refine T.ic.F.okQ bH (λts Q h=>?_) (λ_ _ _ _ _ _ hr=>?_)
 ·let(ks,fs,i,f,L,os,U,_):=h;rfl
 ·have hu:=bB hr;refine(_,_,((ag (az 2 bH.nd (aO ai))
 (ag (az 3 bH.nd (aK (rA T) hr T.kC (ae (qv 0) (ae (qv 1) ax))))
 (ag (bF (g:=(Tg.tp [4,5])) PassesOwn.never U (qS T.bC (aK (uS T) hr T.tJ (ae (av (av (av (qv 0) ah) (qv 1)) ah) ax))) (dH (bu 4 bH.nd) (bu 5 bH.nd))
 (ag (az 6 bH.nd (aq (af aH (af (Zb (qv 1)) (af (Zb (qv 4)) ai)))))
 (ao (aU (bw hu (av (qv 5) ah) (Za aH))
 (ao (c7 (i:=2) (pv 2) (aK (jx T) hr T.cI (ae (qv 0) (ae (qv 6) (ae (Za (aK (gS T) hr T.fu (ae (av (qv 0) ah) (ae (av (qv 5) ah) ax)))) ax))))))
 (ao (aU (bw hu (av (qv 5) ah) (Za aH))
 (ao (c7 (i:=2) (pv 2) (aK (jx T) hr T.cI (ae (qv 0) (ae (qv 6) (ae (fF (av (qv 3) (qv 4)) (av (qv 5) ah)) ax))))))
 (ao (aU (bw hu (av (qv 5) ah) (Za aH))
 (ao (c7 (i:=2) (pv 2) (aK (jx T) hr T.cI (ae (qv 0) (ae (qv 6) (ae (fF (av (qv 3) (qv 4)) (av (qv 5) ah)) ax))))))
 aB))))))))
 (ao (fC (i:=2) (pv 2))))))),λts Q h=>?_)
  let(ks,fs,i,f,L,os,U,V,hf,hR,hL,hA,hq):=h;have bj:cw ks (fs.map (·.1)) 0 [rtN f] L:=by have:=cw.cons hR (.nil);rwa [qg]at this
  have a8:=mu hf;have G:=CF V a8 bj;have ef:atI (fs.map tF) (i:Int)=Z (tF f):=bQ (by rw[gs,hf];rfl)
  refine(ks,fs,i,f,L,U,V,hf,hR,hL,λX hX=>?_)
  refine(_,U,_,ef,_,U,ks,fs.map (·.1),rtN f,L,U,U,U,hR,hL,?_);refine(λc q=>∃(F:List L2.T)(o4 o5 o6:Sl),q=[.r (tPr ks fs),.r (iN i),.o (.l F),.o (.l X),o4,o5,o6]/\F=dS ks i 0 (os.take c),(_,_,_,_,U,U),?_,?_)
  ·rintro c y q hy ⟨F,o4,o5,o6,rfl,rfl⟩
   let(z,hz,U):=cb hy;rw[gs]at hz;let(e,he,U):=gV.mp hz;have bb:=(jS.mp he).1;have a3:c<os.length:=by rw[hA.ln];exact bb
   have ho:os[c]?=Z os[c]:=fZ a3;obtain⟨o,ho,hk⟩:∃o,os[c]?=Z o/\Ask ks e.sc e.b o:=(_,ho,hA.ok c e _ he ho)
   have g:=G e (mu he);have nx:∀{o:Option Str},os[c]?=Z o->dS ks i 0 (os.take (c+1))=dS ks i 0 (os.take c)++xF ks i c o:=λ{o} h=>by
    rw[ro,h];show dS ks i 0 (os.take c ++ [o])=_;rw[zP,qp,Nx (by(first|lia|omega)),Fq]
   have bt:(dS ks i 0 (os.take c)).length<=36*50000:=by
    have:=ni V.gk (i:=i) (os:=os.take c) (n:=0)
    rw[qp]at this
    have:=hA.ln
    (first|lia|omega)
   obtain⟨t,a0,ar⟩:∃t,X[c]?=Z t/\t.dof=Z (e.sc.map enP):=by
    have:=congrArg (·[c]?) hX
    simp only[gs,he]at this;exact gV.mp this
   have a1:atI X (c:Int)=Z t:=bQ a0;let(b,ab,am,pa,sc):=e;have hk:Ask ks sc b o:=hk;have ak:∀k,(dS ks i 0 (os.take c)).length+((ff ks k ks).map λm=>L2.T.t ([.s "piece",iN i,iN c] ++ [.s m])).length<=pq:=λk=>by
    have:=V.gk.wl (k:=k) (xs:=ks) λ_ h=>h
    have:=V.gk.k2
    rw[dN];exact sV (iD (by(first|lia|omega)))
   have non:o=Y->∃(F:List L2.T)(aP aN aA:Sl),[.r (tPr ks fs),.r (iN i),.o (.l (dS ks i 0 (os.take c))),.o (.l X),.r (iN c),.r b,.o (.t [.s "piece",iN i,iN c])]=[.r (tPr ks fs),.r (iN i),.o (.l F),.o (.l X),aP,aN,aA]/\F=dS ks i 0 (os.take (c+1)):=λe=>by
    subst e;exact(_,_,_,_,U,by rw[nx ho];exact(qg _).symm)
   refine(_,U,U,U,?_);cases hk with
   |give=>exact(_,U,U,aE (λz=>absurd z (by decide +kernel)) λ_=>(_,U,U,aE (λz=>absurd z (by decide +kernel)) λ_=>(_,U,U,aE (λz=>absurd z (by decide +kernel)) λ_=>non U)))
   |@fb w c' b hw =>
    have n1:¬ decide ((L2.T.s w).v=(L2.T.s "make").v)=true:=by obtain rfl|rfl:=hw <;> decide +kernel
    have n2:¬ decide ((L2.T.s w).v=(L2.T.s "name").v)=true:=by obtain rfl|rfl:=hw <;> decide +kernel
    have n3:¬ decide ((L2.T.s w).v=(L2.T.s "case").v)=true:=by obtain rfl|rfl:=hw <;> decide +kernel
    exact(_,U,U,aE (λz=>absurd z n1) λ_=>(_,U,U,aE (λz=>absurd z n2) λ_=>(_,U,U,aE (λz=>absurd z n3) λ_=>non U)))
   |call=>exact(_,U,U,aE (λz=>absurd z (by decide +kernel)) λ_=>(_,U,U,aE (λz=>absurd z (by decide +kernel)) λ_=>(_,U,U,aE (λz=>absurd z (by decide +kernel)) λ_=>non U)))
   |@make x m kd ns b a7 hm =>
    refine(_,U,U,aE (λ_=>?_) λz=>absurd (by decide +kernel) z)
    refine(_,U,_,U,ks,kd,m,U,V.gk,a7,hm,ks,.t (fs.map tF),_,kd.1,U,V.gk,U,(by show 3<=10;decide),ak kd.1,?_)
    exact(_,_,_,_,U,by rw[nx ho];rfl)
   |@name x y k b aS =>
    refine(_,U,U,aE (λz=>absurd z (by decide +kernel)) λ_=>(_,U,U,aE (λ_=>?_) λz=>absurd (by decide +kernel) z))
    refine(t,a1,_,U,?_);simp only[lU,ar];refine(_,wH g.nd aS,ks,.t (fs.map tF),_,k,U,V.gk,U,(by show 3<=10;decide),ak k,?_)
    exact(_,_,_,_,U,by rw[nx ho];rfl)
   |@case x k arms aT =>
    refine(_,U,U,aE (λz=>absurd z (by decide +kernel)) λ_=>(_,U,U,aE (λz=>absurd z (by decide +kernel)) λ_=>(_,U,U,aE (λ_=>?_) λz=>absurd (by decide +kernel) z)))
    refine(t,a1,_,U,?_);simp only[lU,ar];refine(_,wH g.nd aT,ks,.t (fs.map tF),_,k,U,V.gk,U,(by show 3<=10;decide),ak k,?_)
    exact(_,_,_,_,U,by rw[nx ho];rfl)
  ·rintro q ⟨F,o4,o5,o6,rfl,rfl⟩
   rw[aZ,dN,<- hA.ln,rr];exact hq
noncomputable def mF(ks:List Kd)(fam:List L2.T)(k:Str):List L2.T:=(ff ks k ks).map λm=>.t (fam ++ [.s m])
theorem mE(g:cF ks){fam:List L2.T}{k:Str}:(mF ks fam k).length<=36:=by
 unfold mF;rw[dN]
 have:=g.wl (k:=k) (xs:=ks) λ_ h=>h
 have:=g.k2
 (first|lia|omega)
noncomputable def eB(ks:List Kd)(i:Nat):Nat->Sc->List L2.T
 |_,[]=>[]
 |k,p::r=>mF ks [.s "param",iN i,iN k] p.2++eB ks i (k+1) r
theorem xE{i:Nat}{p:Str×Str}:∀{k:Nat},eB ks i k (sc ++ [p])=eB ks i k sc++mF ks [.s "param",iN i,iN (k+sc.length)] p.2:=by
 induction sc with
 |nil=>intro k;show _ ++ []=[]++_;rw[qg];rfl
 |cons q r g=>intro k;show _++eB ks i (k+1) (r ++ [p])=(_++_)++_;rw[g,u4,qf,show k+1+r.length=k+(r.length+1)by(first|lia|omega)]
theorem kD(g:cF ks){i:Nat}:∀{k:Nat},(eB ks i k sc).length<=36*sc.length:=by
 induction sc with
 |nil=>intro k;exact wh _
 |cons p r q =>
  intro k;show(mF ks [.s "param",iN i,iN k] p.2++eB ks i (k+1) r).length<=_;have h1:=mE g (fam:=[.s "param",iN i,iN k]) (k:=p.2);have h2:=q (k:=k+1);rw[iQ,qf]
  (first|lia|omega)
noncomputable def kE(ks:List Kd)(i:Nat)(f:Fn)(os:List (Option Str)):List L2.T:=eB ks i 0 f.1.2.1 ++ [.t [.s "first",iN i]]++mF ks [.s "result",iN i] f.1.2.2 ++ [.t [.s "last",iN i]]++dS ks i 0 os
noncomputable def cT(ks:List Kd):Nat->List (Fn×List (Option Str))->List L2.T
 |_,[]=>[]
 |i,x::r=>kE ks i x.1 x.2++cT ks (i+1) r
theorem zR{x:Fn×List (Option Str)}:∀{i:Nat},cT ks i (xs ++ [x])=cT ks i xs++kE ks (i+xs.length) x.1 x.2:=by
 induction xs with
 |nil=>intro i;show _ ++ []=[]++_;rw[qg];rfl
 |cons q r g=>intro i;show _++cT ks (i+1) (r ++ [x])=(_++_)++_;rw[g,u4,qf,show i+1+r.length=i+(r.length+1)by(first|lia|omega)]
structure Unk(ks:List Kd)(fs:List Fn)(xs:List (Fn×List (Option Str))):Prop where
 fn:xs.map (·.1)=fs
 ok:∀x∈xs,∃L,Pre ks (fs.map (·.1)) 0 (rtN x.1) L/\L.length<=50000/\zu ks L x.2
theorem FL(g:cF ks){i:Nat}{f:Fn}(h4:f.1.2.1.length<=4)(ho:os.length<=50000):(kE ks i f os).length<=1800200:=by
 have h1:=kD g (i:=i) (sc:=f.1.2.1) (k:=0);have h2:=mE g (fam:=[.s "result",iN i]) (k:=f.1.2.2);have h3:=ni g (i:=i) (os:=os) (n:=0);unfold kE;simp only[iQ,v5]
 (first|lia|omega)
theorem nj(g:cF ks)(h:∀x∈xs,x.1.1.2.1.length<=4/\x.2.length<=50000):∀{i:Nat},(cT ks i xs).length<=1800200*xs.length:=by
 induction xs with
 |nil=>intro i;exact wh _
 |cons x r q =>
  intro i;show(kE ks i x.1 x.2++cT ks (i+1) r).length<=_;have h0:=h x lD;have h1:=FL g (i:=i) h0.1 h0.2;have h2:=q (λy z=>h y (g5 _ z)) (i:=i+1)
  rw[iQ,qf]
  (first|lia|omega)
inductive Tn(ts:List L2.T)(Q:L2.T->Prop):Prop
 |mk(ks:List Kd)(fs:List Fn)(xs:List (Fn×List (Option Str)))(h1:ts=[tPr ks fs])(h2:Prog ks fs)(h3:Unk ks fs xs)(h4:Q (.l (cT ks 0 xs)))
theorem jy(T:Txt K mg a):bf P w K mg base CX0 7 a.iI a.sx ["program"] (spQ K Tn):=by
 refine T.iU.F.okQ dM (λts Q h=>?_) (λ_ _ _ _ _ _ hr=>?_)
 ·let(ks,fs,xs,U,_):=h;rfl
 ·have hu:=bB hr;refine(_,_,((ag (az 1 dM.nd (aO ai))
 (ag (bF (g:=(Tg.tp [2,3])) PassesOwn.never U (pK U T.bC (by kernel_rfl) (ae (av (qv 0) ah) ax)) (dH (bu 2 dM.nd) (bu 3 dM.nd))
 (ag (bF (g:=(Tg.tp [4,5])) PassesOwn.never U (pK U T.bC (by kernel_rfl) (ae (av (qv 3) ah) ax)) (dH (bu 4 dM.nd) (bu 5 dM.nd))
 (ao (c7 (i:=1) (pv 1) (aK (jx T) hr T.cI (ae (qv 0) (ae (Za (aq (af aH (af (Zb (qv 2)) (af (Zb (qv 4)) ai))))) (ae (av (qv 5) ah) ax)))))))
 (ag (br (i:=1) (pv 1) (aq (af aH (af (Zb (qv 2)) ai))))
 (ag (c7 (i:=1) (pv 1) (aK (jx T) hr T.cI (ae (qv 0) (ae (Za (aq (af aH (af (Zb (qv 2)) ai)))) (ae (av (qv 3) ah) ax)))))
 (ag (br (i:=1) (pv 1) (aq (af aH (af (Zb (qv 2)) ai))))
 (ao (c7 (i:=1) (pv 1) (aK (md T) hr T.ic (ae (qv 0) (ae (qv 2) ax))))))))))
 (ao (fC (i:=1) (pv 1)))))),λts Q h=>?_)
  let(ks,fs,xs,U,V,hU,hq):=h;have l8:=V.l8;have lx:xs.length=fs.length:=by rw[<- hU.fn,dN]
  have lim:∀x∈xs,x.1.1.2.1.length<=4/\x.2.length<=50000:=λx hx=>by
   let(L,_,h5,hA):=hU.ok x hx
   have:x.1∈fs:=by rw[<- hU.fn];exact oG.mpr (x,hx,U)
   exact((V.pk _ this).1,by rw[hA.ln];exact h5)
  refine(_,U,A9 λf hf=>(V.sn f hf).1.im,λc q=>∃(F:List L2.T)(o2 o3 o4 o5:Sl),q=[.r (tPr ks fs),.o (.l F),o2,o3,o4,o5]/\F=cT ks 0 (xs.take c),(_,_,_,_,_,U,U),?_,?_)
  ·rintro c y q hy ⟨F,o2,o3,o4,o5,rfl,rfl⟩
   let(z,hz,U):=cb hy;rw[gs]at hz;let(f,hf,U):=gV.mp hz;have a7:=(jS.mp hf).1;have aA:=mu hf;let(p1,p2,p3,p4):=V.pk f aA;have ak:xs[c]?=Z xs[c]:=fZ (by(first|lia|omega))
   have ex:xs[c].1=f:=by
    have:=congrArg (·[c]?) hU.fn
    simp only[gs,ak,hf]at this;exact Option.some.inj this
   let(L,hR,hL,hA):=hU.ok xs[c] (WW _);rw[ex]at hR;have a0:=nj V.gk (xs:=xs.take c) (λx hx=>lim x (RV hx)) (i:=0)
   have aT:(xs.take c).length<=7:=by rw[qp];(first|lia|omega)
   have aS:(cT ks 0 (xs.take c)).length<=12601400:=by(first|lia|omega)
   have hp:=kD V.gk (i:=c) (sc:=f.1.2.1) (k:=0);have aP:=mE V.gk (fam:=[.s "result",iN c]) (k:=f.1.2.2);have aN:=ni V.gk (i:=c) (os:=xs[c].2) (n:=0);have a8:=hA.ln;refine(_,U,_,U,aX fw _,λj q=>∃(F:List L2.T)(o4 o5:Sl),q=[.r (tPr ks fs),.o (.l F),.r (iN c),.r (tF f),o4,o5]/\F=cT ks 0 (xs.take c)++eB ks c 0 (f.1.2.1.take j),(_,_,_,U,(qg _).symm),?_,?_)
   ·rintro j y q hy ⟨F,o4,o5,rfl,rfl⟩
    let(z,hz,U):=cb hy;rw[gs]at hz;let(p,ar,U):=gV.mp hz;have a3:=(jS.mp ar).1;have h1:=kD V.gk (i:=c) (sc:=f.1.2.1.take j) (k:=0);have h2:=mE V.gk (fam:=[.s "param",iN c,iN j]) (k:=p.2);rw[qp]at h1;refine(_,U,U,U,_,U,ks,.t (fs.map tF),_,p.2,U,V.gk,U,(by show 3<=10;decide),?_,?_)
    ·show(cT ks 0 (xs.take c)++eB ks c 0 (f.1.2.1.take j)).length+(mF ks [.s "param",iN c,iN j] p.2).length<=pq;rw[iQ];exact sV (iD (by(first|lia|omega)))
    ·refine(_,_,_,U,?_);rw[ro,ar];show _++_=_++eB ks c 0 (f.1.2.1.take j ++ [p]);rw[xE,qp,Nx (by(first|lia|omega)),Fq,u4]
     rfl
   ·rintro q ⟨F,o4,o5,rfl,rfl⟩
    rw[aZ,dN,rr];refine(iD (by rw[iQ];(first|lia|omega)),U,?_)
    refine(U,_,U,ks,.t (fs.map tF),_,f.1.2.2,U,V.gk,U,(by show 2<=10;decide),?_,?_)
    ·show _+(mF ks [.s "result",iN c] f.1.2.2).length<=pq;simp only[iQ,v5];exact sV (iD (by(first|lia|omega)))
    ·refine(?_,U,?_)
     ·show(_++mF ks [.s "result",iN c] f.1.2.2).length<pq;simp only[iQ,v5];exact iD (by(first|lia|omega))
     ·refine(ks,fs,c,f,L,xs[c].2,U,V,hf,hR,hL,hA,?_,?_)
      ·show(_++mF ks [.s "result",iN c] f.1.2.2++_).length+_<=pq;simp only[iQ,v5];exact sV (iD (by(first|lia|omega)))
      ·refine(_,_,_,_,_,U,?_);rw[ro,ak];show _=cT ks 0 (xs.take c ++ [xs[c]]);rw[zR,qp,Nx (by(first|lia|omega)),Fq,ex]
       unfold kE;simp only[u4];rfl
  ·rintro q ⟨F,o2,o3,o4,o5,rfl,rfl⟩
   rw[aZ,dN,<- lx,rr];exact hq
theorem yn(T:Txt K mg a):bf P w K mg base CX0 1 a.cG a.lj [Zh,"row"] (xJ a.a7 ["row"]):=by
 refine Fun.ok (k:=0) T.iT xP (λvs H Q E h=>?_) λcdv A outer s H vs Q E hr h=>?_
 ·let(b,ys,U,hl,_):=h;simp[hl]
 ·refine(_,eQ (LR (fn:=fns) (pv 0) (pv 1)),?_);let(b,ys,U,hl,g,k):=h;obtain⟨y,rfl⟩:∃y,ys=[y]:=List.length_eq_one_iff.mp hl
  exact(y,U,.ref b,U,b,a.a7,O,_,_,U,T.c6,Cr,Jm,.inl (g,λd hd ne=>k d hd ne))
theorem nN(T:Txt K mg a):bf P w K mg base CX0 1 a.df a.iL [Zh,"f","free","spent","kinds","holdings"] (vM a.aJ ["f","free","spent","kinds","holdings"]):=by
 refine Fun.ok (k:=0) T.fL tX (λvs H Q E h=>?_) λcdv A outer s H vs Q E hr h=>?_
 ·let(x,dx,args,U,hl,_):=h;show args.length+1=6;rw[hl];rfl
 ·let(x,dx,args,U,hl,hx,hq):=h;obtain⟨v1,v2,q,v4,g,rfl⟩:∃v1 v2 q v4 g,args=[v1,v2,q,v4,g]:=by
   match args,hl with
   |[v1,v2,q,v4,g],_=>exact(v1,v2,q,v4,g,U)
  refine(_,bz (jv (pv 0) (pv 1) U) (bz (jv (pv 0) (pv 2) U) (bz (jv (pv 0) (pv 3) U) (bz (jv (pv 0) (pv 4) U) (eQ (jv (pv 0) (pv 5) U))))),?_);refine(_,U,_,U,x,a.aJ,dx,_,U,hx,T.a8,T.dI,(by show 0<1000;decide),?_)
  refine(_,U,_,U,x,a.aJ,dx,_,U,au,T.a8,T.eT,(by show 1<1000;decide),?_)
  refine(_,U,_,U,x,a.aJ,dx,_,U,au,T.a8,T.dY,(by show 2<1000;decide),?_)
  refine(_,U,_,U,x,a.aJ,dx,_,U,au,T.a8,T.cW,(by show 3<1000;decide),?_)
  refine(_,U,_,U,x,a.aJ,dx,_,U,au,T.a8,T.cN,(by show 4<1000;decide),?_)
  rw[gc,gc,gc,gc];exact hq
abbrev Fam:=List Key
def tH1(p:Fam×Int):L2.T:=.t [.t (p.1.map kT),.i p.2]
def tU(p:Str×Fam):L2.T:=.t [.s p.1,.t (p.2.map kT)]
theorem T9(p:Fam×Int):(tH1 p).im=true:=by
 show(L2.T.ims (p.1.map kT)&&O)=O;rw[aX λk=>by cases k <;> rfl];rfl
def pcF(i n:Nat):Fam:=[.inr "piece",.inl i,.inl n]
def usP(j:Nat):Nat->List Str->List (Str×Fam)
 |_,[]=>[]
 |k,y::r=>(y,[.inr "param",.inl j,.inl k])::usP j (k+1) r
theorem FH:∀{k:Nat},usP j k (ns ++ [y])=usP j k ns ++ [(y,[.inr "param",.inl j,.inl ((k+ns.length:Nat):Int)])]:=by
 induction ns with
 |nil=>intro k;rfl
 |cons q r g=>intro k;show _::usP j (k+1) (r ++ [y])=_::_;rw[g,qf,show k+1+r.length=k+(r.length+1)by(first|lia|omega)];rfl
inductive gG(fs:List Fn)(i n:Nat):L2.T->List (Str×Fam)->List (Fam×Int)->Int->Prop
 |give{x:Str}:gG fs i n (.t [.s "give",.s x]) [(x,[.inr "result",.inl i])] [([.inr "last",.inl i],-1)] 0
 |pay{c:Int}{b:L2.T}:gG fs i n (.t [.s "pay",.i c,b]) [] [] c
 |get{c:Int}{b:L2.T}:gG fs i n (.t [.s "get",.i c,b]) [] [] (-c)
 |name{x y:Str}{b:L2.T}:gG fs i n (.t [.s "name",.s x,.s y,b]) [(y,pcF i n)] [] 0
 |make {x m:Str} {ns:List Str} {b:L2.T}:ns.length<=4->gG fs i n (.t [.s "make",.s x,.s m,.t (ns.map .s),b]) (ns.map λy=>(y,pcF i n)) [(pcF i n ++ [.inr m],-1)] 0
 |call{x:Str}{j:Nat}{f:Fn}{ns:List Str}{b:L2.T}:fs[j]?=Z f->ns.length<=4->gG fs i n (.t [.s "call",.s x,.s f.1.1,.t (ns.map .s),b]) (usP j 0 ns) [([.inr "first",.inl j],-1)] 0
 |case{x:Str}{arms:List Arm}:gG fs i n (.t [.s "case",.s x,.t (arms.map tA)]) [(x,pcF i n)] [] 0
inductive P9(ts:List L2.T)(Q:L2.T->Prop):Prop
 |mk(ks:List Kd)(fs:List Fn)(i n:Nat)(b:L2.T)(us:List (Str×Fam))(fr:List (Fam×Int))(sp:Int)(h1:ts=[tPr ks fs,iN i,iN n,b])(h2:Prog ks fs)(h3:gG fs i n b us fr sp)(h4:Q (.l (us.map tU)))
inductive LV(ts:List L2.T)(Q:L2.T->Prop):Prop
 |mk(ks:List Kd)(fs:List Fn)(i n:Nat)(b:L2.T)(us:List (Str×Fam))(fr:List (Fam×Int))(sp:Int)(h1:ts=[tPr ks fs,iN i,iN n,b])(h2:Prog ks fs)(h3:gG fs i n b us fr sp)(h4:Q (.t (fr.map tH1)))
inductive LX(ts:List L2.T)(Q:L2.T->Prop):Prop
 |mk(fs:List Fn)(i n:Nat)(b:L2.T)(us:List (Str×Fam))(fr:List (Fam×Int))(sp:Int)(h1:ts=[b])(h2:gG fs i n b us fr sp)(h3:Q (.i sp))
abbrev bS:=List (Fam×Int)
structure Sd where
 fr:bS
 sp:Int
 sc:Sc
 ho:List (Str×bS)
def tHo(h:bS):L2.T:=.t (h.map tH1)
abbrev enH:Str×bS->Key×L2.T:=en (·.1) (λp=>tHo p.2)
inductive IsS(C:J)(i:Nat):L2.T->Sd->Prop
 |mk{d:Sd}{o1 o2:Obj}{v1 v2:List (Key×V)}:IsS C i (.ob C ["f","free","spent","kinds","holdings"] [iN i,tHo d.fr,.i d.sp,.fd o1 v1 (d.sc.map enP),.fd o2 v2 (d.ho.map enH)]) d
def oY(ho:List (Str×bS))(u:Str×Fam):List (Str×bS):=ho.map λp=>if p.1=u.1 then(p.1,p.2 ++ [(u.2,-1)])else p
def Sd.wth(d:Sd)(us:List (Str×Fam))(fr:bS)(sp:Int):Sd:=(d.fr++fr,d.sp+sp,d.sc,us.foldl oY d.ho)
structure SOk(Yx:Nat)(d:Sd):Prop where
 nd:(d.ho.map (·.1)).Nodup
 fl:d.fr.length<=Yx
 hl:∀p∈d.ho,p.2.length<=Yx
 ln:d.ho.length<=1000
theorem KG:∀{k:Nat},(usP j k ns).length=ns.length:=by
 induction ns with
 |nil=>intro k;rfl
 |cons q r g=>intro k;show(usP j (k+1) r).length+1=_;rw[g];rfl
variable{us:List (Str×Fam)}{fr:bS}
theorem gG.len{fs:List Fn}{i:Nat}{b:L2.T}(h:gG fs i n b us fr sp):us.length<=4/\fr.length<=1:=by
 cases h with
 |make h=>exact(by rw[dN];exact h,nY _)
 |call _ h=>exact(by rw[KG];exact h,nY _)
 |_=>exact(by simp,by simp)
variable{ho:List (Str×bS)}{u:Str×Fam}
theorem Fd:(oY ho u).map (·.1)=ho.map (·.1):=by
 unfold oY;rw[uk];exact WE λp _=>by show(if p.1=u.1 then(p.1,p.2 ++ [(u.2,-1)])else p).1=p.1;split <;> rfl
theorem kc:∀{ho:List (Str×bS)},(us.foldl oY ho).map (·.1)=ho.map (·.1):=by
 induction us with
 |nil=>intro ho;rfl
 |cons u r g=>intro ho;exact g.trans Fd
theorem JK(h:∀p∈ho,p.2.length<=Yx):∀p∈oY ho u,p.2.length<=Yx+1:=λp hp=>by
 let(q,hq,U):=oG.mp hp
 have:=h q hq
 split
 ·show(q.2++[Prod.mk u.2 (-1:Int)]).length<=Yx+1;rw[iQ];simpa using this
 ·omega
theorem CJ:∀{Yx:Nat}{ho:List (Str×bS)},(∀p∈ho,p.2.length<=Yx)->∀p∈us.foldl oY ho,p.2.length<=Yx+us.length:=by
 induction us with
 |nil=>intro Yx ho h;exact h
 |cons u r g=>intro Yx ho h p hp;have:=g (JK h) p hp;rw[qf];(first|lia|omega)
variable{fam:Fam}
theorem Hr{h:bS}(hn:(ho.map (·.1)).Nodup)(hx:(x,h)∈ho):ju (ho.map enH) (.inr x) (tHo (h ++ [(fam,-1)]))=(oY ho (x,fam)).map enH:=by
 unfold ju oY;rw[if_pos,uk,uk]
 ·refine WE λp hp=>?_
  show(if(Sum.inr p.1:Key)=.inr x then(Sum.inr p.1,tHo (h ++ [(fam,-1)]))else enH p)=enH (if p.1=x then(p.1,p.2 ++ [(fam,-1)])else p)
  by_cases e:p.1=x
  ·rw[if_pos (congrArg _ e),if_pos e];let(i,hi,q):=sS hp;let(j,K,g):=sS hx
   have:=rD hn (fZ hi) (fZ K) (by rw[q,g];exact e)
   subst this;have P:p=(x,h):=q.symm.trans g;rw[P];rfl
  ·rw[if_neg λz=>e (Sum.inr.inj z),if_neg e]
 ·rw[WI,Wg];exact(_,hx,decide_eq_true U)
theorem la(f:Fam):L2.T.ims (f.map kT)=true:=aX (λk=>by cases k <;> rfl) f
theorem jF(h:bS):(tHo h).im=true:=aX T9 h
theorem oA:∀ho:List (Str×bS),L2.T.imk (ho.map enH)=O
 |[]=>rfl
 |p::r=>by
  show(L2.T.im (tHo p.2)&&L2.T.imk (r.map enH))=O;rw[oA r,jF];rfl
inductive P8(C:J)(ts:List L2.T)(Q:L2.T->Prop):Prop
 |mk(ks:List Kd)(fs:List Fn)(i n:Nat)(b S:L2.T)(d:Sd)(us:List (Str×Fam))(fr:bS)(sp:Int)(h1:ts=[tPr ks fs,iN n,b,S])(h2:Prog ks fs)(h3:b.im=O)(h4:IsS C i S d)(h5:gG fs i n b us fr sp)(h6:(∀u∈us,u.1∈d.ho.map (·.1)))(h7:SOk 5000 d)(h8:∀S',IsS C i S' (d.wth us fr sp)->Q S')
def uv(i:Nat):Nat->Sc->List (Str×bS)
 |_,[]=>[]
 |k,p::r=>(p.1,[([.inr "param",.inl i,.inl k],1)])::uv i (k+1) r
theorem E9{i:Nat}{p:Str×Str}:∀{k:Nat},uv i k (sc ++ [p])=uv i k sc ++ [(p.1,[([.inr "param",.inl i,.inl ((k+sc.length:Nat):Int)],1)])]:=by
 induction sc with
 |nil=>intro k;rfl
 |cons q r g=>intro k;show _::uv i (k+1) (r ++ [p])=_::_;rw[g,qf,show k+1+r.length=k+(r.length+1)by(first|lia|omega)];rfl
theorem vo{i:Nat}:∀{k:Nat},(uv i k sc).map (·.1)=sc.map (·.1):=by
 induction sc with
 |nil=>intro k;rfl
 |cons q r g=>intro k;show _ ::(uv i (k+1) r).map (·.1)=_::_;rw[g]
def JI(i:Nat)(f:Fn):Sd:=([([.inr "first",.inl i],1)],0,f.1.2.1,uv i 0 f.1.2.1)
inductive LZ(C:J)(ts:List L2.T)(Q:L2.T->Prop):Prop
 |mk(ks:List Kd)(fs:List Fn)(i:Nat)(f:Fn)(h1:ts=[tPr ks fs,iN i])(h2:Prog ks fs)(h3:fs[i]?=Z f)(h4:∀S,IsS C i S (JI i f)->Q S)
inductive BrR(fs:List Fn)(i n:Nat):L2.T->L2.T->Fam->bS->Prop
 |plain{w:Str}{r:List L2.T}{am:L2.T}:w ≠ "call"->w ≠ "case"->BrR fs i n (.t (.s w::r)) am (pcF i n) []
 |call{x:Str}{j:Nat}{f:Fn}{ns:List Str}{b am:L2.T}:fs[j]?=Z f->BrR fs i n (.t [.s "call",.s x,.s f.1.1,.t (ns.map .s),b]) am [.inr "result",.inl j] [([.inr "last",.inl j],1)]
 |case{x:Str}{arms:List Arm}{ar:Arm}:BrR fs i n (.t [.s "case",.s x,.t (arms.map tA)]) (tA ar) (pcF i n) [(pcF i n ++ [.inr ar.1],1)]
def Sd.bhd(d:Sd)(fam:Fam)(fr:bS)(sc':Sc):Sd:=(d.fr++fr,d.sp,sc',d.ho++(sc'.drop d.sc.length).map λp=>(Prod.mk p.1 [(fam,1)]))
inductive HH(C:J)(ts:List L2.T)(Q:L2.T->Prop):Prop
 |mk(ks:List Kd)(fs:List Fn)(i n j:Nat)(b b' am S:L2.T)(d:Sd)(sc':Sc)(fam:Fam)(fr:bS)(h1:ts=[tPr ks fs,iN n,b,am,S])(h2:Prog ks fs)(h3:IsS C i S d)(h4:Kid ks (fs.map (·.1)) d.sc b j b' am sc')(h5:BrR fs i n b am fam fr)(h6:(d.sc.map (·.1)).Nodup)(h7:(∀p∈d.sc,p.2∈ks.map (·.1)))(h8:d.ho.map (·.1)=d.sc.map (·.1))(h9:d.sc.length<=900)(h10:d.fr.length<=5000)(h11:∀S',IsS C i S' (d.bhd fam fr sc')->Q S')
theorem ym(T:Txt K mg a):bf P w K mg base CX0 1 a.iJ a.sy [Ze] (spQ K LX):=by
 refine T.tI.F.okQ xQ (λts Q h=>?_) (λ_ _ _ _ _ _ hr=>?_)
 ·let(fs,i,n,b,us,fr,sp,U,_):=h;rfl
 ·have g:=bB hr;refine(_,_,((ag (aU (bw g (av (qv 0) ah) (Za aH))
 (ao (aC (Zb (av (qv 0) ah))))
 aB)
 (ag (aU (bw g (av (qv 0) ah) (Za aH))
 (ao (aC (jr (av (qv 0) ah))))
 aB)
 (ao (aC bp))))),λts Q h=>?_)
  let(fs,i,n,b,us,fr,sp,U,q,hq):=h;cases q with
  |pay=>exact(_,U,U,aE (λ_=>(_,U,U,hq)) λz=>absurd (by decide +kernel) z)
  |get=>exact(_,U,U,aE (λz=>absurd z (by decide +kernel)) λ_=>(_,U,U,aE (λ_=>(_,U,hq)) λz=>absurd (by decide +kernel) z))
  |_=>exact(_,U,U,aE (λz=>absurd z (by decide +kernel)) λ_=>(_,U,U,aE (λz=>absurd z (by decide +kernel)) λ_=>hq))
theorem t8(T:Txt K mg a):bf P w K mg base CX0 2 a.fH a.mO ["program","f","n",Ze] (spQ K LV):=by
 refine T.m8.F.okQ tV (λts Q h=>?_) (λ_ _ _ _ _ _ hr=>?_)
 ·let(ks,fs,i,n,b,us,fr,sp,U,_):=h;rfl
 ·have g:=bB hr;refine(_,_,((ag (aU (bw g (av (qv 3) ah) (Za aH))
 (ao (aC (aq (af (aq (af (aq (af aH (af (Zb (qv 1)) (af (Zb (qv 2)) (af (Zb (av (qv 3) ah)) ai))))) (af (jr ah) ai))) ai))))
 aB)
 (ag (aU (bw g (av (qv 3) ah) (Za aH))
 (ao (aC (aq (af (aq (af (aq (af aH (af (aK (fG T) hr T.fe (ae (av (qv 0) ah) (ae (av (qv 3) ah) ax))) ai))) (af (jr ah) ai))) ai))))
 aB)
 (ag (aU (bw g (av (qv 3) ah) (Za aH))
 (ao (aC (aq (af (aq (af (aq (af aH (af (Zb (qv 1)) ai))) (af (jr ah) ai))) ai))))
 aB)
 (ao (aC (aq ai))))))),λts Q h=>?_)
  let(ks,fs,i,n,b,us,fr,sp,U,q,hU,hq):=h;cases hU with
  |make=>exact(_,U,U,aE (λ_=>(U,U,_,U,U,hq)) λz=>absurd (by decide +kernel) z)
  |@call x j f ns b V =>
   refine(_,U,U,aE (λz=>absurd z (by decide +kernel)) λ_=>(_,U,U,aE (λ_=>?_) λz=>absurd (by decide +kernel) z))
   exact(_,U,_,U,fs,j,f,U,q.hn,λf hf=>(q.sn f hf).1.im,q.l8,V,hq)
  |give=>exact(_,U,U,aE (λz=>absurd z (by decide +kernel)) λ_=>(_,U,U,aE (λz=>absurd z (by decide +kernel)) λ_=>(_,U,U,aE (λ_=>(U,hq)) λz=>absurd (by decide +kernel) z)))
  |_=>exact(_,U,U,aE (λz=>absurd z (by decide +kernel)) λ_=>(_,U,U,aE (λz=>absurd z (by decide +kernel)) λ_=>(_,U,U,aE (λz=>absurd z (by decide +kernel)) λ_=>hq)))
theorem Mw(T:Txt K mg a):bf P w K mg base CX0 2 a.wV a.Jv ["program","f","n",Ze] (spQ K P9):=by
 refine T.J5.F.okQ vQ (λts Q h=>?_) (λ_ _ _ _ _ _ hr=>?_)
 ·let(ks,fs,i,n,b,us,fr,sp,U,_):=h;rfl
 ·have V:=bB hr;refine(_,_,((ag (az 4 vQ.nd (Zb (av (qv 3) ah)))
 (ag (aU (bw V (qv 4) (Za aH))
 (ao (aC (cg U (kQ (av (qv 3) ah)) (N':=["name","f","n"]) (.own U (.got (i:=1) U U (.inl U) (.got (i:=2) U U (.inl U) .nil))) (cm (g:=(Tg.nm 0)) (λ_ _ _ _ _=>((du 0),(aq (af (Zb (qv 0)) (af (aq (af aH (af (Zb (qv 1)) (af (Zb (qv 2)) ai)))) ai)))))))))
 aB)
 (ag (aU (bw V (qv 4) (Za aH))
 (ag (az 5 vQ.nd (aK (fG T) hr T.fe (ae (av (qv 0) ah) (ae (av (qv 3) ah) ax))))
 (ao (aC (cg U (wb U T.bC (by kernel_rfl) (ae (av (qv 3) ah) ax)) (N':=["k","name","g"]) (.own U (.own U (.got (i:=5) U U (.inl U) .nil))) (cm (g:=(Tg.tp [0,1])) (λ_ _ _ _ _=>((dH (du 0) (du 1)),(aq (af (Zb (qv 1)) (af (aq (af aH (af (Zb (qv 2)) (af (Zb (qv 0)) ai)))) ai))))))))))
 aB)
 (ag (aU (bw V (qv 4) (Za aH))
 (ao (aC (aO (af (aq (af (Zb (av (qv 3) ah)) (af (aq (af aH (af (Zb (qv 1)) (af (Zb (qv 2)) ai)))) ai))) ai))))
 aB)
 (ag (aU (bw V (qv 4) (Za aH))
 (ao (aC (aO (af (aq (af (Zb (av (qv 3) ah)) (af (aq (af aH (af (Zb (qv 1)) (af (Zb (qv 2)) ai)))) ai))) ai))))
 aB)
 (ag (aU (bw V (qv 4) (Za aH))
 (ao (aC (aO (af (aq (af (Zb (av (qv 3) ah)) (af (aq (af aH (af (Zb (qv 1)) ai))) ai))) ai))))
 aB)
 (ao (aC (aO ai)))))))))),λts Q h=>?_)
  let(ks,fs,i,n,b,us,fr,sp,U,hP,hU,hq):=h;cases hU with
  |@make x m ns b hl =>
   refine(_,U,U,U,aE (λ_=>?_) λz=>absurd (by decide +kernel) z)
   refine(_,U,aD (by rw[dN];(first|lia|omega)),λc ys=>ys=((ns.take c).map λy=>(y,pcF i n)).map tU,U,?_,?_)
   ·rintro c y ys hy rfl
    rw[gs]at hy;let(z,hz,U):=gV.mp hy;refine(_,U,U,U,U,?_);rw[ro,hz,pz,pz];rfl
   ·rintro ys rfl
    rw[dN,rr];exact hq
  |@call x j f ns b hj hl =>
   refine(_,U,U,U,aE (λz=>absurd z (by decide +kernel)) λ_=>(U,aE (λ_=>?_) λz=>absurd (by decide +kernel) z))
   refine(_,U,_,U,fs,j,f,U,hP.hn,λf hf=>(hP.sn f hf).1.im,hP.l8,hj,?_)
   refine(_,U,aD (by rw[aZ,dN];(first|lia|omega)),λc ys=>ys=(usP j 0 (ns.take c)).map tU,U,?_,?_)
   ·rintro c y ys hy rfl
    let(z,q,U):=cb hy;rw[gs]at q;let(z,hz,U):=gV.mp q;have ak:=(jS.mp hz).1;refine(_,U,U,U,U,?_);rw[ro,hz];show _++_=(usP j 0 (ns.take c ++ [z])).map tU;rw[FH,pz,qp,Nx (by(first|lia|omega)),Fq]
    rfl
   ·rintro ys rfl
    rw[aZ,dN,rr];exact hq
  |name=>exact(_,U,U,U,aE (λz=>absurd z (by decide +kernel)) λ_=>(U,aE (λz=>absurd z (by decide +kernel)) λ_=>(U,aE (λ_=>(_,U,U,U,U,hq)) λz=>absurd (by decide +kernel) z)))
  |case=>exact(_,U,U,U,aE (λz=>absurd z (by decide +kernel)) λ_=>(U,aE (λz=>absurd z (by decide +kernel)) λ_=>(U,aE (λz=>absurd z (by decide +kernel)) λ_=>(U,aE (λ_=>(_,U,U,U,U,hq)) λz=>absurd (by decide +kernel) z))))
  |give=>exact(_,U,U,U,aE (λz=>absurd z (by decide +kernel)) λ_=>(U,aE (λz=>absurd z (by decide +kernel)) λ_=>(U,aE (λz=>absurd z (by decide +kernel)) λ_=>(U,aE (λz=>absurd z (by decide +kernel)) λ_=>(U,aE (λ_=>(_,U,U,U,hq)) λz=>absurd (by decide +kernel) z)))))
  |_=>exact(_,U,U,U,aE (λz=>absurd z (by decide +kernel)) λ_=>(U,aE (λz=>absurd z (by decide +kernel)) λ_=>(U,aE (λz=>absurd z (by decide +kernel)) λ_=>(U,aE (λz=>absurd z (by decide +kernel)) λ_=>(U,aE (λz=>absurd z (by decide +kernel)) λ_=>hq)))))
theorem kr(T:Txt K mg a):bf P w K mg base CX0 3 a.fJ a.mP ["program","n",Ze,"stand"] (spQ K (P8 a.aJ)):=by
 refine T.iV.F.okQ dm (λts Q h=>?_) (λ_ _ _ _ _ _ hr=>?_)
 ·let(ks,fs,i,n,b,S,d,us,fr,sp,U,_):=h;rfl
 ·have hu:=bB hr;refine(_,_,((ag (az 4 dm.nd (aR d8 fA (by rfl) T.fq (by kernel_rfl) (ae (aW T.a8 T.cN (qv 3)) ax)))
 (ag (bF (g:=(Tg.tp [5,6])) PassesOwn.never U (B4 (aK (Mw T) hr T.J5 (ae (qv 0) (ae (aW T.a8 T.dI (qv 3)) (ae (qv 1) (ae (qv 2) ax)))))) (dH (bu 5 dm.nd) (bu 6 dm.nd))
 (ao (qQ (i:=4) hu (pv 4) (qv 5) (Za (bc (fF (qv 4) (qv 5)) (Za (aq (af (aq (af (Zb (qv 6)) (af (jr ah) ai))) ai))))))))
 (ag (az 7 dm.nd (bc (aW T.a8 T.eT (qv 3)) (Za (aK (t8 T) hr T.m8 (ae (qv 0) (ae (aW T.a8 T.dI (qv 3)) (ae (qv 1) (ae (qv 2) ax))))))))
 (ao (qR (i:=4) (aC (gO U T.rG (nN T) (hr.mono (by(first|lia|omega))) U T.rF T.iM (ae (aW T.a8 T.dI (qv 3)) (ae (qv 7) (ae (Za (bc (aW T.a8 T.dY (qv 3)) (Za (aK (ym T) hr T.tI (ae (qv 2) ax))))) (ae (aW T.a8 T.cW (qv 3)) (ae (qv 4) ax))))))))))))),λts Q h=>?_)
  let(ks,fs,i,n,b,S,d,us,fr,sp,U,hP,hb,hS,V,hx,hk,hq):=h;let(l1,l2):=V.len;cases hS with
  |@mk _ o1 o2 v1 v2 =>
   refine(U,(by decide),_,U,oA _,?_)
   refine(U,(by decide),_,U,ks,fs,i,n,b,us,fr,sp,U,hP,V,?_)
   refine(λc q=>∃(o5 o6 o7:Sl)(D:List (Key×L2.T)),q=[.r (tPr ks fs),.r (iN n),.r b,.r (.ob a.aJ ["f","free","spent","kinds","holdings"] [iN i,tHo d.fr,.i d.sp,.fd o1 v1 (d.sc.map enP),.fd o2 v2 (d.ho.map enH)]),.o (.d D),o5,o6,o7]/\D=((us.take c).foldl oY d.ho).map enH,(_,_,_,_,U,U),?_,?_)
   ·rintro c y q hy ⟨o5,o6,o7,D,rfl,rfl⟩
    rw[gs]at hy;let((x,fam),hz,U):=gV.mp hy;have hm:=mu hz;have z:=hx _ hm;rw[<- kc (us:=us.take c)]at z;let((x',h),hp,U):=oG.mp z;have hn:(((us.take c).foldl oY d.ho).map (·.1)).Nodup:=by rw[kc];exact hk.nd
    have hl:=CJ (us:=us.take c) hk.hl _ hp;have aP:((us.take c).foldl oY d.ho).length=d.ho.length:=by simpa using congrArg Nv (kc (us:=us.take c) (ho:=d.ho))
    have aN:=hk.ln;rw[qp]at hl;have hl:h.length<=5000+min c us.length:=hl;have aA:=mj (f:=λp:Str×bS=>p.1) (g:=λp=>tHo p.2) hn hp
    refine(_,U,?_);simp only[lU,L2.T.dof];refine(_,aA,la fam,?_);refine(?_,jF _,?_,aD (by rw[dN,aP];exact aN),oA _,?_,?_)
    ·show(h.map tH1).length+1<=pq;rw[dN];exact sV (cP (by(first|lia|omega)))
    ·show((L2.T.ims (fam.map kT)&&O)&&O)=O;rw[la];rfl
    ·show L2.T.ims (h.map tH1 ++ [tH1 (fam,-1)])=O;rw[show h.map tH1 ++ [tH1 (fam,-1)]=(h++[Prod.mk fam (-1)]).map tH1 by rw[pz];rfl]
     exact jF _
    ·refine(_,_,_,_,U,?_)
     have:=Hr (fam:=fam) hn hp
     unfold tHo at this;rw[pz]at this;refine Eq.trans this ?_;rw[ro,hz,Xv];rfl
   ·rintro q ⟨o5,o6,o7,D,rfl,rfl⟩
    rw[dN,rr];refine(U,(by decide),_,U,U,(by decide),_,U,ks,fs,i,n,b,us,fr,sp,U,hP,V,?_)
    refine(?_,jF _,jF _,oA _,λar ak=>?_)
    ·show(d.fr.map tH1).length+(fr.map tH1).length<=pq
     have:=hk.fl
     rw[dN,dN];exact sV (cP (by(first|lia|omega)))
    ·refine(U,(by decide),_,U,U,(by decide),_,U,fs,i,n,b,us,fr,sp,U,V,U,(by decide),_,U,?_,U,?_)
     ·show(L2.T.ims (d.fr.map tH1++fr.map tH1)&&O)=O;rw[<- pz];rw[show L2.T.ims ((d.fr++fr).map tH1)=O from jF _];rfl
     ·refine hq _ ?_
      have:=IsS.mk (C:=a.aJ) (i:=i) (d:=d.wth us fr sp) (o1:=o1) (o2:=ar) (v1:=v1) (v2:=ak)
      unfold tHo Sd.wth at this;rw[pz]at this;exact this
theorem ma(T:Txt K mg a):bf P w K mg base CX0 3 a.c9 a.g9 ["program","f"] (spQ K (LZ a.aJ)):=by
 refine T.ib.F.okQ dU (λts Q h=>?_) (λ_ _ _ _ _ _ hr=>?_)
 ·let(ks,fs,i,f,U,_):=h;rfl
 ·have hu:=bB hr;refine(_,_,((ag (az 2 dU.nd (Zb (av (av (av (qv 0) ah) (qv 1)) ah)))
 (ag (j6 (i:=3) dU.nd U (Or.inl U) U (wb U T.bC (by kernel_rfl) (ae (qv 2) ax)) (N':=["k","param","f"]) (.own U (.own U (.got (i:=1) U U (.inl U) .nil))) (cm (g:=(Tg.tp [0,1])) (λ_ _ _ _ _=>((dH (du 0) (du 1)),(aq (af (Zb (av (qv 1) ah)) (af (aq (af (aq (af (aq (af aH (af (Zb (qv 2)) (af (Zb (qv 0)) ai)))) (af bp ai))) ai)) ai)))))))
 (ao (aC (gO U T.rG (nN T) (hr.mono (by(first|lia|omega))) U T.rF T.iM (ae (qv 1) (ae (Za (aq (af (aq (af (aq (af aH (af (Zb (qv 1)) ai))) (af bp ai))) ai))) (ae ah (ae (Za (pM (aR (cB U) dF (by rfl) T.fq (by kernel_rfl) (ae (qv 2) ax)))) (ae (Za (pM (aR (cB U) dF (by rfl) T.fq (by kernel_rfl) (ae (qv 3) ax)))) ax))))))))))),λts Q h=>?_)
  let(ks,fs,i,f,U,hP,hf,hq):=h;have V:=mu hf;let(p1,p2,p3,p4):=hP.pk f V;have ef:atI (fs.map tF) (i:Int)=Z (tF f):=bQ (by rw[gs,hf];rfl)
  refine(_,U,_,ef,_,U,?_);refine(aX fw _,aD (by rw[aZ,dN];(first|lia|omega)),λc ys=>ys=(uv i 0 (f.1.2.1.take c)).map λp=>L2.T.t [.s p.1,tHo p.2],U,?_,?_)
  ·rintro c y ys hy rfl
   let(z,q,U):=cb hy;rw[gs]at q;let(z,hz,U):=gV.mp q;have ak:=(jS.mp hz).1;refine(_,U,_,U,U,U,U,?_);rw[ro,hz];show _++_=(uv i 0 (f.1.2.1.take c ++ [z])).map _;rw[E9,pz,qp,Nx (by(first|lia|omega)),Fq]
   rfl
  ·rintro ys rfl
   rw[aZ,dN,rr];refine(U,aX fw _,_,wt _,?_);rw[p8 p3];refine(my _,λo1 v1=>?_)
   refine(aX (λp=>by show(O&&(L2.T.im (tHo p.2)&&O))=O;rw[jF];rfl) _,_,l7 (f:=λp:Str×bS=>p.1) (g:=λp=>tHo p.2) _,?_)
   rw[p8 (by rw[vo];exact p3)]
   exact(oA _,λo2 v2=>(U,U,hq _ (IsS.mk (d:=JI i f))))
theorem P0{r:Sc}{p:Str×Str}(h:((sc ++ [p]).map (·.1)).Nodup):ju (sc.map enP) (.inr p.1) (.s p.2)=(sc ++ [p]).map enP:=by
 unfold ju;rw[if_neg,pz]
 ·rfl
 ·rw[WI,Wg]
  rintro⟨q,hq,e⟩
  have e:(Sum.inr q.1:Key)=.inr p.1:=of_decide_eq_true e;rw[pz,yK]at h;exact h.2.2 _ (oG.mpr (q,hq,U)) _ (oG.mpr (p,fy.mpr U,U)) (Sum.inr.inj e)
theorem P1{h:bS}(hx:x ∉ ho.map (·.1)):ju (ho.map enH) (.inr x) (tHo h)=(ho++[Prod.mk x h]).map enH:=by
 unfold ju;rw[if_neg,pz]
 ·rfl
 ·rw[WI,Wg]
  rintro⟨q,hq,e⟩
  have e:(Sum.inr q.1:Key)=.inr x:=of_decide_eq_true e;exact hx (oG.mpr (q,hq,Sum.inr.inj e))
theorem UG{fs:List Fn}{i:Nat}{b am S:L2.T}{f0:bS}{D:dz}(g:Prog ks fs)(hB:BrR fs i n b am fam fr)(hl:f0.length<=5000)
  (k:∀o7:Sl,D.nx [.r (tPr ks fs),.r (iN n),.r b,.r am,.r S,.o (.t (fam.map kT)),.o (tHo (f0++fr)),o7,.no,.no,.no,.no]):
  DX (oq (qOp Ar (qOp qIx (aY 2) (qC (.i 0))) (qC (.s "call"))))
   (qX (qW 7 (fS x9 (aF (qOp qIx (aY 0) (qC (.i 1))) (aF (qOp qIx (aY 2) (qC (.i 2))) cA))))
    (qX (qW 5 (jt (aF (qC (.s "result")) (aF (qIm (aY 7)) cA))))
     (qW 6 (qOp kW (aY 6) (jt (aF (jt (aF (jt (aF (qC (.s "last")) (aF (qIm (aY 7)) cA))) (aF (qC (.i 1)) cA))) cA))))))
   (DX (oq (qOp Ar (qOp qIx (aY 2) (qC (.i 0))) (qC (.s "case"))))
    (qW 6 (qOp kW (aY 6) (jt (aF (jt (aF (qOp kW (aY 5) (jt (aF (qIm (qOp qIx (aY 3) (qC (.i 0)))) cA))) (aF (qC (.i 1)) cA))) cA))))
    x3) D [.r (tPr ks fs),.r (iN n),.r b,.r am,.r S,.o (.t ((pcF i n).map kT)),.o (tHo f0),.no,.no,.no,.no,.no]:=by
 have q:(f0.map tH1).length+1<=pq:=by rw[dN];exact sV (cP (by(first|lia|omega)))
 cases hB with
 |@plain w r _ Q P =>
  have n1:¬ decide ((L2.T.s w).v=(L2.T.s "call").v)=true:=λz=>Q (V.str.inj (of_decide_eq_true z))
  have n2:¬ decide ((L2.T.s w).v=(L2.T.s "case").v)=true:=λz=>P (V.str.inj (of_decide_eq_true z))
  have K:atI (L2.T.s w::r) 0=Z (L2.T.s w):=bQ (j:=0) U;refine(_,K,U,aE (λz=>absurd z n1) λ_=>(_,K,U,aE (λz=>absurd z n2) λ_=>?_))
  have:=k .no
  rw[qg]at this;exact this
 |@call x j f ns b _ hj =>
  refine(_,U,U,aE (λ_=>?_) λz=>absurd (by decide +kernel) z)
  refine(_,U,_,U,fs,j,f,U,g.hn,λf hf=>(g.sn f hf).1.im,g.l8,hj,U,U,?_)
  refine(q,jF _,U,?_)
  have:=k (.o (.i j))
  unfold tHo at this;rw[pz]at this;exact this
 |@case x arms ar =>
  refine(_,U,U,aE (λz=>absurd z (by decide +kernel)) λ_=>(_,U,U,aE (λ_=>?_) λz=>absurd (by decide +kernel) z))
  refine(_,U,U,(by show 3+1<=pq;decide),U,U,q,jF _,U,?_)
  have:=k .no
  unfold tHo at this;rw[pz]at this;exact this
theorem oP(T:Txt K mg a):bf P w K mg base CX0 3 a.d7 a.jJ ["program","n",Ze,"arm","stand"] (spQ K (HH a.aJ)):=by
 refine T.jU.F.okQ a4 (λts Q h=>?_) (λ_ _ _ _ _ _ hr=>?_)
 ·let(ks,fs,i,n,j,b,b',am,S,d,sc',fam,fr,U,_):=h;rfl
 ·have hu:=bB hr;refine(_,_,((ag (az 5 a4.nd (aq (af aH (af (Zb (aW T.a8 T.dI (qv 4))) (af (Zb (qv 1)) ai)))))
 (ag (az 6 a4.nd (Zb (aW T.a8 T.eT (qv 4))))
 (ag (aU (bw hu (av (qv 2) ah) (Za aH))
 (ag (az 7 a4.nd (aK (fG T) hr T.fe (ae (av (qv 0) ah) (ae (av (qv 2) ah) ax))))
 (ag (az 5 a4.nd (aq (af aH (af (Zb (qv 7)) ai))))
 (ao (az 6 a4.nd (bc (qv 6) (Za (aq (af (aq (af (aq (af aH (af (Zb (qv 7)) ai))) (af bp ai))) ai))))))))
 (ao (aU (bw hu (av (qv 2) ah) (Za aH))
 (ao (az 6 a4.nd (bc (qv 6) (Za (aq (af (aq (af (bc (qv 5) (Za (aq (af (Zb (av (qv 3) ah)) ai)))) (af bp ai))) ai))))))
 aB)))
 (ag (az 8 a4.nd (aR d8 fA (by rfl) T.fq (by kernel_rfl) (ae (aW T.a8 T.cW (qv 4)) ax)))
 (ag (az 9 a4.nd (aR d8 fA (by rfl) T.fq (by kernel_rfl) (ae (aW T.a8 T.cN (qv 4)) ax)))
 (ag (bF (g:=(Tg.tp [10,11])) PassesOwn.never U (B4 (aK (ou T) hr T.lF (ae (qv 0) (ae (qv 2) (ae (qv 3) (ae (aW T.a8 T.cW (qv 4)) ax)))))) (dH (bu 10 a4.nd) (bu 11 a4.nd))
 (ag (qQ (i:=8) hu (pv 8) (qv 10) (qv 11))
 (ao (qQ (i:=9) hu (pv 9) (qv 10) (Za (aq (af (aq (af (Zb (qv 5)) (af bp ai))) ai)))))))
 (ao (qR (i:=9) (qR (i:=8) (aC (gO U T.rG (nN T) (hr.mono (by(first|lia|omega))) U T.rF T.iM (ae (aW T.a8 T.dI (qv 4)) (ae (qv 6) (ae (aW T.a8 T.dY (qv 4)) (ae (qv 8) (ae (qv 9) ax))))))))))))))))),λts Q h=>?_)
  let(ks,fs,i,n,j,b,b',am,S,d,sc',fam,fr,U,hP,hS,hK,hB,ar,aN,aA,bb,aP,hq):=h;have ex:=hK.ext;have nn:=hK.nd ar;have hlen:=hK.len hP.gk;cases hS with
  |@mk _ o1 o2 v1 v2 =>
  have a7:∀g:Fam,L2.T.ims (g.map kT)=true:=la
  refine(U,(by decide),_,U,U,U,U,(by decide),_,U,?_)
  refine(jF _,UG hP hB aP λo7=>?_)
  refine(U,(by decide),_,U,my _,U,(by decide),_,U,oA _,?_)
  refine(U,(by decide),_,U,ks,fs,d.sc,sc',b,b',am,j,_,U,U,hP,hK,ar,aN,?_)
  have bt:(sc'.drop d.sc.length).length<=4:=by rw[Fs];(first|lia|omega)
  refine(λc q=>∃(ak V:Sl)(A Yx:List (Key×L2.T)),q=[.r (tPr ks fs),.r (iN n),.r b,.r am,.r (.ob a.aJ ["f","free","spent","kinds","holdings"] [iN i,tHo d.fr,.i d.sp,.fd o1 v1 (d.sc.map enP),.fd o2 v2 (d.ho.map enH)]),.o (.t (fam.map kT)),.o (tHo (d.fr++fr)),o7,.o (.d A),.o (.d Yx),ak,V]/\A=(d.sc++(sc'.drop d.sc.length).take c).map enP/\Yx=(d.ho++((sc'.drop d.sc.length).take c).map λp:Str×Str=>Prod.mk p.1 [Prod.mk fam (1:Int)]).map enH,(_,_,_,_,U,by simp,by simp),?_,?_)
  ·rintro c y q hy ⟨ak,V,A,Yx,rfl,rfl,rfl⟩
   rw[gs]at hy;let(p,hz,U):=gV.mp hy;have bC:=(jS.mp hz).1;have et:(sc'.drop d.sc.length).take (c+1)=(sc'.drop d.sc.length).take c ++ [p]:=by rw[ro,hz];rfl
   have n2:((d.sc++(sc'.drop d.sc.length).take c ++ [p]).map (·.1)).Nodup:=by
    rw[u4,<- et];rw[ex]at nn;refine List.Nodup.sublist (List.Sublist.map _ (List.Sublist.append_left (Wm _ _) _)) nn
   have n3:p.1 ∉ (d.ho++((sc'.drop d.sc.length).take c).map λp=>(Prod.mk p.1 [Prod.mk fam (1:Int)])).map (·.1):=by
    rw[pz,aA,uk]
    have:=n2
    rw[pz,pz,yK]at this;intro z;exact this.2.2 _ z _ (oG.mpr (p,fy.mpr U,U)) U
   have bj:d.ho.length=d.sc.length:=by simpa using congrArg Nv aA
   have tl:((sc'.drop d.sc.length).take c).length<=4:=by rw[qp];(first|lia|omega)
   refine(_,U,?_);refine(aD (by rw[dN,iQ];(first|lia|omega)),my _,U,?_)
   rw[show L2.T.s p.2=.s p.2 from U,P0 (r:=[]) n2];refine(la _,aD (by rw[dN,iQ,dN];(first|lia|omega)),oA _,?_,?_)
   ·show((L2.T.ims (fam.map kT)&&O)&&O)=O;rw[la];rfl
   ·refine(_,_,_,_,U,?_,?_)
    ·rw[et,u4]
    ·refine(P1 (h:=[(fam,1)]) n3).trans (congrArg (List.map enH) ?_);rw[et];simp
  ·rintro q ⟨ak,V,A,Yx,rfl,rfl,rfl⟩
   rw[dN,rr,<- ex];refine(oA _,λa0 aS=>(my _,λa3 aT=>?_))
   refine(U,(by decide),_,U,U,(by decide),_,U,?_,U,hq _ (IsS.mk (d:=d.bhd fam fr sc')))
   show(O&&(L2.T.im (tHo (d.fr++fr))&&O))=O;rw[jF];rfl
theorem gA{k k':Str}(h:(sc.map (·.1)).Nodup)(h1:(x,k)∈sc)(h2:(x,k')∈sc):k=k':=by
 let(i,hi,q):=sS h1;let(j,z,g):=sS h2
 have:=rD h (fZ hi) (fZ z) (by rw[q,g])
 subst this;rw[q]at g;exact congrArg Prod.snd g
theorem A4(g:cF ks){q:Kd}{m m':Mk1}(h1:kd∈ks)(h2:q∈ks)(h3:m∈kd.2)(h4:m'∈q.2)(e:m.1=m'.1):kd=q:=by
 let(i,hi,K):=sS h1;let(j,P,z):=sS h2
 have:=rX g.mn (fZ hi) (fZ P) (K▸h3) (z▸h4) e
 subst this;exact K.symm.trans z
theorem T4(g:cF ks){q:Kd}(h1:kd∈ks)(h2:q∈ks)(e:kd.1=q.1):kd=q:=by
 let(i,hi,K):=sS h1;let(j,P,z):=sS h2
 have:=rD g.nd (fZ hi) (fZ P) (by rw[K,z];exact e)
 subst this;exact K.symm.trans z
theorem Ru(hn:(hs.map (·.1)).Nodup){h h':Hd}(h1:h∈hs)(h2:h'∈hs)(e:h.1=h'.1):h=h':=by
 let(i,hi,q):=sS h1;let(j,z,g):=sS h2
 have:=rD hn (fZ hi) (fZ z) (by rw[q,g];exact e)
 subst this;exact q.symm.trans g
theorem Lj:(("make":Str)="call")=False:=eq_false (by decide)
theorem Lk:(("call":Str)="make")=False:=eq_false (by decide)
theorem U3:(("pay":Str)="get")=False:=eq_false (by decide)
theorem U4:(("get":Str)="pay")=False:=eq_false (by decide)
theorem F4{a b:Arm}(h:tA a=tA b):a.1=b.1/\a.2.1=b.2.1/\a.2.2.1=b.2.2.1:=by
 have h:L2.T.t [.s a.1,.t (a.2.1.map .s),a.2.2.1]=.t [.s b.1,.t (b.2.1.map .s),b.2.2.1]:=h;injection h with h
 injection h with h1 h
 injection h with h2 h
 injection h with h3 _
 injection h1 with h1
 injection h2 with h2
 exact(h1,(Xo λ_ _ z=>L2.T.s.inj z).mp h2,h3)
theorem Snd.kid{ks:List Kd}{hs:List Hd}{r:Str}{m:Nat}{sc sc':Sc}{b t b' am:L2.T}{j:Nat}(gk:cF ks)(hn:(hs.map (·.1)).Nodup)(nd:(sc.map (·.1)).Nodup)(S:Snd ks hs r m sc b)(e:b=t)(K:Kid ks hs sc t j b' am sc'):∃m',Snd ks hs r m' sc' b':=by
 cases S <;> cases K <;> simp[Lj,Lk]at e
 ·rename_i S _ _ _;let(U,U,U):=e;exact(_,S)
 ·rename_i hy hx S _ _ _ Q g;let(U,U,U):=e;obtain rfl:=gA nd hy Q;exact(_,S)
 ·rename_i q hm _ hx S _ _ _ _ Bi V g;let(U,z,P,U):=e;obtain rfl:=A4 gk q Bi hm V z;exact(_,S)
 ·rename_i hh _ hx S _ _ _ ak g;let(U,z,P,U):=e;obtain rfl:=Ru hn hh ak z;exact(_,S)
 ·rename_i x kd arms q aP hx h1 h2 x' aN OA ar mm g Bi V9 hl hN ha hm;let(U,z):=e;obtain rfl:=T4 gk q Bi (gA nd hx g);have P:=congrArg (·[j]?) z;simp only[gs,ha]at P;let(aA,h0,e3):=gV.mp P;let(_,q2,q3):=F4 e3
  have:=h2 j aA mm h0 hm
  rw[q2,q3]at this;exact(_,this)
theorem Sy{fs:List Fn}{f:Fn}(g:Prog ks fs)(hf:f∈fs)(q:cw ks (fs.map (·.1)) 0 [rtN f] L):∀e∈L,∃m,Snd ks (fs.map (·.1)) f.1.2.2 m e.sc e.b:=by
 have hn:((fs.map (·.1)).map (·.1)).Nodup:=by have:=g.hn;rwa [uk]
 have:=q.all (R:=λe=>(e.sc.map (·.1)).Nodup/\∃m,Snd ks (fs.map (·.1)) f.1.2.2 m e.sc e.b) (λn d j b am sc (g1,m,g2) hk=>(hk.nd g1,g2.kid g.gk hn g1 U hk)) _ U λd hd=>by
  rw[fy.mp hd];exact((g.pk f hf).2.2.1,_,(g.sn f hf).1)
 exact λe he=>(this e he).2
theorem qj{k m:Str}{xs:List Kd}:m∈ff ks k xs ↔ ∃x∈xs,Reach ks k x.1/\m∈x.2.map (·.1):=by
 unfold ff;rw[WH]
 constructor
 ·rintro⟨x,hx,h⟩
  split at h
  ·exact(x,hx,(by assumption),h)
  ·cases h
 ·rintro⟨x,hx,hr,h⟩
  exact(x,hx,by rw[if_pos hr];exact h)
theorem uA{m:Mk1}(h:kd∈ks)(hm:m∈kd.2):m.1∈ff ks kd.1 ks:=qj.mpr (kd,h,.here,oG.mpr (m,hm,U))
theorem FC(g:cF ks){m:Mk1}{k s:Str}(h:kd∈ks)(hm:m∈kd.2)(hk:k∈m.2)(hs:s∈ff ks k ks):s∈ff ks kd.1 ks:=by
 let(x,hx,hr,h'):=qj.mp hs;refine qj.mpr (x,hx,Reach.trans (.step .here ?_) hr,h');unfold wU;rw[Cp g.nd h];exact WH.mpr (m,hm,hk)
def FK(Yt:L2.T->Prop)(ks:List Kd)(fam:Fam)(k:Str):Prop:=∀m∈ff ks k ks,Yt (.t ((fam ++ [(.inr m:Key)]).map kT))
structure UOk(Yt:L2.T->Prop)(ks:List Kd)(fs:List Fn)(i:Nat)(os:List (Option Str)):Prop where
 par:∀(j:Nat)(g:Fn)(k:Nat)(p:Str×Str),fs[j]?=Z g->g.1.2.1[k]?=Z p->FK Yt ks [.inr "param",.inl j,.inl k] p.2
 fst:∀(j:Nat)(g:Fn),fs[j]?=Z g->Yt (.t [.s "first",iN j])
 lst:∀(j:Nat)(g:Fn),fs[j]?=Z g->Yt (.t [.s "last",iN j])
 res:∀(j:Nat)(g:Fn),fs[j]?=Z g->FK Yt ks [.inr "result",.inl j] g.1.2.2
 pce:∀(n:Nat)(k:Str),os[n]?=Z (Z k)->FK Yt ks (pcF i n) k
theorem FK.fld{Yt:L2.T->Prop}{m:Mk1}{k:Str}(h:FK Yt ks fam kd.1)(g:cF ks)(q:kd∈ks)(hm:m∈kd.2)(hk:k∈m.2):FK Yt ks fam k:=λs hs=>h s (FC g q hm hk hs)
theorem KD:∀{k:Nat},u∈usP j k ns->∃l,ns[l]?=Z u.1/\u.2=[.inr "param",.inl (j:Int),.inl ((k+l:Nat):Int)]:=by
 induction ns with
 |nil=>intro k h;cases h
 |cons y r g =>
  intro k h;obtain rfl|h:=ot.mp h
  ·exact(0,U,U)
  ·let(l,h1,h2):=g h;exact(l+1,by simpa using h1,by rw[h2,show k+1+l=k+(l+1)by(first|lia|omega)])
theorem CM{fl:List Str}(h:Fills sc ns fl)(g:ns[l]?=Z y):∃k,fl[l]?=Z k/\(y,k)∈sc:=by
 have hl:=(jS.mp g).1;have hk:fl[l]?=Z (fl[l]'(by rw[<- h.1];exact hl)):=fZ _
 refine(_,hk,h.2 _ ?_);refine mu (i:=l) ?_;rw[Wk];exact(g,hk)
section
variable{Yt:L2.T->Prop}{ks:List Kd}{fs:List Fn}{i n m:Nat}{f:Fn}{os:List (Option Str)}{o:Option Str}{sc:Sc}{b t:L2.T}
theorem FG(hP:Prog ks fs)(hf:fs[i]?=Z f)(Q:UOk Yt ks fs i os)(nd:(sc.map (·.1)).Nodup)(S:Snd ks (fs.map (·.1)) f.1.2.2 m sc b)(ho:os[n]?=Z o)(e:b=t)(hA:Ask ks sc t o):
  ∃us fr sp,gG fs i n b us fr sp/\(∀u∈us,∃k,(u.1,k)∈sc/\FK Yt ks u.2 k)/\∀p∈fr,Yt (.t (p.1.map kT)):=by
 have one:∀{x:Str}{fam:Fam}{k:Str},(x,k)∈sc->FK Yt ks fam k->∀u ∈ [(Prod.mk x fam)],∃k,(u.1,k)∈sc/\FK Yt ks u.2 k:=λ{x fam k} h1 h2 u V=>by
  rw[fy.mp V];exact(k,h1,h2)
 have on1:∀{p:Fam×Int},Yt (.t (p.1.map kT))->∀q ∈ [p],Yt (.t (q.1.map kT)):=λ{p} h q hq=>by rw[fy.mp hq];exact h
 cases S <;> cases hA <;> simp[Lj,Lk]at e
 ·rename_i hx _;exact(_,_,_,.give,one hx (Q.res i f hf),on1 (Q.lst i f hf))
 ·rename_i w c b hw _ _ _ _ _;obtain rfl|rfl:=hw
  ·exact(_,_,_,.pay,(λ_ z=>nomatch z),(λ_ z=>nomatch z))
  ·exact(_,_,_,.get,(λ_ z=>nomatch z),(λ_ z=>nomatch z))
 ·rename_i hy hx S _ _ _ _ ak;let(U,U,U):=e;obtain rfl:=gA nd hy ak;exact(_,_,_,.name,one hy (Q.pce n _ ho),(λ_ z=>nomatch z))
 ·rename_i x mm kd ns b K hm hF hx S _ _ aN _ _ Bi aA;let(U,e1,e2,U):=e;obtain rfl:=A4 hP.gk K Bi hm aA e1;have hp:=Q.pce n _ ho;refine(_,_,_,.make (by rw[hF.1];exact(hP.gk.fl kd K mm hm).1),λu V=>?_,on1 (hp _ (uA K hm)))
  let(y,hy,U):=oG.mp V;let(l,hl,U):=sS hy;let(k,hk,hs):=CM hF (fZ hl);exact(k,hs,hp.fld hP.gk K hm (mu hk))
 ·rename_i x h ns b hh hF hx S _ _ _ _;let(g,hg,U):=oG.mp hh;let(j,hj,e1):=sS hg;have P:fs[j]?=Z g:=by rw[fZ hj,e1]
  have l4:=(hP.pk g hg).1;refine(_,_,_,.call P (by rw[hF.1,dN];exact l4),λu V=>?_,on1 (Q.fst j g P))
  let(l,h1,h2):=KD V;let(k,hk,hs):=CM hF h1;rw[gs]at hk;let(p,hp,U):=gV.mp hk;rw[h2,Fq];exact(_,hs,Q.par j g l p P hp)
 ·rename_i x kd arms K aP hx h1 h2 x' k OA ar;let(U,e1):=e;obtain rfl:=gA nd hx ar;exact(_,_,_,.case,one hx (Q.pce n _ ho),(λ_ z=>nomatch z))
theorem RF{b' am:L2.T}(hP:Prog ks fs)(hU:UOk Yt ks fs i os)(nd:(sc.map (·.1)).Nodup)(K:Kid ks (fs.map (·.1)) sc b j b' am sc')(ho:os[n]?=Z o)(e:b=t)(hA:Ask ks sc t o):
  ∃fam fr,BrR fs i n b am fam fr/\(∀p∈sc'.drop sc.length,FK Yt ks fam p.2)/\∀p∈fr,Yt (.t (p.1.map kT)):=by
 have one:∀{x:Str}{fam:Fam}{k:Str},FK Yt ks fam k->∀p∈(sc++[Prod.mk x k]).drop sc.length,FK Yt ks fam p.2:=λ{x fam k} h p hp=>by
  rw[WU]at hp;rw[fy.mp hp];exact h
 have on1:∀{p:Fam×Int},Yt (.t (p.1.map kT))->∀q ∈ [p],Yt (.t (q.1.map kT)):=λ{p} h q hq=>by rw[fy.mp hq];exact h
 cases K <;> cases hA <;> simp[Lj,Lk]at e
 ·rename_i w c hw _ _ _ _;refine(_,_,.plain ?_ ?_,(λp hp=>by rw[XI]at hp;cases hp),(λ_ z=>nomatch z))
  ·obtain rfl|rfl:=hw <;> decide
  ·obtain rfl|rfl:=hw <;> decide
 ·rename_i hy hx _ _ _ _ aA;let(U,U,U):=e;obtain rfl:=gA nd hy aA;exact(_,_,.plain (by decide) (by decide),one (hU.pce n _ ho),(λ_ z=>nomatch z))
 ·rename_i x mm kd ns P hm hx _ _ aT _ _ Bi aS;let(U,e1,e2,U):=e;obtain rfl:=A4 hP.gk P Bi hm aS e1;exact(_,_,.plain (by decide) (by decide),one (hU.pce n _ ho),(λ_ z=>nomatch z))
 ·rename_i x h ns hh hx _ _ _ _;let(g,hg,U):=oG.mp hh;let(j',hj,e1):=sS hg;have Q:fs[j']?=Z g:=by rw[fZ hj,e1]
  exact(_,_,.call Q,one (hU.res j' g Q),on1 (hU.lst j' g Q))
 ·rename_i x kd arms ar mm hx P aP hl hN ha hm x' k OA aN;let(U,e1):=e;obtain rfl:=gA nd hx aN;have hp:=hU.pce n _ ho;have ak:=mu hm;have em:ar.1=mm.1:=by
   have:=congrArg (·[j]?) aP
   simp only[gs,ha,hm]at this;exact Option.some.inj this
  refine(_,_,.case,λp V=>?_,on1 ?_)
  ·rw[WU]at V;exact hp.fld hP.gk P ak (WJ V).2
  ·rw[em];exact hp _ (uA P ak)
end
inductive Std(ks:List Kd)(fs:List Fn)(i:Nat)(f:Fn)(L:List Nod):Nod->Sd->Prop
 |root:Std ks fs i f L (rtN f) (JI i f)
 |kid{n j:Nat}{e:Nod}{d:Sd}{b am:L2.T}{sc:Sc}{us:List (Str×Fam)}{fr fr':bS}{sp:Int}{fam:Fam}:Std ks fs i f L e d->L[n]?=Z e->Kid ks (fs.map (·.1)) e.sc e.b j b am sc->gG fs i n e.b us fr sp->BrR fs i n e.b am fam fr'->Std ks fs i f L (Ez n e j b am sc) ((d.wth us fr sp).bhd fam fr' sc)
structure SdG(Yt:L2.T->Prop)(ks:List Kd)(sc:Sc)(F H:Nat)(d:Sd):Prop where
 es:d.sc=sc
 hk:d.ho.map (·.1)=sc.map (·.1)
 fl:d.fr.length<=F
 hl:∀p∈d.ho,p.2.length<=H
 fm:∀p∈d.fr,Yt (.t (p.1.map kT))
 hm:∀p∈d.ho,∀k,(p.1,k)∈sc->∀q∈p.2,FK Yt ks q.1 k
theorem zd{i:Nat}{p:Str×bS}:∀{k:Nat},p∈uv i k sc->∃l x,sc[l]?=Z (p.1,x)/\p.2=[([.inr "param",.inl (i:Int),.inl ((k+l:Nat):Int)],1)]:=by
 induction sc with
 |nil=>intro k h;cases h
 |cons y r g =>
  intro k h;obtain rfl|h:=ot.mp h
  ·exact(0,y.2,U,U)
  ·let(l,x,h1,h2):=g h;exact(l+1,x,by simpa using h1,by rw[h2,show k+1+l=k+(l+1)by(first|lia|omega)])
theorem Jl:∀{ho:List (Str×bS)}{p:Str×bS},p∈us.foldl oY ho->∃g∈ho,g.1=p.1/\∀q∈p.2,q∈g.2\/∃u∈us,u.1=p.1/\q=(u.2,-1):=by
 induction us with
 |nil=>intro ho p h;exact(p,h,U,λq hq=>.inl hq)
 |cons u r V =>
  intro ho p h;let(p1,h1,K,h2):=V h;let(g,h0,U):=oG.mp h1;refine(g,h0,?_,λq hq=>?_)
  ·rw[<- K];split <;> rfl
  ·obtain z |⟨v,hv,Q,P⟩:=h2 q hq
   ·split at z
    ·rename_i e;obtain z|z:=nZ.mp z
     ·exact .inl z
     ·refine .inr (u,lD,?_,fy.mp z);rw[<- K,if_pos e];exact e.symm
    ·exact .inl z
   ·exact .inr (v,g5 _ hv,Q,P)
section
variable{Yt:L2.T->Prop}{ks:List Kd}{fs:List Fn}{i F H:Nat}{f:Fn}{os:List (Option Str)}{sc:Sc}{d:Sd}
theorem SdG.root(z:Prog ks fs)(hf:fs[i]?=Z f)(g:UOk Yt ks fs i os):SdG Yt ks f.1.2.1 1 1 (JI i f) where
 es:=rfl
 hk:=vo
 fl:=nY _
 hl:=λp hp=>by let(l,x,_,h):=zd hp;rw[h];exact nY _
 fm:=λp hp=>by rw[fy.mp hp];exact g.fst i f hf
 hm:=λp hp k hk q hq=>by
  let(l,x,h1,h2):=zd hp;rw[h2,Fq]at hq;rw[fy.mp hq];obtain rfl:=gA (z.pk f (mu hf)).2.2.1 hk (mu h1);exact g.par i f l _ hf h1
theorem SdG.wth{us:List (Str×Fam)}{fr:bS}{sp:Int}(g:SdG Yt ks sc F H d)(nd:(sc.map (·.1)).Nodup)(h1:us.length<=4)(h2:fr.length<=1)(h3:∀u∈us,∃k,(u.1,k)∈sc/\FK Yt ks u.2 k)(h4:∀p∈fr,Yt (.t (p.1.map kT))):SdG Yt ks sc (F+1) (H+4) (d.wth us fr sp) where
 es:=g.es
 hk:=kc.trans g.hk
 fl:=by show(d.fr++fr).length<=_;have:=g.fl;rw[iQ];(first|lia|omega)
 hl:=λp hp=>by have:=CJ (us:=us) g.hl p hp;(first|lia|omega)
 fm:=λp hp=>(nZ.mp hp).elim (g.fm p) (h4 p)
 hm:=λp hp k hk q hq=>by
  let(K,m0,V,h0):=Jl hp;obtain z |⟨u,P,Q,rfl⟩:=h0 q hq
  ·exact g.hm K m0 k (by rw[V];exact hk) q z
  ·let(k',h5,h6):=h3 u P;rw[Q]at h5;rw[gA nd hk h5];exact h6
theorem SdG.bhd{hs:List Hd}{b b' am:L2.T}{j:Nat}{sc':Sc}{fam:Fam}{fr:bS}(g:SdG Yt ks sc F H d)(nd:(sc.map (·.1)).Nodup)(K:Kid ks hs sc b j b' am sc')(h1:1<=H)(h2:fr.length<=1)(h3:∀p∈sc'.drop sc.length,FK Yt ks fam p.2)(h4:∀p∈fr,Yt (.t (p.1.map kT))):SdG Yt ks sc' (F+1) H (d.bhd fam fr sc') where
 es:=rfl
 hk:=by
  show(d.ho++(sc'.drop d.sc.length).map λp=>(Prod.mk p.1 [Prod.mk fam (1:Int)])).map (·.1)=_
  rw[pz,g.hk,g.es,uk];have ex:=congrArg (List.map (·.1)) K.ext;rw[pz]at ex;exact ex.symm
 fl:=by show(d.fr++fr).length<=_;have:=g.fl;rw[iQ];(first|lia|omega)
 hl:=λp hp=>by
  obtain z|z:=nZ.mp hp
  ·exact g.hl p z
  ·let(q,_,U):=oG.mp z;exact h1
 fm:=λp hp=>(nZ.mp hp).elim (g.fm p) (h4 p)
 hm:=λp hp k hk q hq=>by
  have nn:=K.nd nd;have ex:=K.ext;obtain z|z:=nZ.mp hp
  ·have hx:p.1∈sc.map (·.1):=by rw[<- g.hk];exact oG.mpr (p,z,U)
   let((x,k'),h5,P):=oG.mp hx;have P:x=p.1:=P;subst P;obtain rfl:=gA nn hk (by rw[ex];exact p7 _ h5)
   exact g.hm p z _ h5 q hq
  ·let(r,hr,U):=oG.mp z;rw[g.es]at hr;rw[fy.mp hq];obtain rfl:=gA nn hk (by rw[ex];exact pA _ hr)
   exact h3 r hr
end
theorem BrR.len{fs:List Fn}{i:Nat}{b am:L2.T}(h:BrR fs i n b am fam fr):fr.length<=1:=by
 cases h <;> simp
theorem gG.det{fs:List Fn}(hn:(fs.map (·.1.1)).Nodup){i:Nat}{b t:L2.T}{g:List (Str×Fam)}{fr':bS}{q:Int}(h:gG fs i n b us fr sp)(e:b=t)(h':gG fs i n t g fr' q):us=g/\fr=fr'/\sp=q:=by
 cases h <;> cases h' <;> simp[Lj,Lk,U3,U4]at e
 ·obtain rfl:=e;exact(U,U,U)
 ·let(U,_):=e;exact(U,U,U)
 ·let(U,_):=e;exact(U,U,U)
 ·let(_,U,_):=e;exact(U,U,U)
 ·let(_,U,e,_):=e;obtain rfl:=(Xo λ_ _ z=>L2.T.s.inj z).mp e
  exact(U,U,U)
 ·rename_i P _ _ _ _ _ _ K _;let(_,Q,e,_):=e;obtain rfl:=(Xo λ_ _ z=>L2.T.s.inj z).mp e
  obtain rfl:=rD hn P K Q;exact(U,U,U)
 ·let(U,_):=e;exact(U,U,U)
theorem BrR.det{fs:List Fn}(hn:(fs.map (·.1.1)).Nodup){i:Nat}{b t am:L2.T}{q:Fam}{fr':bS}(h:BrR fs i n b am fam fr)(e:b=t)(h':BrR fs i n t am q fr'):fam=q/\fr=fr':=by
 generalize K:am=P at h'
 cases h <;> cases h' <;> simp at e
 ·exact(U,U)
 ·exact absurd e.1 (by assumption)
 ·exact absurd e.1 (by assumption)
 ·exact absurd e.1.symm (by assumption)
 ·rename_i z _ _ _ _ _ g;obtain rfl:=rD hn z g e.2.1;exact(U,U)
 ·exact absurd e.1.symm (by assumption)
 ·rw[(F4 K).1];exact(U,U)
theorem Std.det{ks:List Kd}{fs:List Fn}(hn:(fs.map (·.1.1)).Nodup){i:Nat}{f:Fn}{L:List Nod}{e V:Nod}{d d':Sd}(h:Std ks fs i f L e d)(ee:e=V)(h':Std ks fs i f L V d'):d=d':=by
 induction h generalizing V d' with
 |root =>
  cases h' with
  |root=>rfl
  |kid=>have:=congrArg Nod.pa ee;simp[rtN,Ez]at this
 |@kid n j e d b am sc us fr fr' sp fam s he _ hU hB ih =>
  cases h' with
  |root=>have:=congrArg Nod.pa ee;simp[rtN,Ez]at this
  |@kid n2 j2 e2 d2 b2 ak q ar aN Wc aA Wd s2 g _ z K =>
   have Q:=congrArg Nod.pa ee;have Q:e.pa ++ [(n,e.b,j)]=e2.pa ++ [(n2,e2.b,j2)]:=Q;have P:=(List.append_inj' Q U).2;have e4:n=n2:=by injection P with P _;exact congrArg Prod.fst P
   subst e4;rw[he]at g;cases g;have e5:am=ak:=congrArg Nod.am ee;have e6:sc=q:=congrArg Nod.sc ee;subst e5 e6;obtain rfl:=ih U s2;let(U,U,U):=hU.det hn U z;let(U,U):=hB.det hn U K;rfl
def C3(C:J)(Yt:L2.T->Prop)(ks:List Kd)(fs:List Fn)(i:Nat)(f:Fn)(L:List Nod)(e:Nod)(S:L2.T):Prop:=∃d,IsS C i S d/\Std ks fs i f L e d/\SdG Yt ks e.sc (1+2*e.pa.length) (1+4*e.pa.length) d
inductive HA(C:J)(ts:List L2.T)(Q:L2.T->Prop):Prop
 |mk(ks:List Kd)(fs:List Fn)(i:Nat)(f:Fn)(L:List Nod)(os:List (Option Str))(Yt:L2.T->Prop)(h1:ts=[tPr ks fs,iN i])(h2:Prog ks fs)(h3:fs[i]?=Z f)(h4:Pre ks (fs.map (·.1)) 0 (rtN f) L)(h5:L.length<=50000)(h6:zu ks L os)(h7:UOk Yt ks fs i os)(h8:∀X:List L2.T,X.length=L.length->(∀(n:Nat)(e:Nod)(S:L2.T),L[n]?=Z e->X[n]?=Z S->C3 C Yt ks fs i f L e S)->Q (.l X))
theorem IsS.im{C:J}{i:Nat}{S:L2.T}{d:Sd}(h:IsS C i S d):S.im=true:=by cases h;rfl
theorem Good.p88{fs:List Fn}{f:Fn}(g:Good ks fs f e):e.pa.length<=92:=by
 let(N,h,_):=g.dp
 (first|lia|omega)
theorem Ef(T:Txt K mg a):bf P w K mg base CX0 5 a.mI a.yY ["program","f"] (spQ K (HA a.aJ)):=by
 refine T.zt.F.okQ fM (λts Q h=>?_) (λ_ _ _ _ _ _ hr=>?_)
 ·let(ks,fs,i,f,L,os,Yt,U,_):=h;rfl
 ·have hu:=bB hr;refine(_,_,((ag (az 2 fM.nd (aO ai))
 (ag (az 3 fM.nd (aK (rn T) hr T.qi (ae (av (av (av (qv 0) ah) (qv 1)) ah) ax)))
 (ag (bF (g:=(Tg.nm 4)) PassesOwn.never U (B3 (i:=3) (pv 3)) (bu 4 fM.nd)
 (ao (aU (bM AG vP (bA _) (aW T.cc T.bE (qv 4)) (Za dG))
 (ao (br (i:=2) (pv 2) (aK (ma T) hr T.ib (ae (qv 0) (ae (qv 1) ax)))))
 (ag (az 5 fM.nd (Zb (aW T.cc T.dv (av (qv 3) (aW T.cc T.bE (qv 4))))))
 (ag (az 6 fM.nd (aK (kr T) hr T.iV (ae (qv 0) (ae (aW T.cc T.bE (qv 4)) (ae (qv 5) (ae (av (qv 2) (aW T.cc T.bE (qv 4))) ax))))))
 (ao (br (i:=2) (pv 2) (aK (oP T) hr T.jU (ae (qv 0) (ae (aW T.cc T.bE (qv 4)) (ae (qv 5) (ae (aW T.cc T.jz (qv 4)) (ae (qv 6) ax)))))))))))))
 (ao (fC (i:=2) (pv 2))))))),λts Q h=>?_)
  let(ks,fs,i,f,L,os,Yt,U,hP,hf,hR,hL,hA,hU,hq):=h;have aS:cw ks (fs.map (·.1)) 0 [rtN f] L:=by have:=cw.cons hR (.nil);rwa [qg]at this
  have a7:=mu hf;have G:=CF hP a7 aS;have SN:=Sy hP a7 aS;have ef:atI (fs.map tF) (i:Int)=Z (tF f):=bQ (by rw[gs,hf];rfl)
  refine(_,U,_,ef,_,U,ks,fs.map (·.1),rtN f,L,U,U,U,hR,hL,?_);refine(λc q=>∃(X:List L2.T)(o4 o5 o6:Sl),q=[.r (tPr ks fs),.r (iN i),.o (.l X),.r (.l (L.map (spN a.aP))),o4,o5,o6]/\X.length=c/\∀(n:Nat)(e:Nod)(S:L2.T),L[n]?=Z e->X[n]?=Z S->C3 a.aJ Yt ks fs i f L e S,([],_,_,_,U,U,λn e S _ h=>by simp at h),?_,?_)
  ·rintro c y q hy ⟨X,o4,o5,o6,rfl,ar,hX⟩
   rw[gs]at hy;let(e,he,U):=gV.mp hy;have ct:=(jS.mp he).1;have a8:X.length<pq:=cP (by(first|lia|omega))
   have cu:L2.T.ims X=true:=kb λt ht=>by
    let(n,hn,U):=sS ht;let(d,hd,_):=hX n _ _ (fZ (by(first|lia|omega))) (fZ hn)
    exact hd.im
   have fin:∀S:L2.T,C3 a.aJ Yt ks fs i f L e S->∀(n:Nat)(z:Nod)(S':L2.T),L[n]?=Z z->(X ++ [S])[n]?=Z S'->C3 a.aJ Yt ks fs i f L z S':=λS hS n z S' h1 h2=>by
    by_cases hn:n<X.length
    ·rw[vr hn]at h2;exact hX n z S' h1 h2
    ·rw[C5 (by(first|lia|omega))]at h2
     have bC:n - X.length=0:=by
      have:=(jS.mp h2).1
      simp at this
      (first|lia|omega)
     rw[bC]at h2;cases h2;rw[show n=c by(first|lia|omega),he]at h1
     cases h1;exact hS
   refine(_,U,U,(by decide),_,U,?_)
   obtain⟨j,hj,_⟩|⟨p,z,cs,j,cq,ak,hK,hc⟩:=aS.from _ rfl c e he
   ·have:e=rtN f:=by
     cases j with
     |zero=>cases hj;rfl
     |succ j=>simp at hj
    subst this;refine(a8,ks,fs,i,f,U,hP,hf,λS hS=>?_)
    exact(_,_,_,_,U,by rw[iQ,ar];rfl,fin S (_,hS,.root,.root hP hf hU))
   ·rw[Fq]at hK;let(a0,wN):=hK.ok j _ hc;let(eb,b9,b0,aT,bb):=e;obtain rfl:b9=iN p:=congrArg Nod.ab a0;have a3:=mu ak;have g':=G z a3;let(m,aN):=SN z a3;have bj:=(jS.mp ak).1;obtain⟨t,ht⟩:∃t,X[p]?=Z t:=(_,fZ (by(first|lia|omega)))
    let(d,hd,hs,hg):=hX p z t ak ht;have bt:p<os.length:=by rw[hA.ln];exact bj
    have ho:os[p]?=Z os[p]:=fZ bt;have hk:=hA.ok p z _ ak ho;let(us,fr,sp,u1,u2,u3):=FG hP hf hU g'.nd aN ho U hk;let(fam,fr',b1,b2,b3):=RF hP hU g'.nd wN ho U hk;let(l1,l2):=u1.len;have p88:=g'.p88;have aA:=hg.wth (sp:=sp) g'.nd l1 l2 u2 u3;have V:=aA.bhd g'.nd wN (by(first|lia|omega)) b1.len b2 b3
    have a1:atI X (p:Int)=Z t:=bQ ht;have a2:atI (L.map (spN a.aP)) (p:Int)=Z (spN a.aP z):=bQ (by rw[gs,ak];rfl)
    have cf:=hg.es;have lim:=g'.lim;have key:d.ho.length=z.sc.length:=by simpa using congrArg Nv hg.hk
    refine(U,(by decide),_,U,_,a2,U,(by decide),_,U,?_)
    refine(aN.im,U,(by decide),_,U,U,(by decide),_,U,_,a1,?_)
    refine(ks,fs,i,p,z.b,t,d,us,fr,sp,U,hP,aN.im,hd,u1,λu hu=>?_,(?_,?_,λq hq=>?_,?_),λS2 bV=>?_)
    ·let(k,h1,_):=u2 u hu;rw[hg.hk];exact oG.mpr (_,h1,U)
    ·rw[hg.hk];exact g'.nd
    ·have:=hg.fl;(first|lia|omega)
    ·have:=hg.hl q hq;(first|lia|omega)
    ·omega
    ·have w1:(d.wth us fr sp).sc=z.sc:=aA.es;refine(a8,U,(by decide),_,U,U,(by decide),_,U,ks,fs,i,p,j,z.b,eb,b0,S2,d.wth us fr sp,bb,fam,fr',U,hP,bV,by rw[w1];exact wN,b1,by rw[w1];exact g'.nd,by rw[w1];exact g'.sk,by rw[w1];exact aA.hk,by rw[w1];(first|lia|omega),by have:=aA.fl;(first|lia|omega),λS3 bI=>?_)
     refine(_,_,_,_,U,by rw[iQ,ar];rfl,fin S3 (_,bI,?_,?_))
     ·rw[a0];exact .kid hs ak wN u1 b1
     ·have ep:aT=z.pa ++ [(p,z.b,j)]:=congrArg Nod.pa a0;show SdG Yt ks bb (1+2*aT.length) (1+4*aT.length) _;rw[ep,iQ];exact(V.es,V.hk,by have:=V.fl;simp;(first|lia|omega),λq hq=>by have:=V.hl q hq;simp;(first|lia|omega),V.fm,V.hm)
  ·rintro q ⟨X,o4,o5,o6,rfl,ar,hX⟩
   rw[dN]at ar;exact hq X ar hX
abbrev Wt:=List (Int×Int)
def enI(p:Int×Int):Key×L2.T:=(.inl p.1,.i p.2)
def plc(kvs:List (List Key×V))(fam:Fam):Int:=match cz kvs fam with|some (.int j)=>j|_=>0
def M5(ws:Wt)(j:Int):Int:=((ws.find? λp=>decide (p.1=j)).map (·.2)).getD 0
def x5(ws:Wt)(j x:Int):Wt:=if(ws.any λp=>decide (p.1=j))=O then ws.map (λp=>if p.1=j then(p.1,x)else p)else ws ++ [(j,x)]
def addW(kvs:List (List Key×V))(ws:Wt)(p:Fam×Int):Wt:=x5 ws (plc kvs p.1) (M5 ws (plc kvs p.1)+p.2)
def nz(p:Int×Int):Bool:=!decide ((L2.T.i p.2).v=(L2.T.i 0).v)
def oO(kvs:List (List Key×V))(ps:bS):Wt:=(ps.foldl (addW kvs) []).filter nz
theorem Cz(x j:Int):decide ((Sum.inl x:Key)=.inl j)=decide (x=j):=by
 by_cases h:x=j
 ·rw[decide_eq_true h,decide_eq_true (congrArg _ h)]
 ·rw[decide_eq_false h,decide_eq_false λz=>h (Sum.inl.inj z)]
theorem LO{ws:Wt}{j x:Int}:ju (ws.map enI) (.inl j) (.i x)=(x5 ws j x).map enI:=by
 unfold ju x5;have e:((ws.map enI).any λp=>decide (p.1=(.inl j:Key)))=ws.any λp=>decide (p.1=j):=by
  rw[WI];exact congrArg (ws.any ·) (funext λp=>Cz p.1 j)
 rw[e]
 split
 ·rw[uk,uk];refine WE λp _=>?_
  show(if(Sum.inl p.1:Key)=.inl j then _ else _)=enI (if p.1=j then(p.1,x)else p)
  by_cases h:p.1=j
  ·rw[if_pos h,if_pos (congrArg _ h)];rfl
  ·rw[if_neg h,if_neg λz=>h (Sum.inl.inj z)]
 ·rw[pz];rfl
theorem M4{ws:Wt}{j:Int}:(cC (ws.map enI) (.inl j)).getD (.i 0)=.i (M5 ws j):=by
 unfold cC M5;rw[List.find?_map];have e:((λp:Key×L2.T=>decide (p.1=.inl j)) ∘ enI)=λp:Int×Int=>decide (p.1=j):=funext λp=>Cz p.1 j
 rw[e];cases ws.find? λp=>decide (p.1=j) <;> rfl
theorem nI{ws:Wt}{j x:Int}:(x5 ws j x).map (·.1)=if(ws.any λp=>decide (p.1=j))=O then ws.map (·.1)else ws.map (·.1) ++ [j]:=by
 unfold x5
 split
 ·rw[uk];exact WE λp _=>by show(if p.1=j then(p.1,x)else p).1=p.1;split <;> rfl
 ·rw[pz];rfl
theorem LP{ws:Wt}{j x:Int}(h:(ws.map (·.1)).Nodup):((x5 ws j x).map (·.1)).Nodup:=by
 rw[nI]
 split
 ·exact h
 ·rename_i z;refine yK.mpr (h,by simp,λa ha b g e=>z ?_)
  rw[fy.mp g]at e;subst e;let(p,hp,e):=oG.mp ha;exact Wg.mpr (p,hp,decide_eq_true e)
theorem Ht{ws:Wt}{j x k:Int}(h:k∈(x5 ws j x).map (·.1)):k=j\/k∈ws.map (·.1):=by
 rw[nI]at h
 split at h
 ·exact .inr h
 ·obtain z|z:=nZ.mp h
  ·exact .inr z
  ·exact .inl (fy.mp z)
theorem Hu{ws:Wt}{j x:Int}:(x5 ws j x).length<=ws.length+1:=by
 have:=congrArg Nv (nI (ws:=ws) (j:=j) (x:=x))
 rw[dN]at this;rw[this]
 split <;> simp
theorem jO{kvs:List (List Key×V)}:∀{ps:bS}{ws:Wt},(ws.map (·.1)).Nodup->((ps.foldl (addW kvs) ws).map (·.1)).Nodup/\(ps.foldl (addW kvs) ws).length<=ws.length+ps.length/\∀k∈(ps.foldl (addW kvs) ws).map (·.1),k∈ws.map (·.1)\/∃p∈ps,k=plc kvs p.1
 |[],ws,h=>(h,nY _,λk hk=>.inl hk)
 |p::r,ws,h=>by
  let(h1,h2,h3):=jO (kvs:=kvs) (ps:=r) (ws:=addW kvs ws p) (LP h)
  have:=Hu (ws:=ws) (j:=plc kvs p.1) (x:=M5 ws (plc kvs p.1)+p.2)
  refine(h1,by rw[qf];unfold addW at h2;show(r.foldl (addW kvs) (addW kvs ws p)).length<=_;unfold addW;(first|lia|omega),λk hk=>?_)
  obtain z |⟨q,hq,e⟩:=h3 k hk
  ·obtain z|z:=Ht z
   ·exact .inr (p,lD,z)
   ·exact .inl z
  ·exact .inr (q,g5 _ hq,e)
theorem CB:∀ws:Wt,L2.T.imk (ws.map enI)=O
 |[]=>rfl
 |p::r=>by show(O&&L2.T.imk (r.map enI))=O;rw[CB r];rfl
theorem gY:∀f:Fam,ml (f.map kT)=Z f
 |[]=>rfl
 |k::r=>by
  have e:(kT k).key=Z k:=by cases k <;> rfl
  show(match(kT k).key,ml (r.map kT)with|some k,Z r=>Z (k::r)|_,_=>Y)=_
  rw[e,gY r]
def tPI(p:Int×Int):L2.T:=.t [.i p.1,.i p.2]
theorem Ck:∀ws:Wt,cn (ws.map tPI)=Z (ws.map enI)
 |[]=>rfl
 |k::r=>by
  show(match(Z (.inl k.1):Option Key),cn (r.map tPI)with|some k',Z r=>Z ((Prod.mk k' (L2.T.i k.2))::r)|_,_=>Y)=_
  rw[Ck r];rfl
theorem Rz{ws:Wt}(h:(ws.map (·.1)).Nodup):cX [] (ws.map enI)=ws.map enI:=by
 rw[mh]
 ·rfl
 ·rw[uk]
  have:(ws.map ((λx:Key×L2.T=>x.1) ∘ enI))=(ws.map (·.1)).map Sum.inl:=by rw[uk];rfl
  rw[this];exact Wy.mpr (h.imp λg z=>g (Sum.inl.inj z))
 ·intro p hp q hq;exact absurd hq x2
inductive Hz(ts:List L2.T)(Q:L2.T->Prop):Prop
 |mk(kvs:List (List Key×V))(A:L2.T)(pr:bS)(h1:ts=[.fz (.dT kvs),A])(h2:(A=.t (pr.map tH1)\/A=.l (pr.map tH1)))(h3:pr.length<=10000)(h4:(∀p∈pr,∃j:Int,cz kvs p.1=Z (.int j)))(h5:∀o vs,Q (.fd o vs ((oO kvs pr).map enI)))
theorem uR(T:Txt K mg a):bf P w K mg base CX0 1 a.mH a.yX ["places","pairs"] (spQ K Hz):=by
 refine T.tE.F.okQ jY (λts Q h=>?_) (λ_ _ _ _ _ _ hr=>?_)
 ·let(kvs,A,pr,U,_):=h;rfl
 ·have hu:=bB hr;refine(_,_,((ag (az 2 jY.nd LI)
 (ag (bF (g:=(Tg.tp [3,4])) PassesOwn.never U (G0 (i:=1) (pv 1)) (dH (bu 3 jY.nd) (bu 4 jY.nd))
 (ao (qQ (i:=2) hu (pv 2) (Za (Ha (IY hr) (qv 0) (qv 3))) (Za (bc (LF hu (qv 2) (Za (Ha (IY hr) (qv 0) (qv 3))) ah) (qv 4))))))
 (ao (qR (i:=2) (aC (pM (aR (cB U) dF (by rfl) T.fq (by kernel_rfl) (ae (Za (cg U (xY (qv 2)) (N':=["place","weight"]) (.own U (.own U .nil)) (Hf (g:=(Tg.tp [0,1])) (λ_ _ _ _ _=>((dH (du 0) (du 1)),(bM Ii z8 (bA _) (qv 1) ah),(aq (af (Zb (qv 0)) (af (Zb (qv 1)) ai)))))))) ax))))))))),λts Q h=>?_)
  let(kvs,A,pr,U,hA,hl,ak,hq):=h;have st:∀c,((pr.take c).foldl (addW kvs) []).length<=10000:=λc=>by
   have:=(jO (kvs:=kvs) (ps:=pr.take c) (ws:=[]) (by simp)).2.1
   rw[qp]at this;simp at this
   (first|lia|omega)
  obtain rfl|rfl:=hA
  all_goals
   refine(λc q=>∃(A:Sl)(o3 V:Sl)(D:List (Key×L2.T)),q=[.r (.fz (.dT kvs)),A,.o (.d D),o3,V]/\D=((pr.take c).foldl (addW kvs) []).map enI,(_,_,_,_,U,U),?_,?_)
   ·rintro c y q z ⟨A,o3,V,D,rfl,rfl⟩
    rw[gs]at z;let((fam,x),hz,U):=gV.mp z;let(j,hj):=ak _ (mu hz);have ej:plc kvs fam=j:=by unfold plc;rw[hj]
    have s0:=st c;refine(_,U,((fam,j),(gY fam,hj),?_));dsimp only[L2.T.key,qC];rw[M4];refine((fam,j),(gY fam,hj),cP (by rw[dN];(first|lia|omega)),CB _,U,_,_,_,_,U,?_)
    rw[ro,hz,Xv,LO,<- ej];rfl
   ·rintro q ⟨A,o3,V,D,rfl,rfl⟩
    rw[dN,rr];let(h1,h2,_):=jO (kvs:=kvs) (ps:=pr) (ws:=[]) (by simp)
    have h2:(pr.foldl (addW kvs) []).length<=10000:=by simp at h2;(first|lia|omega)
    refine(CB _,λo vs=>?_)
    refine(cP (by rw[dN,dN];(first|lia|omega)),λc ys=>ys=(((pr.foldl (addW kvs) []).take c).filter nz).map tPI,U,?_,?_)
    ·rintro c y ys z rfl
     rw[uk,gs]at z;let(p,hp,U):=gV.mp z;have et:(pr.foldl (addW kvs) []).take (c+1)=(pr.foldl (addW kvs) []).take c ++ [p]:=by rw[ro,hp];rfl
     rw[et,List.filter_append,pz];refine(_,U,U,aE (λg=>?_) λg=>?_)
     ·have g:nz p=true:=g;have e:[p].filter nz=[p]:=JU g;rw[e];exact(U,U,U)
     ·have g:¬ nz p=true:=g;have e:[p].filter nz=[]:=Wh g;rw[e];exact(qg _).symm
    ·rintro ys rfl
     rw[dN,dN,rr];refine(aX (λ_=>rfl) _,_,Ck _,?_)
     rw[Rz (List.Nodup.sublist (List.Sublist.map _ List.filter_sublist) h1)];exact(CB _,λo vs=>hq o vs)
def kF(u:Fam):L2.T:=.t (u.map kT)
theorem CN{u v:Fam}(h:kF u=kF v):u=v:=by
 have h:L2.T.t (u.map kT)=.t (v.map kT):=h;injection h with h
 have e:=gY u;rw[h,gY]at e;exact(Option.some.inj e).symm
section
variable{ks:List Kd}{fs:List Fn}{xs:List (Fn×List (Option Str))}
theorem yQ{fam:List L2.T}{k m:Str}(h:m∈ff ks k ks):L2.T.t (fam ++ [.s m])∈mF ks fam k:=oG.mpr (m,h,U)
theorem zQ{i:Nat}{t:L2.T}{p:Str×Str}:∀{k:Nat},sc[l]?=Z p->t∈mF ks [.s "param",iN i,iN (k+l)] p.2->t∈eB ks i k sc:=by
 induction sc generalizing l with
 |nil=>intro k h;simp at h
 |cons y r q =>
  intro k h g;show t∈mF ks [.s "param",iN i,iN k] y.2++eB ks i (k+1) r;cases l with
  |zero=>cases h;exact p7 _ g
  |succ l=>exact pA _ (q (l:=l) (by simpa using h) (by rw[show k+1+l=k+(l+1)by(first|lia|omega)];exact g))
theorem DE{i:Nat}{t:L2.T}:∀{n:Nat},os[l]?=Z o->t∈xF ks i (n+l) o->t∈dS ks i n os:=by
 induction os generalizing l with
 |nil=>intro k h;simp at h
 |cons y r q =>
  intro n h g;show t∈xF ks i n y++dS ks i (n+1) r;cases l with
  |zero=>cases h;exact p7 _ g
  |succ l=>exact pA _ (q (l:=l) (by simpa using h) (by rw[show n+1+l=n+(l+1)by(first|lia|omega)];exact g))
theorem DF{t:L2.T}{x:Fn×List (Option Str)}:∀{xs:List (Fn×List (Option Str))}{i j:Nat},xs[j]?=Z x->t∈kE ks (i+j) x.1 x.2->t∈cT ks i xs:=by
 intro xs
 induction xs with
 |nil=>intro i j h;simp at h
 |cons y r q =>
  intro i j h g;show t∈kE ks i y.1 y.2++cT ks (i+1) r;cases j with
  |zero=>cases h;exact p7 _ g
  |succ j=>exact pA _ (q (j:=j) (by simpa using h) (by rw[show i+1+j=i+(j+1)by(first|lia|omega)];exact g))
theorem UOk.of(K:Unk ks fs xs){i:Nat}{x:Fn×List (Option Str)}(hx:xs[i]?=Z x):UOk (· ∈ cT ks 0 xs) ks fs i x.2:=by
 have at_:∀{j:Nat}{g:Fn},fs[j]?=Z g->∃os,xs[j]?=Z (g,os):=λ{j g} h=>by
  have:=congrArg (·[j]?) K.fn
  simp only[gs,h]at this;let(y,q,e):=gV.mp this;exact(y.2,by rw[q,<- e])
 have go:∀{t:L2.T}{j:Nat}{g:Fn}{os:List (Option Str)},xs[j]?=Z (g,os)->t∈kE ks j g os->t∈cT ks 0 xs:=λ{t j g os} h z=>DF (j:=j) h (by rw[Fq];exact z)
 refine(λj g k p h1 h2 m hm=>?_,λj g h1=>?_,λj g h1=>?_,λj g h1 m hm=>?_,λn k h1 m hm=>?_)
 ·let(os,h3):=at_ h1;refine go h3 ?_;unfold kE;refine p7 _ (p7 _ (p7 _ (p7 _ (zQ (k:=0) h2 ?_))));rw[Fq];exact yQ hm
 ·let(os,h3):=at_ h1;refine go h3 ?_;unfold kE;exact p7 _ (p7 _ (p7 _ (pA _ (fy.mpr U))))
 ·let(os,h3):=at_ h1;refine go h3 ?_;unfold kE;exact p7 _ (pA _ (fy.mpr U))
 ·let(os,h3):=at_ h1;refine go h3 ?_;unfold kE;exact p7 _ (p7 _ (pA _ (yQ hm)))
 ·refine go (g:=x.1) (os:=x.2) hx ?_;unfold kE;refine pA _ (DE (n:=0) h1 ?_);rw[Fq];exact oG.mpr (m,hm,U)
theorem KH:∃us:List Fam,cT ks 0 xs=us.map kF/\∀u∈us,u.length<=10:=by
 have lift:∀l:List L2.T,(∀t∈l,∃u,t=kF u/\u.length<=10)->∃us:List Fam,l=us.map kF/\∀u∈us,u.length<=10:=by
  intro l
  induction l with
  |nil=>intro _;exact([],U,λ_ z=>nomatch z)
  |cons t r q =>
   intro h;let(u,U,P):=h t lD;let(us,U,K):=q λt g=>h t (g5 _ g)
   exact(u::us,U,λv hv=>(ot.mp hv).elim (λe=>e▸P) (K v))
 have fam:∀(fm:Fam)(k:Str),fm.length<=9->∀t∈mF ks (fm.map kT) k,∃u,t=kF u/\u.length<=10:=λfm k h9 t g=>by
  let(m,_,U):=oG.mp g;exact(fm ++ [.inr m],by unfold kF;rw[pz];rfl,by rw[iQ];simp;(first|lia|omega))
 have par:∀(sc:Sc)(i k:Nat),∀t∈eB ks i k sc,∃u,t=kF u/\u.length<=10:=by
  intro sc
  induction sc with
  |nil=>intro i k t g;cases g
  |cons p r q =>
   intro i k t g;obtain z|z:=nZ.mp g
   ·exact fam [.inr "param",.inl i,.inl k] p.2 (by show 3<=9;decide) t z
   ·exact q i (k+1) t z
 have ps:∀(os:List (Option Str))(i n:Nat),∀t∈dS ks i n os,∃u,t=kF u/\u.length<=10:=by
  intro os
  induction os with
  |nil=>intro i k t g;cases g
  |cons o r q =>
   intro i n t g;obtain z|z:=nZ.mp g
   ·cases o with
    |none=>cases z
    |some k=>exact fam (pcF i n) k (by show 3<=9;decide) t z
   ·exact q i (n+1) t z
 have all:∀(xs:List (Fn×List (Option Str)))(i:Nat),∀t∈cT ks i xs,∃u,t=kF u/\u.length<=10:=by
  intro xs
  induction xs with
  |nil=>intro i t g;cases g
  |cons x r q =>
   intro i t g;obtain z|z:=nZ.mp g
   ·unfold kE at z;obtain z|z:=nZ.mp z
    ·obtain z|z:=nZ.mp z
     ·obtain z|z:=nZ.mp z
      ·obtain z|z:=nZ.mp z
       ·exact par _ _ _ t z
       ·exact([.inr "first",.inl i],fy.mp z,by show 2<=10;decide)
      ·exact fam [.inr "result",.inl i] _ (by show 2<=9;decide) t z
     ·exact([.inr "last",.inl i],fy.mp z,by show 2<=10;decide)
    ·exact ps _ _ _ t z
   ·exact q (i+1) t z
 exact lift _ (all xs 0)
end
def fX:Nat->List Fam->List (List Key×V)
 |_,[]=>[]
 |k,u::r=>(u,.int k)::fX (k+1) r
def plD(us:List Fam):List (List Key×V):=gh [] (fX 0 us)
theorem Bp{us:List Fam}{u:Fam}:∀{k:Nat},fX k (us ++ [u])=fX k us ++ [(u,.int ((k+us.length:Nat):Int))]:=by
 induction us with
 |nil=>intro k;rfl
 |cons v r g=>intro k;show _::fX (k+1) (r ++ [u])=_::_;rw[g,qf,show k+1+r.length=k+(r.length+1)by(first|lia|omega)];rfl
theorem uT{R:V->Prop}{u:List Key}:∀{more kvs:List (List Key×V)},(∀p∈more,R p.2)->((∃v,cz kvs u=Z v/\R v)\/u∈more.map (·.1))->∃v,cz (gh kvs more) u=Z v/\R v
 |[],kvs,_,h=>by
  obtain h|h:=h
  ·exact h
  ·cases h
 |p::r,kvs,g,h=>by
  show ∃v,cz (gh (putK kvs p.1 p.2) r) u=Z v/\R v
  refine uT (λq hq=>g q (g5 _ hq)) ?_
  rw[FF];by_cases e:u=p.1
  ·rw[if_pos e];exact .inl (_,U,g p lD)
  ·rw[if_neg e];obtain h|h:=h
   ·exact .inl h
   ·obtain z|z:=ot.mp h
    ·exact absurd z e
    ·exact .inr z
theorem EM{us:List Fam}:∀{k:Nat},∀p∈fX k us,∃j:Nat,p.2=.int j/\j<k+us.length:=by
 induction us with
 |nil=>intro k p hp;cases hp
 |cons u r g =>
  intro k p hp;obtain rfl|hp:=ot.mp hp
  ·exact(k,U,by rw[qf];(first|lia|omega))
  ·let(j,h1,h2):=g p hp;exact(j,h1,by rw[qf];(first|lia|omega))
theorem Bq{us:List Fam}:∀{k:Nat},(fX k us).map (·.1)=us:=by
 induction us with
 |nil=>intro k;rfl
 |cons u r g=>intro k;show u ::(fX (k+1) r).map (·.1)=_;rw[g]
theorem Tp{us:List Fam}{u:Fam}(h:kF u∈us.map kF):∃j:Nat,cz (plD us) u=Z (.int j)/\j<us.length:=by
 let(v,hv,e):=oG.mp h;obtain rfl:=CN e;let(x,h1,j,h2,h3):=uT (R:=λx=>∃j:Nat,x=.int j/\j<us.length) (u:=v) (more:=fX 0 us) (kvs:=[]) (λp hp=>by let(j,a,b):=EM p hp;exact(j,a,by(first|lia|omega))) (.inr (by rw[Bq];exact hv))
 rw[h2]at h1;exact(j,h1,h3)
theorem yf{us:List Fam}:∀{k:Nat},j8 ((fX k us).map λp=>.t [.t (p.1.map kT),match p.2 with|.int x=>.i x|_=>.n])=Z (fX k us):=by
 induction us with
 |nil=>intro k;rfl
 |cons u r g =>
  intro k;have e:yh (.t [.t (u.map kT),.i (k:Int)])=Z (u,.int k):=by
   show(ml (u.map kT)).map _=_;rw[gY];rfl
  show(match yh (.t [.t (u.map kT),.i (k:Int)]),j8 ((fX (k+1) r).map _)with|some p,Z ps=>Z (p::ps)|_,_=>Y)=_
  rw[e,g];rfl
structure Row where
 nm:List L2.T
 ws:Wt
 sp:Int
inductive IsR(N:Nat):L2.T->Row->Prop
 |mk{r:Row}{o:Obj}{vs:List (Key×V)}:(∀p∈r.ws,∃j:Nat,p.1=(j:Int)/\j<N)->L2.T.ims r.nm=O->r.ws.length<=10000->IsR N (.t [.t r.nm,.fd o vs (r.ws.map enI),.i r.sp]) r
structure Rws(N:Nat)(ys:List L2.T)(rs:List Row):Prop where
 ln:ys.length=rs.length
 ok:∀(i:Nat)(y:L2.T)(r:Row),ys[i]?=Z y->rs[i]?=Z r->IsR N y r
theorem Rws.nil:Rws N [] []:=(U,λi y r h=>by simp at h)
variable{rs:List Row}
theorem Rws.app{ys g:List L2.T}{q:List Row}(h:Rws N ys rs)(h':Rws N g q):Rws N (ys++g) (rs++q):=by
 refine(by rw[iQ,iQ,h.ln,h'.ln],λi y r h1 h2=>?_)
 by_cases hi:i<ys.length
 ·rw[vr hi]at h1;rw[vr (by rw[<- h.ln];exact hi)]at h2
  exact h.ok i y r h1 h2
 ·rw[C5 (by(first|lia|omega))]at h1
  rw[C5 (by rw[<- h.ln];(first|lia|omega)),<- h.ln]at h2
  exact h'.ok _ y r h1 h2
theorem Rws.one{y:L2.T}{r:Row}(h:IsR N y r):Rws N [y] [r]:=(U,λi g q h1 h2=>by
 cases i with
 |zero=>cases h1;cases h2;exact h
 |succ i=>simp at h1)
def Be(ho:List (Str×bS))(x:Str):bS:=((ho.find? λp=>decide (p.1=x)).map (·.2)).getD []
theorem EE{p:Str×bS}(h:(ho.map (·.1)).Nodup)(hp:p∈ho):Be ho p.1=p.2:=by
 unfold Be
 induction ho with
 |nil=>cases hp
 |cons q r g =>
  have h':=u6.mp h;rw[Ny];obtain rfl|z:=ot.mp hp
  ·rw[decide_eq_true rfl];rfl
  ·have e:q.1≠p.1:=λe=>h'.1 (oG.mpr (p,z,e.symm))
   rw[decide_eq_false e];exact g h'.2 z
def DD(kvs:List (List Key×V))(i n:Nat)(ho:List (Str×bS))(x m:Str):Row:=([.s "use",iN i,iN n,.s x,.s m],oO kvs ((Be ho x).map λq=>(q.1 ++ [.inr m],q.2)),0)
noncomputable def lI(ks:List Kd)(kvs:List (List Key×V))(i n:Nat)(ho:List (Str×bS))(sc:Sc):List Row:=sc.flatMap λp=>(ff ks p.2 ks).map (DD kvs i n ho p.1)
theorem uC(g:cF ks){i:Nat}:(lI ks kvs i n ho sc).length<=36*sc.length:=mD sc λp _=>by
 rw[dN]
 have:=g.wl (k:=p.2) (xs:=ks) λ_ h=>h
 have:=g.k2
 (first|lia|omega)
def Nu(N:Nat)(kvs:List (List Key×V))(u:Fam):Prop:=∃j:Nat,cz kvs u=Z (.int j)/\j<N/\u.length<=10
theorem BQ{ps:bS}(h:∀p∈ps,Nu N kvs p.1):∀p∈oO kvs ps,∃j:Nat,p.1=(j:Int)/\j<N:=λp hp=>by
 have hp:=(XQ.mp hp).1;let(_,_,h3):=jO (kvs:=kvs) (ps:=ps) (ws:=[]) (by simp)
 obtain z |⟨q,hq,e⟩:=h3 p.1 (oG.mpr (p,hp,rfl))
 ·cases z
 ·let(j,h1,h2,_):=h q hq;exact(j,by rw[e];unfold plc;rw[h1],h2)
theorem xH{ps:bS}(h:ps.length<=10000):(oO kvs ps).length<=10000:=by
 have h2:=(jO (kvs:=kvs) (ps:=ps) (ws:=[]) (by simp)).2.1
 have h3:=XT nz (ps.foldl (addW kvs) []);unfold oO;simp at h2
 (first|lia|omega)
inductive DZ(C:J)(ts:List L2.T)(Q:L2.T->Prop):Prop
 |mk(ks:List Kd)(fs:List Fn)(i n N:Nat)(kvs:List (List Key×V))(S:L2.T)(d:Sd)(h1:ts=[tPr ks fs,iN n,.fz (.dT kvs),S])(h2:Prog ks fs)(h3:IsS C i S d)(h4:(d.sc.map (·.1)).Nodup)(h5:d.ho.map (·.1)=d.sc.map (·.1))(h6:d.sc.length<=372)(h7:(∀p∈d.ho,p.2.length<=5000))(h8:(∀p∈d.ho,∀k,(p.1,k)∈d.sc->∀q∈p.2,∀m∈ff ks k ks,Nu N kvs (q.1 ++ [.inr m])))(h9:∀ys,Rws N ys (lI ks kvs i n d.ho d.sc)->Q (.l ys))
theorem yl(T:Txt K mg a):bf P w K mg base CX0 4 a.iH a.sv ["program","n","places","stand"] (spQ K (DZ a.aJ)):=by
 refine T.tD.F.okQ dJ (λts Q h=>?_) (λ_ _ _ _ _ _ hr=>?_)
 ·let(ks,fs,i,n,N,kvs,S,d,U,_):=h;rfl
 ·have hu:=bB hr;refine(_,_,((ag (az 4 dJ.nd (aO ai))
 (ag (bF (g:=(Tg.tp [5,6])) PassesOwn.never U (G5 (aW T.a8 T.cW (qv 3))) (dH (bu 5 dJ.nd) (bu 6 dJ.nd))
 (ao (bF (g:=(Tg.nm 7)) PassesOwn.never U (jq (aK (uQ T) hr T.tw (ae (av (qv 0) ah) (ae (qv 6) ax)))) (bu 7 dJ.nd)
 (ag (j6 (i:=8) dJ.nd U (Or.inl U) U (kQ (fF (aW T.a8 T.cN (qv 3)) (qv 5))) (N':=["family","times","maker"]) (.own U (.own U (.got (i:=7) U U (.inl U) .nil))) (cm (g:=(Tg.tp [0,1])) (λ_ _ _ _ _=>((dH (du 0) (du 1)),(aq (af (bc (qv 0) (Za (aq (af (Zb (qv 2)) ai)))) (af (Zb (qv 1)) ai)))))))
 (ao (br (i:=4) (pv 4) (aq (af (aq (af aH (af (Zb (aW T.a8 T.dI (qv 3))) (af (Zb (qv 1)) (af (Zb (qv 5)) (af (Zb (qv 7)) ai)))))) (af (aK (uR T) hr T.tE (ae (qv 2) (ae (qv 8) ax))) (af bp ai))))))))))
 (ao (fC (i:=4) (pv 4)))))),λts Q h=>?_)
  let(ks,fs,i,n,N,kvs,S,d,U,hP,hS,nd,hk,bj,bb,a0,hq):=h;have gk:=hP.gk;cases hS with
  |@mk _ o1 o2 v1 v2 =>
   refine(U,(by decide),_,U,?_)
   refine(λc q=>∃(X:List L2.T)(o5 o6 o7 o8:Sl),q=[.r (tPr ks fs),.r (iN n),.r (.fz (.dT kvs)),.r (.ob a.aJ ["f","free","spent","kinds","holdings"] [iN i,tHo d.fr,.i d.sp,.fd o1 v1 (d.sc.map enP),.fd o2 v2 (d.ho.map enH)]),.o (.l X),o5,o6,o7,o8]/\Rws N X (lI ks kvs i n d.ho (d.sc.take c)),([],_,_,_,_,U,.nil),?_,?_)
   ·rintro c y q hy ⟨X,o5,o6,o7,o8,rfl,z⟩
    rw[uk,gs]at hy;let((x,k),hz,U):=gV.mp hy;have hm:=mu hz;have aT:x∈d.ho.map (·.1):=by rw[hk];exact oG.mpr (_,hm,U)
    let((x',h),hp,e):=oG.mp aT;have e:x'=x:=e;subst e;have a3:=mj (f:=λp:Str×bS=>p.1) (g:=λp=>tHo p.2) (by rw[hk];exact nd) hp
    have a7:=EE (by rw[hk];exact nd) hp
    have V:=bb _ hp;have ar:=a0 _ hp k hm;have ez:lI ks kvs i n d.ho (d.sc.take (c+1))=lI ks kvs i n d.ho (d.sc.take c)++(ff ks k ks).map (DD kvs i n d.ho x'):=by
     unfold lI;rw[ro,hz,List.flatMap_append];exact congrArg _ (qg _)
    have wl:=gk.wl (k:=k) (xs:=ks) λ_ h=>h
    have k6:=gk.k2;have ul:=uC gk (kvs:=kvs) (i:=i) (n:=n) (ho:=d.ho) (sc:=d.sc.take c);rw[qp]at ul;refine(_,U,_,U,ks,k,U,gk,?_);refine(λj q=>∃(X:List L2.T)(o7 o8:Sl),q=[.r (tPr ks fs),.r (iN n),.r (.fz (.dT kvs)),.r (.ob a.aJ ["f","free","spent","kinds","holdings"] [iN i,tHo d.fr,.i d.sp,.fd o1 v1 (d.sc.map enP),.fd o2 v2 (d.ho.map enH)]),.o (.l X),.r (.s x'),.r (.s k),o7,o8]/\Rws N X (lI ks kvs i n d.ho (d.sc.take c)++((ff ks k ks).take j).map (DD kvs i n d.ho x')),(X,_,_,U,by rw[X3,List.map_nil,qg];exact z),?_,?_)
    ·rintro j y q hy ⟨X,o7,o8,rfl,z⟩
     rw[gs]at hy;let(m,aS,U):=gV.mp hy;have aN:=mu aS;have bt:X.length<=15000:=by
      have:=z.ln
      rw[iQ,dN,qp]at this
      (first|lia|omega)
     refine(_,U,U,(by decide),_,U,?_)
     simp only[lU,L2.T.dof];refine(_,a3,?_);refine(bx (by rw[dN];show _<=10000;(first|lia|omega)),λc ys=>ys=((h.take c).map λq=>(q.1 ++ [(.inr m:Key)],q.2)).map tH1,U,?_,?_)
     ·rintro c' y ys hy rfl
      rw[gs]at hy;let((fam,tm),aP,U):=gV.mp hy;let(_,_,_,h10):=ar _ (mu aP) m aN;have h10:fam.length+1<=10:=by simpa using h10
      refine(_,U,U,bx (by rw[dN];show fam.length+1<=10000;(first|lia|omega)),la _,U,U,?_)
      rw[ro,aP,pz,pz];show _ ++ [L2.T.t [.t (fam.map kT ++ [.s m]),.i tm]]=_ ++ [L2.T.t [.t ((fam ++ [(.inr m:Key)]).map kT),.i tm]];rw[pz];rfl
     ·rintro ys rfl
      rw[dN,rr];refine(cP (by(first|lia|omega)),?_)
      have VC:∀p∈oO kvs ((h.map λq=>(q.1 ++ [(.inr m:Key)],q.2))),∃j:Nat,p.1=(j:Int)/\j<N:=BQ λp aA=>by
       let(q,ak,U):=oG.mp aA;exact ar q ak m aN
      refine(U,(by decide),_,U,U,U,U,U,kvs,_,h.map λq=>(q.1 ++ [(.inr m:Key)],q.2),U,.inr U,by rw[dN];have V:h.length<=5000:=V;(first|lia|omega),λp aA=>?_,λo vs=>?_)
      ·let(q,ak,U):=oG.mp aA;let(jj,h1,_):=ar q ak m aN;exact(_,h1)
      ·have hR:IsR N (.t [.t [.s "use",iN i,iN n,.s x',.s m],.fd o vs ((oO kvs (h.map λq=>(q.1 ++ [(.inr m:Key)],q.2))).map enI),.i 0]) (DD kvs i n d.ho x' m):=by
        have:=@IsR.mk N (DD kvs i n d.ho x' m) o vs
        unfold DD at this ⊢;rw[a7]at this ⊢;exact this VC U (xH (by rw[dN];have V:h.length<=5000:=V;(first|lia|omega)))
       refine(_,_,_,U,?_);rw[ro,aS,pz,<- u4];exact z.app (.one hR)
    ·rintro q ⟨X,o7,o8,rfl,z⟩
     rw[dN,rr,<- ez]at z;exact(X,_,_,_,_,U,z)
   ·rintro q ⟨X,o5,o6,o7,o8,rfl,z⟩
    rw[dN,dN,rr]at z;exact hq X z
noncomputable def sdW(ks:List Kd)(fs:List Fn)(i:Nat)(f:Fn)(L:List Nod)(n:Nat)(e:Nod):Sd:=open Classical in if h:∃d g us fr sp,Std ks fs i f L e g/\gG fs i n e.b us fr sp/\d=g.wth us fr sp then h.choose else JI i f
variable{d:Sd}
theorem Pk{fs:List Fn}{i:Nat}{f:Fn}(hn:(fs.map (·.1.1)).Nodup)(h1:Std ks fs i f L e d)(h2:gG fs i n e.b us fr sp):sdW ks fs i f L n e=d.wth us fr sp:=by
 unfold sdW;have h:∃d g us fr sp,Std ks fs i f L e g/\gG fs i n e.b us fr sp/\d=g.wth us fr sp:=(_,d,us,fr,sp,h1,h2,U)
 rw[dif_pos h];let(d1,q,K,z,a1,a2,P):=h.choose_spec;rw[P];obtain rfl:=a1.det hn U h1;let(U,U,U):=a2.det hn U h2;rfl
def wrd:L2.T->Str
 |.t (.s w::_)=>w
 |_=>""
def PAY:List Str:=["make","call","pay","give"]
noncomputable def chunk(ks:List Kd)(kvs:List (List Key×V))(i n:Nat)(w:Str)(d:Sd):List Row:=if w∈PAY then([.s "purse",iN i,iN n],oO kvs d.fr,d.sp) ::(if w="give" then lI ks kvs i n d.ho d.sc else [])else []
noncomputable def oX(ks:List Kd)(fs:List Fn)(kvs:List (List Key×V))(i:Nat)(f:Fn)(L:List Nod):Nat->List Nod->List Row
 |_,[]=>[]
 |n,e::r=>chunk ks kvs i n (wrd e.b) (sdW ks fs i f L n e)++oX ks fs kvs i f L (n+1) r
theorem EH{fs:List Fn}{i:Nat}{f:Fn}{es:List Nod}:∀{n:Nat},oX ks fs kvs i f L n (es ++ [e])=oX ks fs kvs i f L n es++chunk ks kvs i (n+es.length) (wrd e.b) (sdW ks fs i f L (n+es.length) e):=by
 induction es with
 |nil=>intro n;show _ ++ []=[]++_;rw[qg];rfl
 |cons q r g=>intro n;show _++oX ks fs kvs i f L (n+1) (r ++ [e])=(_++_)++_;rw[g,u4,qf,show n+1+r.length=n+(r.length+1)by(first|lia|omega)]
noncomputable def cy(ks:List Kd)(fs:List Fn)(kvs:List (List Key×V)):Nat->List (Fn×List Nod)->List Row
 |_,[]=>[]
 |i,z::r=>oX ks fs kvs i z.1 z.2 0 z.2++cy ks fs kvs (i+1) r
theorem By{fs:List Fn}{zs:List (Fn×List Nod)}{z:Fn×List Nod}:∀{i:Nat},cy ks fs kvs i (zs ++ [z])=cy ks fs kvs i zs++oX ks fs kvs (i+zs.length) z.1 z.2 0 z.2:=by
 induction zs with
 |nil=>intro n;show _ ++ []=[]++_;rw[qg];rfl
 |cons q r g=>intro n;show _++cy ks fs kvs (n+1) (r ++ [z])=(_++_)++_;rw[g,u4,qf,show n+1+r.length=n+(r.length+1)by(first|lia|omega)]
structure Nds(ks:List Kd)(fs:List Fn)(xs:List (Fn×List (Option Str)))(zs:List (Fn×List Nod)):Prop where
 fn:zs.map (·.1)=fs
 ok:∀(i:Nat)(x:Fn×List (Option Str))(z:Fn×List Nod),xs[i]?=Z x->zs[i]?=Z z->Pre ks (fs.map (·.1)) 0 (rtN z.1) z.2/\z.2.length<=100/\zu ks z.2 x.2
theorem IC(h:n<=12000000):n<pq:=V8 h (by decide)
def tPV(p:List Key×V):L2.T:=.t [.t (p.1.map kT),match p.2 with|.int x=>.i x|_=>.n]
theorem Snd.wrd{b:L2.T}(S:Snd ks hs r m sc b):∃w l,b=.t (.s w::l):=by
 cases S <;> exact(_,_,U)
inductive Qb(ts:List L2.T)(Q:L2.T->Prop):Prop
 |mk(ks:List Kd)(fs:List Fn)(xs:List (Fn×List (Option Str)))(zs:List (Fn×List Nod))(us:List Fam)(h1:ts=[tPr ks fs])(h2:Prog ks fs)(h3:Unk ks fs xs)(h4:Nds ks fs xs zs)(h5:cT ks 0 xs=us.map kF)(h6:(∀u∈us,u.length<=10))(h7:∀ys,Rws us.length ys (cy ks fs (plD us) 0 zs)->ys.length<=12000000->Q (.l ys))
theorem Mx(T:Txt K mg a):bf P w K mg base CX0 8 a.wX a.Jx ["program"] (spQ K Qb):=by
 refine T.J6.F.okQ fB (λts Q h=>?_) (λ_ _ _ _ _ _ hr=>?_)
 ·let(ks,fs,xs,zs,us,U,_):=h;rfl
 ·have hu:=bB hr;refine(_,_,((ag (az 1 fB.nd (Hc (IY hr) T.fq (cg U (G7 U T.bC (by kernel_rfl) (ae (Za (aK (jy T) hr T.iU (ae (qv 0) ax))) ax)) (N':=["place","unknown"]) (.own U (.own U .nil)) (cm (g:=(Tg.tp [0,1])) (λ_ _ _ _ _=>((dH (du 0) (du 1)),(aq (af (Zb (qv 1)) (af (Zb (qv 0)) ai)))))))))
 (ag (az 2 fB.nd (aO ai))
 (ag (bF (g:=(Tg.tp [3,4])) PassesOwn.never U (pK U T.bC (by kernel_rfl) (ae (av (qv 0) ah) ax)) (dH (bu 3 fB.nd) (bu 4 fB.nd))
 (ag (az 5 fB.nd (aK (uS T) hr T.tJ (ae (av (qv 4) ah) ax)))
 (ao (bF (g:=(Tg.tp [6,7])) PassesOwn.never U (qS T.bC (aK (Ef T) hr T.zt (ae (qv 0) (ae (qv 3) ax)))) (dH (bu 6 fB.nd) (bu 7 fB.nd))
 (ao (aU (bM (wy U) qG U (av (av (qv 5) (qv 6)) ah) (Za (Hb U T.JH T.Hg)))
 (ag (az 8 fB.nd (aK (kr T) hr T.iV (ae (qv 0) (ae (qv 6) (ae (av (qv 5) (qv 6)) (ae (qv 7) ax))))))
 (ag (br (i:=2) (pv 2) (aq (af (aq (af aH (af (Zb (qv 3)) (af (Zb (qv 6)) ai)))) (af (aK (uR T) hr T.tE (ae (qv 1) (ae (aW T.a8 T.eT (qv 8)) ax))) (af (Zb (aW T.a8 T.dY (qv 8))) ai)))))
 (ao (aU (bw hu (av (av (qv 5) (qv 6)) ah) (Za aH))
 (ao (c7 (i:=2) (pv 2) (aK (yl T) hr T.tD (ae (qv 0) (ae (qv 6) (ae (qv 1) (ae (qv 8) ax)))))))
 aB))))
 aB))))))
 (ao (fC (i:=2) (pv 2))))))),λts Q h=>?_)
  let(ks,fs,xs,zs,us,U,hP,hU,hN,a3,VA,hq):=h;have l8:=hP.l8;have lx:xs.length=fs.length:=by rw[<- hU.fn,dN]
  have lz:zs.length=fs.length:=by rw[<- hN.fn,dN]
  have lim:∀x∈xs,x.1.1.2.1.length<=4/\x.2.length<=50000:=λx hx=>by
   let(L,_,h5,hA):=hU.ok x hx
   have:x.1∈fs:=by rw[<- hU.fn];exact oG.mpr (x,hx,U)
   exact((hP.pk _ this).1,by rw[hA.ln];exact h5)
  have lus:us.length<=14500000:=by
   have:=nj hP.gk lim (i:=0)
   rw[a3,dN]at this
   (first|lia|omega)
  have PL:∀{u:Fam},kF u∈cT ks 0 xs->Nu us.length (plD us) u:=λ{u} h=>by
   rw[a3]at h;let(j,h1,h2):=Tp h;let(v,hv,e):=oG.mp h;obtain rfl:=CN e;exact(j,h1,h2,VA v hv)
  refine(ks,fs,xs,U,hP,hU,?_);rw[a3];refine(iD (by rw[aZ,dN];(first|lia|omega)),λc ys=>ys=(fX 0 (us.take c)).map tPV,U,?_,?_)
  ·rintro c y ys hy rfl
   let(z,hz,U):=cb hy;rw[gs]at hz;let(u,bE,U):=gV.mp hz;have ct:=(jS.mp bE).1;refine(_,U,la u,U,?_);rw[ro,bE];show _=(fX 0 (us.take c ++ [u])).map tPV;rw[Bp,pz,qp,Nx (by(first|lia|omega)),Fq]
   rfl
  ·rintro ys rfl
   rw[aZ,dN,rr];refine(fX 0 us,yf,?_);refine(_,U,A9 λf hf=>(hP.sn f hf).1.im,λc q=>∃(X:List L2.T)(o3 o4 o5 o6 o7 o8:Sl),q=[.r (tPr ks fs),.o (.fz (.dT (plD us))),.o (.l X),o3,o4,o5,o6,o7,o8]/\Rws us.length X (cy ks fs (plD us) 0 (zs.take c))/\X.length<=1340000*c,([],_,_,_,_,_,_,U,.nil,wh _),?_,?_)
   ·rintro c y q hy ⟨X,o3,o4,o5,o6,o7,o8,rfl,hX,aP⟩
    let(z,hz,U):=cb hy;rw[gs]at hz;let(f,hf,U):=gV.mp hz;have ct:=(jS.mp hf).1;have aN:=mu hf;have bt:xs[c]?=Z xs[c]:=fZ (by(first|lia|omega))
    have aS:zs[c]?=Z zs[c]:=fZ (by(first|lia|omega))
    have ez:zs[c].1=f:=by
     have:=congrArg (·[c]?) hN.fn
     simp only[gs,aS,hf]at this;exact Option.some.inj this
    let(hR,hL,hA):=hN.ok c _ _ bt aS;have b9:=UOk.of hU bt
    generalize cG:zs[c].2=L at hR hL hA
    rw[ez]at hR;have cf:cw ks (fs.map (·.1)) 0 [rtN f] L:=by have:=cw.cons hR (.nil);rwa [qg]at this
    have G:=CF hP aN cf;have SN:=Sy hP aN cf;have cN:cy ks fs (plD us) 0 (zs.take (c+1))=cy ks fs (plD us) 0 (zs.take c)++oX ks fs (plD us) c f L 0 L:=by
     rw[ro,aS];show cy ks fs (plD us) 0 (zs.take c ++ [zs[c]])=_;rw[By,qp,Nx (by(first|lia|omega)),Fq,ez,cG]
    refine(_,U,_,U,ks,fs.map (·.1),rtN f,L,U,U,U,hR,by(first|lia|omega),?_)
    refine(ks,fs,c,f,L,_,_,U,hP,hf,hR,by(first|lia|omega),hA,b9,λYw b0 hY=>?_)
    refine(λn q=>∃(X:List L2.T)(o6 o7 o8:Sl),q=[.r (tPr ks fs),.o (.fz (.dT (plD us))),.o (.l X),.r (iN c),.r (tF f),.o (.l (L.map (·.b))),o6,o7,o8]/\Rws us.length X (cy ks fs (plD us) 0 (zs.take c)++oX ks fs (plD us) c f L 0 (L.take n))/\X.length<=1340000*c+13394*n,(X,_,_,_,U,by rw[X3];show Rws _ _ (_ ++ []);rw[qg];exact hX,by(first|lia|omega)),?_,?_)
    ·rintro n y q hy ⟨X,o6,o7,o8,rfl,hX,aP⟩
     let(S,hS,U):=cb hy;have bI:n<L.length:=by have:=(jS.mp hS).1;(first|lia|omega)
     have he:L[n]?=Z L[n]:=fZ bI
     generalize L[n]=e at he
     have bV:=mu he;have g:=G e bV;let(m,bb):=SN e bV;let(d,hd,hs,hg):=hY n e S he hS;have ho:xs[c].2[n]?=Z (xs[c].2[n]'(by rw[hA.ln];exact bI)):=fZ _
     have hk:=hA.ok n e _ he ho;let(ak,fr,sp,u1,u2,u3):=FG hP hf b9 g.nd bb ho U hk;let(l1,l2):=u1.len;have p88:=g.p88;have ar:=hg.wth (sp:=sp) g.nd l1 l2 u2 u3;have cI:=Pk hP.hn hs u1;let(wd,l,eb):=bb.wrd;have cH:wrd e.b=wd:=by rw[eb];rfl
     have ab:atI (L.map (·.b)) (n:Int)=Z e.b:=bQ (by rw[gs,he];rfl)
     have a0:atI (L2.T.s wd::l) 0=Z (.s wd):=bQ (j:=0) U;have cW:oX ks fs (plD us) c f L 0 (L.take (n+1))=oX ks fs (plD us) c f L 0 (L.take n)++chunk ks (plD us) c n wd (d.wth ak fr sp):=by
      rw[ro,he];show oX ks fs (plD us) c f L 0 (L.take n ++ [e])=_;rw[EH,qp,Nx (by(first|lia|omega)),Fq,cH,cI]
     have fin:∀(Yu X':List L2.T)(bj:Sl)(C:List Row),Yu=X++X'->chunk ks (plD us) c n wd (d.wth ak fr sp)=C->Rws us.length X' C->X'.length<=13394->∃(X2:List L2.T)(o6 o7 o8:Sl),[.r (tPr ks fs),.o (.fz (.dT (plD us))),.o (.l Yu),.r (iN c),.r (tF f),.o (.l (L.map (·.b))),.r (iN n),.r S,bj]=[.r (tPr ks fs),.o (.fz (.dT (plD us))),.o (.l X2),.r (iN c),.r (tF f),.o (.l (L.map (·.b))),o6,o7,o8]/\Rws us.length X2 (cy ks fs (plD us) 0 (zs.take c)++oX ks fs (plD us) c f L 0 (L.take (n+1)))/\X2.length<=1340000*c+13394*(n+1):=λYu X' bj C hZ hC cx c0=>by
      subst hZ;exact(_,_,_,_,U,by rw[cW,<- u4,hC];exact hX.app cx,by rw[iQ];(first|lia|omega))
     have cu:X.length<=12000000:=by(first|lia|omega)
     have cD:=uC hP.gk (kvs:=plD us) (i:=c) (n:=n) (ho:=(d.wth ak fr sp).ho) (sc:=(d.wth ak fr sp).sc);have Vr:=g.lim;have aA:=ar.es;rw[aA]at cD;refine(_,U,_,ab,?_);rw[eb];refine(_,a0,aE (λg1=>?_) λg1=>?_)
     ·have hw:wd∈PAY:=by
       have g1:inT (.s wd) (PAY.map L2.T.s)=true:=g1;rw[dZ,pT]at g1;exact g1
      refine(_,ab,ks,fs,c,n,e.b,S,d,ak,fr,sp,U,hP,bb.im,hd,u1,λu hu=>?_,(?_,?_,λq hq=>?_,?_),λS2 cc=>?_)
      ·let(k,h1,_):=u2 u hu;rw[hg.hk];exact oG.mpr (_,h1,U)
      ·rw[hg.hk];exact g.nd
      ·have:=hg.fl;(first|lia|omega)
      ·have:=hg.hl q hq;(first|lia|omega)
      ·have:d.ho.length=e.sc.length:=by simpa using congrArg Nv hg.hk
       (first|lia|omega)
      have aN:∀p∈(d.wth ak fr sp).fr,Nu us.length (plD us) p.1:=λp hp=>PL (ar.fm p hp)
      have cE:=cc;cases cc with
      |@mk _ o1 o2 v1 v2 =>
       refine(IC cu,U,U,U,(by decide),_,U,plD us,_,(d.wth ak fr sp).fr,U,.inl U,by have:=ar.fl;(first|lia|omega),λp hp=>?_,λo vs=>?_)
       ·let(j,h1,_):=aN p hp;exact(_,h1)
       have hR:IsR us.length (.t [.t [.s "purse",iN c,iN n],.fd o vs ((oO (plD us) (d.wth ak fr sp).fr).map enI),.i (d.wth ak fr sp).sp]) ([.s "purse",iN c,iN n],oO (plD us) (d.wth ak fr sp).fr,(d.wth ak fr sp).sp):=IsR.mk (r:=([.s "purse",iN c,iN n],oO (plD us) (d.wth ak fr sp).fr,(d.wth ak fr sp).sp)) (BQ aN) U (xH (by have:=ar.fl;(first|lia|omega)))
       refine(U,(by decide),_,U,U,?_)
       refine(_,ab,?_);rw[eb];refine(_,a0,U,aE (λg2=>?_) λg2=>?_)
       ·have a7:wd="give":=V.str.inj (of_decide_eq_true g2);refine(ks,fs,c,n,us.length,plD us,_,_,U,hP,cE,by rw[aA];exact g.nd,by rw[aA];exact ar.hk,by rw[aA];exact Vr,λp hp=>?_,λp hp k hk q hq m hm=>?_,λys aT=>?_)
        ·have:=ar.hl p hp;(first|lia|omega)
        ·rw[aA]at hk;exact PL (ar.hm p hp k hk q hq m hm)
        have cq:=aT.ln;rw[aA]at cq aT;refine(?_,?_)
        ·rw[iQ,v5];exact sV (iD (by(first|lia|omega)))
        ·have hC:chunk ks (plD us) c n wd (d.wth ak fr sp)=[([.s "purse",iN c,iN n],oO (plD us) (d.wth ak fr sp).fr,(d.wth ak fr sp).sp)]++lI ks (plD us) c n (d.wth ak fr sp).ho e.sc:=by
          unfold chunk;rw[if_pos hw,if_pos a7,aA];rfl
         exact fin _ ([_]++ys) _ _ (u4 ..) hC (Rws.app (.one hR) aT) (by rw[iQ,v5];(first|lia|omega))
       ·have a7:¬ wd="give":=λz=>g2 (by rw[z];rfl)
        exact fin _ [_] _ _ U (by unfold chunk;rw[if_pos hw,if_neg a7]) (.one hR) (by show 1<=13394;decide)
     ·have hw:¬ wd∈PAY:=λz=>g1 (by
       show inT (.s wd) (PAY.map L2.T.s)=O;rw[dZ,pT];exact z)
      exact fin _ [] _ _ (qg _).symm (by unfold chunk;rw[if_neg hw]) .nil (by decide)
    ·rintro q ⟨X,o6,o7,o8,rfl,hX,aP⟩
     rw[aZ,b0,rr,<- cN]at hX;rw[aZ,b0]at aP;exact(X,_,_,_,_,_,_,U,hX,by(first|lia|omega))
   ·rintro q ⟨X,o3,o4,o5,o6,o7,o8,rfl,hX,aP⟩
    rw[aZ,dN,<- lz,rr]at hX;rw[aZ,dN]at aP;exact hq X hX (by(first|lia|omega))
def Nb(ns:List Int)(ws:Wt):Int:=(ws.map λp=>p.2*ns.getD p.1.toNat 0).sum
def iG(parts:Int)(ns:List Int):Nat->List Row->Option Nat
 |_,[]=>Y
 |k,r::rs=>if Nb ns r.ws<parts*r.sp then Z k else iG parts ns (k+1) rs
def Fb(parts:Int)(ns:List Int)(N:Nat):Prop:=parts<1\/ns.length≠N\/∃y∈ns,y<0
noncomputable def ckT(parts:Int)(ns:List Int)(N:Nat)(rs:List Row):Option L2.T:=open Classical in if Fb parts ns N then Z .n else(iG parts ns 0 rs).map iN
structure PrC(ks:List Kd)(fs:List Fn)(xs:List (Fn×List (Option Str)))(zs:List (Fn×List Nod))(us:List Fam):Prop where
 p:Prog ks fs
 u:Unk ks fs xs
 z:Nds ks fs xs zs
 e:cT ks 0 xs=us.map kF
 l:∀u∈us,u.length<=10
def ckA(W:QW)(C:J)(o:Option L2.T)(Q:Prop):Prop:=match o with
 |none=>Q
 |some t=>W C ["row"] [t]
def Sm(x:Int):Prop:=-(2 ^ 64)<x/\x<2 ^ 64
inductive Aw(a:Adr)(ts:List L2.T)(Q:L2.T->Prop)(W:QW):Prop
 |mk(ks:List Kd)(fs:List Fn)(xs:List (Fn×List (Option Str)))(zs:List (Fn×List Nod))(us:List Fam)(parts:Int)(ns:List Int)(h1:ts=[tPr ks fs,.t [.i parts,.t (ns.map .i)]])(h2:PrC ks fs xs zs us)(h3:Sm parts)(h4:(∀y∈ns,Sm y))(h5:ckA W a.a7 (ckT parts ns us.length (cy ks fs (plD us) 0 zs)) (Q (.b O)))
theorem d5(ns:List Int):L2.T.ims (ns.map .i)=true:=aX (λ_=>rfl) ns
theorem PrC.lus{fs:List Fn}{zs:List (Fn×List Nod)}{us:List Fam}(h:PrC ks fs xs zs us):us.length<=14500000:=by
 have lim:∀x∈xs,x.1.1.2.1.length<=4/\x.2.length<=50000:=λx hx=>by
  let(L,_,h5,g):=h.u.ok x hx
  have:x.1∈fs:=by rw[<- h.u.fn];exact oG.mpr (x,hx,U)
  exact((h.p.pk _ this).1,by rw[g.ln];exact h5)
 have q:xs.length=fs.length:=by rw[<- h.u.fn,dN]
 have l8:=h.p.l8
 have:=nj h.p.gk lim (i:=0)
 rw[h.e,dN]at this
 (first|lia|omega)
theorem yN{parts:Int}{ns:List Int}{c:Nat}{r:Row}(h:rs[c]?=Z r):iG parts ns c (rs.drop c)=if Nb ns r.ws<parts*r.sp then Z c else iG parts ns (c+1) (rs.drop (c+1)):=by
 let(g,e):=jS.mp h;rw[Xs g,e];rfl
theorem AJ(T:Txt K mg a):bf P w K mg base (CX1 P w) 9 a.kf a.va ["program","paper"] (DK K (Aw a)):=by
 refine T.vz.F.Vd fP (λts Q W h=>?_) (λ_ _ _ _ _ _ hr=>?_)
 ·let(ks,fs,xs,zs,us,parts,ns,U,_):=h;rfl
 ·have hu:=bB hr;refine(_,_,((j4 (An (az 2 fP.nd (Zb (av (qv 1) ah))))
 (j4 (An (az 3 fP.nd (Zb (av (qv 1) ah))))
 (j4 (GY (QPW.pt (uJ (uK (qv 2) ah) (uJ (bM Ii z8 (bA _) (Za (bG T.cu (ae (qv 3) ax))) (Za (bG T.cu (ae (Za (aK (jy T) hr T.iU (ae (qv 0) ax))) ax)))) (v8 (uK (Za (LB T.Oy (qv 3))) ah)))))
 (jo (uL U U T.c6 T.se T.rN (yn T) (hr.mono (by(first|lia|omega))) U T.kZ T.sI (ae (Za dG) ax)))
 (B2 aB))
 (j4 (Lu (g:=(Tg.tp [4,5])) PassesOwn.leaving U (qS T.bC (aK (Mx T) hr T.J6 (ae (qv 0) ax))) (dH (bu 4 fP.nd) (bu 5 fP.nd))
 (jo (GY (uK (Za (dX (EZ U U) K4 (by rfl) T.UI (by kernel_rfl) (ae (Za (cg U (xY (av (qv 5) ah)) (N':=["place","weight","numbers"]) (.own U (.own U (.got (i:=3) U U (.inl U) .nil))) (cm (g:=(Tg.tp [0,1])) (λ_ _ _ _ _=>((dH (du 0) (du 1)),(kS (qv 1) (av (qv 2) (qv 0)))))))) ax))) (Za (kS (qv 2) (av (qv 5) ah))))
 (jo (uL U U T.c6 T.se T.rN (yn T) (hr.mono (by(first|lia|omega))) U T.kZ T.sI (ae (qv 4) ax)))
 (B2 aB))))
 (jo (An (aC qU)))))))),λts Q W h=>?_)
  let(ks,fs,xs,zs,us,parts,ns,U,hC,aP,aS,hq):=h;have VH:=hC.lus;have bad:Fb parts ns us.length->W a.a7 ["row"] [.n]:=λh=>by
   unfold ckT at hq;rw[if_pos h]at hq;exact hq
  have Ll:∀{t:L2.T},t.im=O->W a.a7 ["row"] [t]->(L2.T.ims [t]=O /\ [t].length=(["row"]:List Str).length /\ [t].length<=1000/\W a.a7 ["row"] [t]):=λ{t} h1 h=>(by show(t.im&&O)=O;rw[h1];rfl,U,(by show 1<=1000;decide),h)
  refine(_,U,U,_,U,d5 ns,aE (λg1=>Ll U (bad (.inl (of_decide_eq_true g1)))) λg1=>?_)
  refine(ks,fs,xs,U,hC.p,hC.u,U,aE (λg2=>Ll U (bad (.inr (.inl λz=>?_)))) λg2=>(ns,U,λmn aA=>aE (λg3=>Ll U (bad (.inr (.inr ?_)))) λg3=>?_))
  ·have g2:(!decide ((L2.T.i ((ns.map L2.T.i).length:Int)).v=(L2.T.i ((cT ks 0 xs).length:Int)).v))=true:=g2;rw[hC.e,dN,dN,z,decide_eq_true rfl]at g2;cases g2
  ·have g3:mn<0:=of_decide_eq_true g3;by_cases hn:ns=[]
   ·have:=aA.1 hn
    (first|lia|omega)
   ·exact(mn,(aA.2 hn).1,g3)
  ·have g1:¬ parts<1:=λz=>g1 (decide_eq_true z)
   have g2:ns.length=us.length:=by
    by_cases z:ns.length=us.length
    ·exact z
    ·refine absurd ?_ g2;show(!decide ((L2.T.i ((ns.map L2.T.i).length:Int)).v=(L2.T.i ((cT ks 0 xs).length:Int)).v))=O;rw[hC.e,dN,dN,show decide ((L2.T.i (ns.length:Int)).v=(L2.T.i (us.length:Int)).v)=ϊ from decide_eq_false λe=>z (Int.ofNat.inj (V.int.inj e))]
     rfl
   have g3:¬ mn<0:=λz=>g3 (decide_eq_true z)
   have hb:¬ Fb parts ns us.length:=by
    rintro(z|z |⟨y,hy,z⟩)
    ·exact g1 z
    ·exact z g2
    ·have:=(aA.2 (λe=>by rw[e]at hy;cases hy)).2 y hy
     (first|lia|omega)
   unfold ckT at hq;rw[if_neg hb]at hq;refine(ks,fs,xs,zs,us,U,hC.p,hC.u,hC.z,hC.e,hC.l,λys ak a0=>?_)
   generalize cy ks fs (plD us) 0 zs=rs at hq ak
   refine(λc q=>∃(o4 o5:Sl),q=[.r (tPr ks fs),.r (.t [.i parts,.t (ns.map .i)]),.o (.i parts),.o (.t (ns.map .i)),o4,o5]/\iG parts ns c (rs.drop c)=iG parts ns 0 rs,(_,_,U,U),?_,?_)
   ·rintro c y q hy ⟨o4,o5,rfl,hF⟩
    let(z,hz,U):=cb hy;have aT:c<rs.length:=by rw[<- ak.ln];exact(jS.mp hz).1
    have ar:rs[c]?=Z rs[c]:=fZ aT;have hR:=ak.ok c _ _ hz ar
    generalize rs[c]=r at ar hR
    rw[yN ar]at hF;let(h1,_,h3):=hR;refine(_,U,_,U,?_);refine(cP (by rw[dN,dN];(first|lia|omega)),λj ys=>ys=((r.ws.take j).map λp=>p.2*ns.getD p.1.toNat 0).map .i,U,?_,?_)
    ·rintro j y ys hy rfl
     rw[uk,gs]at hy;let(p,hp,U):=gV.mp hy;let(jj,e1,e2):=h1 p (mu hp);have aN:jj<ns.length:=by(first|lia|omega)
     have en:ns.getD p.1.toNat 0=ns[jj]:=by rw[e1,W7,QL,fZ aN];rfl
     have ea:atI (ns.map L2.T.i) p.1=Z (.i ns[jj]):=by rw[e1];exact bQ (by rw[gs,fZ aN];rfl)
     refine(_,U,_,ea,.inr (aS _ (WW aN)),?_);rw[ro,hp,pz,pz];show _=_ ++ [L2.T.i (p.2*ns.getD p.1.toNat 0)];rw[en]
    ·rintro ys rfl
     rw[dN,dN,rr];refine(_,L2.ins_map _,_,U,.inl aP,aE (λg=>Ll U ?_) λg=>?_)
     ·have g:Nb ns r.ws<parts*r.sp:=of_decide_eq_true g;rw[if_pos g]at hF;rw[<- hF]at hq;exact hq
     ·have g:¬ Nb ns r.ws<parts*r.sp:=λz=>g (decide_eq_true z)
      rw[if_neg g]at hF;exact(_,_,U,hF)
   ·rintro q ⟨o4,o5,rfl,hF⟩
    rw[aZ,ak.ln,XI]at hF;rw[<- hF]at hq;exact hq
theorem Bu{parts:Int}{ns:List Int}:ckT parts ns N rs=Y\/ckT parts ns N rs=Z .n\/∃k:Nat,ckT parts ns N rs=Z (iN k):=by
 unfold ckT
 split
 ·exact .inr (.inl U)
 ·cases iG parts ns 0 rs with
  |none=>exact .inl U
  |some k=>exact .inr (.inr (k,U))
def tdT(o:Option L2.T):L2.T:=o.getD (.b O)
inductive Qa(ts:List L2.T)(Q:L2.T->Prop):Prop
 |mk(ks:List Kd)(fs:List Fn)(xs:List (Fn×List (Option Str)))(zs:List (Fn×List Nod))(us:List Fam)(parts:Int)(ns:List Int)(h1:ts=[tPr ks fs,.t [.i parts,.t (ns.map .i)]])(h2:PrC ks fs xs zs us)(h3:Sm parts)(h4:(∀y∈ns,Sm y))(h5:Q (tdT (ckT parts ns us.length (cy ks fs (plD us) 0 zs))))
theorem Cm(T:Txt K mg a):bf P w K mg base CX0 10 a.wW a.Jw [Zn,Zu] (spQ K Qa):=by
 refine T.og.F.okQ ik (λts Q h=>?_) (λ_ _ _ _ _ _ hr=>?_)
 ·let(ks,fs,xs,zs,us,parts,ns,U,_):=h;rfl
 ·have hu:=bB hr;refine(_,_,((ag (az 2 ik.nd aH)
 (ag (Pt (λ_ _=>(jo (Ls (i:=2) ik.nd U (Or.inl U) (GW (U7 (AJ T) hr T.vz (ae (qv 0) (ae (qv 1) ax)))))))
 (SV (i:=3) U ik.nd U U U T.ua T.vJ (λ_=>(ag (az 2 ik.nd aH)
 (ag (az 4 ik.nd (LD U U T.eh (gR T.Dx U T.AO (gR T.xA U T.wD (gR T.Ky U T.Iv (gR T.Fz U T.Em (gR T.Fy U T.El (gR T.Dw U T.AN Me)))))) (qv 3)))
 (ao (aU (QPW.pt (kP (gM (Za (Pz U T.c6 U T.eh U T.kZ (qv 3)))) (kP (gM (Za (PB (fn:=fns) (n:="ValueError") U (by decide +kernel) U T.eh U T.xj (by kernel_rfl) (qv 3)))) (jZ (GX (gM (qv 4)))))))
 (ao (az 2 ik.nd (LG (fn:=fns) U Cr Jm (qv 3))))
 aB)))))
 G8))
 (ao (aC (Zb (qv 2))))))),λts Q h=>?_)
  let(ks,fs,xs,zs,us,parts,ns,U,V,g,q,hq):=h;refine(ks,fs,xs,zs,us,parts,ns,U,V,g,q,?_);have ne:∀{x y:J}(i j:Nat),[a.aA,a.cf,a.bj,a.bV,a.a7,a.cq,a.bI,a.dg][i]?=Z x->[a.aA,a.cf,a.bj,a.bV,a.a7,a.cq,a.bI,a.dg][j]?=Z y->i≠j->x≠y:=λi j=>TL T.nd i j
  have no:[a.bI,a.bj,a.dg,a.cf,a.cq,a.bV].any (λx=>(B.ref a.a7 :: .ref a.aA::bmV).contains (.ref x))=false:=by
   rw[Xt];intro y z;rw[Bool.not_eq_true];simp only[ot,x2,or_false]at z;obtain rfl|rfl|rfl|rfl|rfl|rfl:=z
   ·exact nu (ne 6 4 U U (by decide)) (ne 6 0 U U (by decide))
   ·exact nu (ne 2 4 U U (by decide)) (ne 2 0 U U (by decide))
   ·exact nu (ne 7 4 U U (by decide)) (ne 7 0 U U (by decide))
   ·exact nu (ne 1 4 U U (by decide)) (ne 1 0 U U (by decide))
   ·exact nu (ne 5 4 U U (by decide)) (ne 5 0 U U (by decide))
   ·exact nu (ne 3 4 U U (by decide)) (ne 3 0 U U (by decide))
  have ty:(B.ref a.a7 :: .ref a.aA::bmV).contains (.type "ValueError")=true:=by
   rw[vb,vb];rfl
  obtain e|e |⟨k,e⟩:=Bu (parts:=parts) (ns:=ns) (N:=us.length) (rs:=cy ks fs (plD us) 0 zs) <;> rw[e]at hq ⊢
  ·exact(U,U,hq)
  all_goals
   refine UL T.c6 Pa ?_;refine(_,_,T.c6,?_);show _;rw[no];refine(_,_,T.c6,?_);show _;rw[Pb];refine(_,_,T.c6,?_);show _;rw[ty];exact(_,_,_,T.c6,U,U,hq)
def OX:L2.T->Bool
 |.b x=>x
 |.i x=>decide (0<=x)
 |_=>ϊ
inductive HF(ts:List L2.T)(Q:L2.T->Prop):Prop
 |mk(t:L2.T)(h1:ts=[t])(h2:(t=.n\/t=.b O\/∃k:Nat,t=iN k))(h3:Q (.b (OX t)))
theorem wA(T:Txt K mg a):bf P w K mg base CX0 1 a.gp a.oE [Zo] (spQ K HF):=by
 refine T.jW.F.okQ vR (λts Q h=>?_) (λ_ _ _ _ _ _ hr=>?_)
 ·let(t,U,_):=h;rfl
 ·have q:=bB hr;refine(_,_,((ao (aC (SX (Za (js Qm Ld (bA _) (qv 0) (Za qU))) (wc (qV (Za (dX (vh U) BV (by rfl) T.eh (by kernel_rfl) (ae (qv 0) (ae (Za (NQ (n:="int") U T.JJ (by kernel_rfl))) ax)))) (qV (Za (Py (Za (dX (vh U) BV (by rfl) T.eh (by kernel_rfl) (ae (qv 0) (ae (Za (NQ (n:="bool") U T.RG (by kernel_rfl))) ax)))))) (wc (js Ij (kG (g':=λi j=>.b (decide (j<=i))) λ_ _ _ _=>.b _) (bA _) (qv 0) ah))))))))),λts Q h=>?_)
  let(t,U,g,hq):=h;obtain rfl|rfl |⟨k,rfl⟩:=g
  ·exact(U,hq)
  ·exact hq
  ·exact(U,U,hq)
theorem xb{α:Type}(xs:List α)(lo hi:Option Int):(cY xs lo hi).length<=xs.length:=by
 unfold cY;rw[qp,Fs]
 (first|lia|omega)
theorem p9{α:Type}{xs:List α}{lo hi:Option Int}{x:α}(h:x∈cY xs lo hi):x∈xs:=X1 (RV h)
theorem vd{α:Type}{xs:List α}:cY xs (Z (j:Int)) Y=xs.drop j:=by
 unfold cY;rw[HT.BY,HT.xR,XO (by rw[Fs];(first|lia|omega))]
 by_cases h:j<=xs.length
 ·rw[Nx h]
 ·rw[Nat.min_eq_right (by(first|lia|omega)),Xd (nY _),Xd (by(first|lia|omega))]
theorem Cs(h:n<=16000001):n<pq:=V8 h (by decide)
theorem MS{xs ys:List L2.T}(h1:L2.T.ims xs=O)(h2:L2.T.ims ys=O):L2.T.ims (xs++ys)=true:=by
 induction xs with
 |nil=>exact h2
 |cons x r g =>
  have h1:(x.im&&L2.T.ims r)=true:=h1;rw[sU]at h1;show(x.im&&L2.T.ims (r++ys))=O;rw[h1.1,g h1.2];rfl
inductive HB(ts:List L2.T)(Q:L2.T->Prop):Prop
 |mk(parts:Int)(ns:List Int)(h1:ts=[.dw,.i parts,.t (ns.map .i)])(h2:0<ns.length)(h3:ns.length<=16000000)(h4:Sm parts)(h5:(∀y∈ns,Sm y))(h6:∀(HY:Int)(ns':List Int),ns'.length<=ns.length+1->Sm HY->(∀y∈ns',Sm y)->Q (.t [.i HY,.t (ns'.map .i)]))
theorem Eg(T:Txt K mg a):bf P w K mg base CX0 2 a.mJ a.yZ [Zd,Zv,Zw] (spQ K HB):=by
 have aN:=jI (@gg P w K mg base a T);refine T.tG.F.okQ nB (λts Q h=>?_) (λ_ _ _ _ _ _ hr=>?_)
 ·let(parts,ns,U,_):=h;rfl
 ·have hu:=bB hr;refine(_,_,((ag (az 3 nB.nd (aK aN hr T.aT (ae (qv 0) (ae ah ax))))
 (ag (aU (bw hu (qv 3) ah)
 (ao (aC (aq (af (qT ah (Za (aK aN hr T.aT (ae (qv 0) (ae ah ax))))) (af (Zb (qv 2)) ai)))))
 aB)
 (ag (aU (bw hu (qv 3) ah)
 (ao (aC (aq (af (Zb (qv 1)) (af (bc (qv 2) (Za (aq (af (aK aN hr T.aT (ae (qv 0) (ae ah ax))) ai)))) ai)))))
 aB)
 (ag (aU (bw hu (qv 3) ah)
 (ao (aC (aq (af (Zb (qv 1)) (af (dW (qv 2) fE (fD (Za (jr ah)))) ai)))))
 aB)
 (ag (aU (bw hu (qv 3) ah)
 (ao (aC (aq (af (Zb (qv 1)) (af (LA (Za (dW (qv 2) (fD ah) fE)) (Za (aK aN hr T.aT (ae (qv 0) (ae ah ax))))) ai)))))
 aB)
 (ag (az 4 nB.nd (kU (aO (af (aK aN hr T.aT (ae (qv 0) (ae (Za (bG T.cu (ae (qv 2) ax))) ax))) (af bp (af (qT (Za (bG T.cu (ae (qv 2) ax))) ah) ai)))) (Za (aK aN hr T.aT (ae (qv 0) (ae ah ax))))))
 (ao (aC (aq (af (Zb (qv 1)) (af (bc (Za (bc (Za (dW (qv 2) fE (fD (qv 4)))) (Za (aq (af (qT (Za (jr ah)) (Za (aK aN hr T.aT (ae (qv 0) (ae ah ax))))) ai))))) (Za (dW (qv 2) (fD (Za (bc (qv 4) ah))) fE))) ai)))))))))))),λts Q h=>?_)
  let(parts,ns,U,hl,aP,V,g,hq):=h;refine(by decide,by decide,λr r0 r1=>(U,aE (λ_=>?_) λ_=>(U,aE (λ_=>?_) λ_=>(U,aE (λ_=>?_) λ_=>(U,aE (λ_=>?_) λ_=>?_)))))
  ·refine(by decide,by decide,λr2 aA ak=>(d5 ns,hq _ _ (by(first|lia|omega)) (by(first|lia|omega),by(first|lia|omega)) g))
  ·refine(U,by decide,by decide,λr2 aA ak=>(by rw[dN];exact sV (V8 (X4 aP 1) (by decide)),d5 ns,U,?_))
   have:=hq parts (ns ++ [r2]) (by rw[iQ];exact nY _) V λy hy=>(nZ.mp hy).elim (g y) λz=>by rw[fy.mp z];exact(by(first|lia|omega),by(first|lia|omega))
   rw[pz]at this;exact this
  ·refine(U,d5 ns,?_);rw[jL];exact hq _ _ (Ym (xb ..)) V λy hy=>g y (p9 hy)
  ·refine(U,d5 ns,?_);rw[jL];refine(by decide,by decide,λr2 aA ak=>(by(first|lia|omega),d5 _,?_))
   by_cases e:r2=0
   ·rw[if_pos e];exact hq parts [] (wh _) V λ_ z=>nomatch z
   ·rw[if_neg e];exact hq _ _ (Ym (xb ..)) V λy hy=>g y (p9 hy)
  ·have any:∀(j:Nat)(c:Int),j<ns.length->0<=c->c<3->Q (.t [.i parts,.t ((cY ns Y (Z (j:Int))).map .i ++ [.i (-1 - c)]++(cY ns (Z ((j:Int)+1)) Y).map .i)]):=λj c hj c0 c1=>by
    have:=hq parts (cY ns Y (Z (j:Int)) ++ [-1 - c]++cY ns (Z ((j:Int)+1)) Y) (by
     rw[sC (sV hj),show(j:Int)+1=((j+1:Nat):Int)from U,vd,iQ,iQ,qp,Fs];simp;omega) V λy hy=>by
      obtain z|z:=nZ.mp hy
      ·obtain z|z:=nZ.mp z
       ·exact g y (p9 z)
       ·rw[fy.mp z];exact(by(first|lia|omega),by(first|lia|omega))
      ·exact g y (p9 z)
    rw[pz,pz]at this;exact this
   have ar:((ns.map L2.T.i).length:Int)=ns.length:=by rw[dN]
   have aS:∀(j:Nat),j<ns.length->(cY ns Y (Z (j:Int))).length<=16000000/\(cY ns (Z ((j:Int)+1)) Y).length<=16000000:=λj _=>(sR (xb ..) aP,sR (xb ..) aP)
   have fin:∀(j:Nat),j<ns.length->(jt (aF (qIm (aY 1)) (aF (qOp kW (qOp kW (qSl (aY 2) (λ_ Q=>Q Y) λq Q=>aY 4 q λt=>match t with|.i x=>Q (Z x)|_=>False) (jt (aF (qOp (qI0 λi j=>L2.T.i (i - j)) (qC (.i (-1))) (fS nJ (aF (aY 0) (aF (qC (.i 3)) cA)))) cA))) (qSl (aY 2) (λq Q=>qOp kW (aY 4) (qC (.i 1)) q λt=>match t with|.i x=>Q (Z x)|_=>False) λ_ Q=>Q Y)) cA))) [.r .dw,.r (.i parts),.r (.t (ns.map .i)),.o (.i r),.o (.i j)] Q:=λj hj=>by
    refine(U,d5 ns,?_);show _;rw[jL];refine(by decide,by decide,λc c0 c1=>?_)
    let(g1,g2):=aS j hj;refine(sV (Cs (by rw[dN];exact X4 g1 1)),d5 _,U,d5 ns,?_)
    show _;rw[jL];have e3:(cY ns Y (Z (j:Int))).length+1+(cY ns (Z ((j:Int)+1)) Y).length<=16000001:=by
     rw[sC (sV hj),show(j:Int)+1=((j+1:Nat):Int)from U,vd,qp,Fs]
     (first|lia|omega)
    refine(sV (Cs (by rw[iQ,dN,dN];exact e3)),MS (d5 _) U,d5 _,?_)
    exact any j c hj c0 c1
   refine(by rw[ar];(first|lia|omega),by rw[ar];(first|lia|omega),λr2 aA ak=>(by decide,by decide,λr3 a3 a0=>?_))
   rw[ar]at ak
   obtain rfl|rfl|rfl:=(by(first|lia|omega):r3=0\/r3=1\/r3=2)
   ·refine(.i r2,U,?_);obtain⟨j,rfl⟩:∃j:Nat,r2=j:=(r2.toNat,by(first|lia|omega))
    exact fin j (by(first|lia|omega))
   ·exact(.i 0,U,fin 0 hl)
   ·refine(.i ((ns.map L2.T.i).length - 1),U,?_);rw[ar]
    have:=fin (ns.length - 1) (by(first|lia|omega))
    rw[show((ns.length - 1:Nat):Int)=(ns.length:Int) - 1 by(first|lia|omega)]at this
    exact this
inductive HC(ts:List L2.T)(Q:L2.T->Prop):Prop
 |mk(ks:List Kd)(fs:List Fn)(xs:List (Fn×List (Option Str)))(zs:List (Fn×List Nod))(us:List Fam)(h1:ts=[.dw,tPr ks fs,.i us.length])(h2:PrC ks fs xs zs us)(h3:0<us.length)(h4:Q (.b O))
theorem VR:NA 10 6:=(by decide,by decide,by decide)
theorem Il(T:Txt K mg a):bf P w K mg base CX0 11 a.pX a.CU [Zd,Zn,Zg] (spQ K HC):=by
 have aN:=jI (@gg P w K mg base a T);refine T.De.F.okQ e9 (λts Q h=>?_) (λ_ _ _ _ _ _ hr=>?_)
 ·let(ks,fs,xs,zs,us,U,_):=h;rfl
 ·have hu:=bB hr;refine(_,_,((ag (az 3 e9.nd (bc ah (Za (aK aN hr T.aT (ae (qv 0) (ae ah ax))))))
 (ag (az 4 e9.nd (kU (aO (af (aO (af bp ai)) (af (aO (af (Px ah ah) ai)) (af (aO (af bp (af bp (af bp (af bp ai))))) ai)))) (Za (aK aN hr T.aT (ae (qv 0) (ae ah ax))))))
 (ag (az 5 e9.nd (aR (cp U) cj (by rfl) T.d9 (by kernel_rfl) (ae (Za (cg U (gN U T.fK (ae (qv 2) ax)) (N':=[Zq,Zr,Zd]) (.own U (.got (i:=4) U U (.inl U) (.got (i:=0) U U (.inl U) .nil))) (cm (g:=(Tg.nm 0)) (λ_ _ _ _ _=>((du 0),(Zb (av (qv 1) (Za (aK aN hr T.aT (ae (qv 2) (ae (Za (bG T.cu (ae (qv 1) ax))) ax))))))))))) ax)))
 (ag (az 6 e9.nd (aK (Eg T) hr T.tG (ae (qv 0) (ae (qv 3) (ae (qv 5) ax)))))
 (ag (aU (QPW.pt (kP (bw hu (Za (aK aN hr T.aT (ae (qv 0) (ae ah ax)))) ah) (jZ (NP (Za (bG T.cu (ae (av (qv 6) ah) ax))) ah))))
 (ao (az 6 e9.nd (aK (Eg T) hr T.tG (ae (qv 0) (ae (av (qv 6) ah) (ae (av (qv 6) ah) ax))))))
 aB)
 (ag (az 7 e9.nd (qV (Za (js yj (kG (g':=λi j=>.b (decide (j<i))) λ_ _ _ _=>.b _) (bA _) (av (qv 6) ah) ah)) (qV (Za (js (wz hu U) pE (bA _) (Za (bG T.cu (ae (av (qv 6) ah) ax))) (qv 2))) (wc (js Ij (kG (g':=λi j=>.b (decide (j<=i))) λ_ _ _ _=>.b _) (bA _) (Za (dX (Bv U U) Gh (by rfl) T.Oy (by kernel_rfl) (ae (av (qv 6) ah) ax))) ah)))))
 (ag (az 8 e9.nd (aK (Cm T) hr T.og (ae (qv 1) (ae (qv 6) ax))))
 (ag (aU (QPW.pt (uJ (bM Ii z8 (bA _) (qv 7) (Za (aK (wA T) hr T.jW (ae (qv 8) ax)))) (v8 (QPW.pt (kP (GX (gM (qv 7))) (jZ (bM l9 jg (bA _) (qv 8) (Za dG))))))))
 (ao (aC qU))
 aB)
 (ao (aC (qV (Za (aK (wA T) hr T.jW (ae (Za (aK (Cm T) hr T.og (ae (qv 1) (ae (Za (aq (af (Zb (qv 3)) (af (Zb (qv 5)) ai)))) ax)))) ax))) (wc (js (wz hu U) pE (bA _) (Za (aK (Cm T) hr T.og (ae (qv 1) (ae (qv 6) ax)))) (qv 8))))))))))))))),λts Q h=>?_)
  let(ks,fs,xs,zs,us,U,hC,MT,hq):=h;have VH:=hC.lus;refine(by decide,by decide,λpr p0 p1=>(VR,by decide,by decide,λso s0 s1=>?_))
  obtain⟨nl,bE,bb,b0⟩:∃nl:List Int,atI [L2.T.l [.i 0],.l [.i (10 ^ (6:Int).toNat)],.l [.i 0,.i 1,.i 7,.i 1000]] so=Z (.l (nl.map .i))/\(∀y∈nl,0<=y/\y<=1000000)/\0<nl.length/\nl.length<=4:=by
   obtain rfl|rfl|rfl:=(by(first|lia|omega):so=0\/so=1\/so=2)
   ·exact([0],U,by simp,by decide,by decide)
   ·exact([1000000],U,by simp,by decide,by decide)
   ·exact([0,1,7,1000],U,by simp,by decide,by decide)
  refine(_,bE,by(first|lia|omega),by(first|lia|omega),iD (by rw[cL];(first|lia|omega)),λc ys=>∃ns:List Int,ys=ns.map .i/\ns.length=c/\∀y∈ns,0<=y/\y<=1000000,([],U,U,λ_ z=>nomatch z),?_,?_)
  ·rintro c y ys hy ⟨ns,rfl,hl,hn⟩
   refine(_,U,by rw[dN];(first|lia|omega),by rw[dN];(first|lia|omega),λr r0 r1=>?_)
   rw[dN]at r1;let(x,hx,ex):=iC (xs:=nl) (f:=L2.T.i) r0 r1;refine(_,ex,U,ns ++ [x],by rw[pz];rfl,by rw[iQ,hl];rfl,λy hy=>?_)
   obtain z|z:=nZ.mp hy
   ·exact hn y z
   ·rw[fy.mp z];exact bb x hx
  ·rintro ys ⟨ns,rfl,hl,hn⟩
   rw[cL]at hl;have hl:ns.length=us.length:=by(first|lia|omega)
   have aP:∀y∈ns,Sm y:=λy hy=>by have:=hn y hy;exact(by(first|lia|omega),by(first|lia|omega))
   have aA:Sm (1+pr):=(by(first|lia|omega),by(first|lia|omega))
   have good:¬ Fb (1+pr) ns us.length:=by
    rintro(z|z |⟨y,hy,z⟩)
    ·omega
    ·exact z hl
    ·have:=hn y hy;(first|lia|omega)
   refine(d5 ns,?_);refine(λ(rest:∀(p':Int)(q:List Int),q.length<=us.length+2->Sm p'->(∀y∈q,Sm y)->_)=>(1+pr,ns,U,by(first|lia|omega),by(first|lia|omega),aA,aP,λp' q l' ak ar=>(by decide,by decide,λr4 bV bI=>(U,aE (λ_=>(_,U,aE (λgl=>(_,U,_,U,p',q,U,?pos,by(first|lia|omega),ak,ar,λp2 n2 l2 a7 bj=>rest p2 n2 (by(first|lia|omega)) a7 bj)) (λ_=>rest p' q (by(first|lia|omega)) ak ar))) (λ_=>rest p' q (by(first|lia|omega)) ak ar))))) ?rest
   case pos =>
    have gl:(0:Int)<((q.map L2.T.i).length:Int):=of_decide_eq_true gl;rw[dN]at gl
    (first|lia|omega)
   intro p' q l' ak ar;have QD:((q.map L2.T.i).length:Int)=q.length:=by rw[dN]
   have key:∀R:L2.T->Prop,(∀g:Bool,(g=O ↔ ¬ Fb p' q us.length)->R (.b g))->B6 (qOp (qI0 λi j=>L2.T.b (decide (j<i))) (qOp qIx (aY 6) (qC (.i 0))) (qC (.i 0)))
      (B6 (qOp Ar (qCB Aq (aF (qOp qIx (aY 6) (qC (.i 1))) cA)) (aY 2)) (qOp (qI0 λi j=>L2.T.b (decide (j<=i))) (qCB Hm (aF (qOp qIx (aY 6) (qC (.i 1))) cA)) (qC (.i 0))))
      [.r .dw,.r (tPr ks fs),.r (.i us.length),.o (.i (1+pr)),.o (.l (nl.map .i)),.o (.t (ns.map .i)),.o (.t [.i p',.t (q.map .i)]),.no,.no] R:=λR fin=>by
    refine(_,U,aE (λh1=>(_,U,U,aE (λh2=>(_,U,q,U,?ne,λmn bC=>fin (decide (0<=mn)) ?g1)) (λh2=>fin ϊ ?g2))) (λh1=>fin ϊ ?g3))
    case ne =>
     have h2:((q.map L2.T.i).length:Int)=(us.length:Int):=by
      have:=of_decide_eq_true h2
      exact V.int.inj this
     rw[QD]at h2;intro e;rw[e]at h2;simp at h2
     (first|lia|omega)
    case g1 =>
     have h1:0<p':=of_decide_eq_true h1;have h2:((q.map L2.T.i).length:Int)=(us.length:Int):=V.int.inj (of_decide_eq_true h2);rw[QD]at h2;rw[decide_eq_true_eq];have bt:q ≠ []:=λe=>by rw[e]at h2;simp at h2;(first|lia|omega)
     let(m1,m2):=bC.2 bt
     constructor
     ·rintro h (z|z |⟨y,hy,z⟩)
      ·omega
      ·exact z (by(first|lia|omega))
      ·have:=m2 y hy;(first|lia|omega)
     ·intro h;by_cases z:0<=mn
      ·exact z
      ·exact absurd (.inr (.inr (mn,m1,by(first|lia|omega)))) h
    case g2 =>
     have h2:q.length≠us.length:=λe=>h2 (by
      show decide ((L2.T.i ((q.map L2.T.i).length:Int)).v=(L2.T.i (us.length:Int)).v)=O;rw[QD,e];exact decide_eq_true U)
     exact(λz=>(nomatch z),λh=>absurd (.inr (.inl h2)) h)
    case g3 =>
     have h1:¬ 0<p':=λz=>h1 (decide_eq_true z)
     exact(λz=>(nomatch z),λh=>absurd (.inl (by(first|lia|omega))) h)
   refine key _ λg hg=>?_
   refine(ks,fs,xs,zs,us,p',q,U,hC,ak,ar,?_);have a8:=Bu (parts:=p') (ns:=q) (N:=us.length) (rs:=cy ks fs (plD us) 0 zs);have a0:g=OX (tdT (ckT p' q us.length (cy ks fs (plD us) 0 zs)))/\(g=ϊ->tdT (ckT p' q us.length (cy ks fs (plD us) 0 zs))=.n):=by
    unfold ckT;by_cases hb:Fb p' q us.length
    ·rw[if_pos hb]
     have:g=false:=by cases g with
      |false=>rfl
      |true=>exact absurd hb (hg.mp U)
     exact(this,λ_=>rfl)
    ·rw[if_neg hb,hg.mpr hb];refine(?_,λz=>(nomatch z))
     cases iG p' q 0 (cy ks fs (plD us) 0 zs)with
     |none=>rfl
     |some k=>exact(decide_eq_true (W4 k)).symm
   have Ui:=Bu (parts:=1+pr) (ns:=ns) (N:=us.length) (rs:=cy ks fs (plD us) 0 zs);have aS:OX (tdT (ckT (1+pr) ns us.length (cy ks fs (plD us) 0 zs)))=true:=by
    unfold ckT;rw[if_neg good];cases iG (1+pr) ns 0 (cy ks fs (plD us) 0 zs)with
    |none=>rfl
    |some k=>exact decide_eq_true (W4 k)
   have NC:∀{o:Option L2.T},(o=Y\/o=Z .n\/∃k:Nat,o=Z (iN k))->tdT o=.n\/tdT o=.b O\/∃k:Nat,tdT o=iN k:=λ{o} h=>by
    obtain rfl|rfl |⟨k,rfl⟩:=h
    ·exact .inr (.inl U)
    ·exact .inl U
    ·exact .inr (.inr (k,U))
   have t1:=NC a8;have t2:=NC Ui
   generalize hT:tdT (ckT p' q us.length (cy ks fs (plD us) 0 zs))=t at a0 t1
   generalize a3:tdT (ckT (1+pr) ns us.length (cy ks fs (plD us) 0 zs))=t' at aS t2
   let(e1,e2):=a0;refine(t,U,t1,U,aE (λg1=>absurd g1 ?w1) λ_=>?w2)
   case w1 =>
    rw[<- e1];show ¬(!decide ((L2.T.b g).v=(L2.T.b g).v))=O;rw[decide_eq_true rfl]
    decide
   case w2 =>
    cases g with
    |false =>
     obtain rfl:=e2 U;refine(U,d5 ns,ks,fs,xs,zs,us,1+pr,ns,U,hC,aA,aP,?_);rw[a3];refine(t',U,t2,aE (λ_=>(ks,fs,xs,zs,us,p',q,U,hC,ak,ar,?_)) λz=>absurd aS z)
     rw[hT];exact(U,hq)
    |true =>
     refine(U,d5 ns,ks,fs,xs,zs,us,1+pr,ns,U,hC,aA,aP,?_);rw[a3];refine(t',U,t2,aE (λ_=>(ks,fs,xs,zs,us,p',q,U,hC,ak,ar,?_)) λz=>absurd aS z)
     rw[hT];obtain rfl|rfl |⟨k,rfl⟩:=t1
     ·exact(U,hq)
     ·exact(U,hq)
     ·refine(U,?_);rw[show decide ((iN k).v=(iN k).v)=O from decide_eq_true rfl];exact hq
theorem OQ{fs:List Fn}(p:Prog ks fs)(hs:∀f∈fs,f.2.2<=100):∃xs zs,Unk ks fs xs/\Nds ks fs xs zs:=by
 have one:∀f∈fs,∃os L,Pre ks (fs.map (·.1)) 0 (rtN f) L/\L.length<=100/\zu ks L os:=λf hf=>by
  let(hS,h5):=p.sn f hf;let(L,Q,aA):=hS.pre h5 0 .n .n [];have Q:Pre ks (fs.map (·.1)) 0 (rtN f) L:=Q;have ar:cw ks (fs.map (·.1)) 0 [rtN f] L:=by have:=cw.cons Q (.nil);rwa [qg]at this
  have ak:=ar.asks _ U
  have:∀M:List Nod,(∀e∈M,∃o,Ask ks e.sc e.b o)->∃os,zu ks M os:=by
   intro M
   induction M with
   |nil=>intro _;exact([],U,λn e o h=>by simp at h)
   |cons e r V =>
    intro h;let(o,ho):=h e lD;let(os,h1):=V λe he=>h e (g5 _ he)
    refine(o::os,by simp[h1.ln],λn e' o' he q=>?_)
    cases n with
    |zero=>cases he;cases q;exact ho
    |succ n=>exact h1.ok n e' o' (by simpa using he) (by simpa using q)
  let(os,hA):=this L ak;exact(os,L,Q,sR aA (hs f hf),hA)
 have:∀P:List Fn,(∀g∈P,g∈fs)->∃(xs:List (Fn×List (Option Str)))(zs:List (Fn×List Nod)),xs.map (·.1)=P/\zs.map (·.1)=P/\(∀x∈xs,∃L,Pre ks (fs.map (·.1)) 0 (rtN x.1) L/\L.length<=50000/\zu ks L x.2)/\∀(i:Nat)(x:Fn×List (Option Str))(z:Fn×List Nod),xs[i]?=Z x->zs[i]?=Z z->Pre ks (fs.map (·.1)) 0 (rtN z.1) z.2/\z.2.length<=100/\zu ks z.2 x.2:=by
  intro P
  induction P with
  |nil=>intro _;exact([],[],U,U,(λ_ h=>nomatch h),λi x z h=>by simp at h)
  |cons g r V =>
   intro h;let(os,L,h1,aN,K):=one g (h g lD);let(xs,zs,h2,h3,h4,h5):=V λg hg=>h g (g5 _ hg)
   refine((g,os)::xs,(g,L)::zs,by simp[h2],by simp[h3],λx hx=>?_,λi x z hx hz=>?_)
   ·obtain rfl|hx:=ot.mp hx
    ·exact(L,h1,by(first|lia|omega),K)
    ·exact h4 x hx
   ·cases i with
    |zero=>cases hx;cases hz;exact(h1,aN,K)
    |succ i=>exact h5 i x z (by simpa using hx) (by simpa using hz)
 let(xs,zs,h1,h2,h3,h4):=this fs λ_ h=>h
 exact(xs,zs,(h1,h3),(h2,h4))
theorem sz7:sz 7<=100:=by decide +kernel
theorem Cc{fs:List Fn}(p:Prog ks fs):PrC ks [] [] [] []:=((p.gk,wh _,n6,(λ_ h=>nomatch h),(λ_ h=>nomatch h),λ_ h=>nomatch h),(U,λ_ h=>nomatch h),(U,λi x z h=>by simp at h),U,λ_ h=>nomatch h)
theorem Qs(T:Txt K mg a):bf P w K mg base CX0 110 a.uZ a.Ox [Zm] (qE K):=by
 refine T.UU.F.Vu (n:=3) (s1:=(bP oo).headD (.Pass (0,0,0,0))) (rest:=(bP oo).tail) qJ U U (λ_ _ _ _ _ _ hr=>?_)
 have hu:=bB hr;refine(_,_,_,(iy (i:=1) qJ.nd U (Or.inr U) (Cg (My T) (hr.mono (by decide)) U T.xt.m T.xt.F.kp T.xt.b .nil HX (bh (pv 0) (bh bD cJ)))),((ag (az 2 qJ.nd (aK (AI T) hr T.vy (ae (qv 1) (ae ah (ae ah ax)))))
 (ag (az 3 qJ.nd (bG T.cu (ae (Za (aK (jy T) hr T.iU (ae (qv 2) ax))) ax)))
 (ag (az 4 qJ.nd (aq (af (Zb (av (qv 2) ah)) (af (aq ai) ai))))
 (ag (aU (QPW.pt (uJ (bM Mq Gf (bA _) (Za (aK (Cm T) hr T.og (ae (qv 4) (ae (Za (aq (af bp (af (aq ai) ai)))) ax)))) (Za qU)) (v8 (bM l9 jg (bA _) (Za (aK (Cm T) hr T.og (ae (qv 4) (ae (Za (aq (af bp (af (aq ai) ai)))) ax)))) (Za dG)))))
 (ao (aC qU))
 aB)
 (ao (aC (dX (E8 U U) Lf (by rfl) T.UJ (by kernel_rfl) (ae (Za (cg U (gN U T.fK (ae ah ax)) (N':=["_law_turn",Zd,Zn,Zg]) (.own U (.got (i:=1) U U (.inl U) (.got (i:=2) U U (.inl U) (.got (i:=3) U U (.inl U) .nil)))) (cm (g:=(Tg.nm 0)) (λ_ _ _ _ _=>((du 0),(aK (Il T) hr T.De (ae (qv 1) (ae (qv 2) (ae (qv 3) ax))))))))) ax))))))))),λp0 ns D hS hlen k=>?_,λns hlen=>?_)
 ·refine(_,U,p0,ns,_,U,hS,hlen,by decide,by decide,λd l H1 fd fl D1 s1=>?_)
  exact k d l H1 fd fl D1 s1
 ·refine(2,7,U,by decide,by decide,by decide,by decide,λks fs p Q hsz=>?_)
  let(xs,zs,q,hN):=OQ p λf hf=>sR (hsz f hf) sz7
  let(us,V,e2):=KH (ks:=ks) (xs:=xs);have hC:PrC ks fs xs zs us:=(p,q,hN,V,e2);have MT:0<us.length:=by
   obtain⟨f,r,rfl⟩:∃f r,fs=f::r:=by
    cases fs with
    |nil=>exact absurd U Q
    |cons f r=>exact(f,r,U)
   have hl:0<xs.length:=by
    have:=congrArg Nv q.fn
    simp at this
    (first|lia|omega)
   have:=(UOk.of q (fZ hl)).fst 0 f U
   rw[V]at this;exact Wq.mpr λe=>by rw[e]at this;cases this
  have h1:tdT (ckT 1 [] ([]:List Fam).length (cy ks [] (plD []) 0 []))=.b true:=by
   unfold ckT;rw[if_neg]
   ·rfl
   ·rintro(z|z |⟨y,hy,_⟩)
    ·exact absurd z (by decide)
    ·exact z U
    ·cases hy
  have h2:tdT (ckT 0 [] ([]:List Fam).length (cy ks [] (plD []) 0 []))=.n:=by
   unfold ckT;rw[if_pos (.inl (by decide))]
   rfl
  refine(ks,fs,xs,U,p,q,?_);show _;rw[V];refine(_,U,rS ks,?_);refine(ks,[],[],[],[],1,[],U,Cc p,(by decide,by decide),(λ_ z=>nomatch z),?_)
  rw[h1];refine(ks,[],[],[],[],0,[],U,Cc p,(by decide,by decide),(λ_ z=>nomatch z),?_)
  rw[h2];refine(by decide,by decide,aD (by rw[cL];decide),λc ys=>ys=(Fi c O).map .b,U,?_,?_)
  ·rintro c y ys hy rfl
   refine(_,U,ks,fs,xs,zs,us,(by rw[dN];rfl),hC,MT,?_)
   rw[List.replicate_succ',pz];rfl
  ·rintro ys rfl
   rw[cL];exact(_,L2.Nj _,U)
end
theorem all_mk{l:W.OpenLaw}{w:Cl}{K:BT}{h:Do}{fa:J}(X:K.In h)(G:h.Ns mainGlobals mg)(hfa:mg "law"=Z (.ref fa))
  {aA:J} (tQ:W.nsIn K mainGlobals "PurseError"=Z (Z (.ref aA))) (tO:W.keepIn K (.ref aA)=O)
  (tN:gw K fns aA (bmV) Y=O)
  {cf:J} (Dv:W.nsIn K mainGlobals "NoText"=Z (Z (.ref cf))) (Dr:W.keepIn K (.ref cf)=O)
  {vg:ClassData} (R6:W.clsIn K cf=Z vg)
  (R7:W.nsIn K vg.ns "__init__"=Z (Z (.ref d6))) (Dm:LK K d6 "__init__" "NoText.__init__" uH Rj Ri Rk Rl Rh Rn Bc Rm Rf) (Dt:CI K Bc "NoText.__init__") (Dk:KI K d6) (Ds:W.isFn K (.ref d6)=O)
  (Dj:gw K fns cf (.ref aA::bmV) (Z d6)=O)
  {bj:J} (vI:W.nsIn K mainGlobals "NoProgram"=Z (Z (.ref bj))) (vF:W.keepIn K (.ref bj)=O)
  {mS:ClassData} (Kw:W.clsIn K bj=Z mS)
  (Kx:W.nsIn K mS.ns "__init__"=Z (Z (.ref b9))) (vE:LK K b9 "__init__" "NoProgram.__init__" lO Kg Kf Kh Ki Ke Kk um Kj Kc) (vH:CI K um "NoProgram.__init__") (vD:KI K b9) (vG:W.isFn K (.ref b9)=O)
  (vC:gw K fns bj (.ref aA::bmV) (Z b9)=O)
  {bV:J} (zL:W.nsIn K mainGlobals "NoValue"=Z (Z (.ref bV))) (zE:W.keepIn K (.ref bV)=O)
  (zx:gw K fns bV (.ref aA::bmV) Y=O)
  {a7:J} (zM:W.nsIn K mainGlobals "NoPaper"=Z (Z (.ref a7))) (zF:W.keepIn K (.ref a7)=O)
  {sE:ClassData} (OJ:W.clsIn K a7=Z sE)
  (OM:W.nsIn K sE.ns "__init__"=Z (Z (.ref cG))) (zC:LK K cG "__init__" "NoPaper.__init__" kH Ob N9 Og Oi N7 Oo yG Ol N5) (zJ:CI K yG "NoPaper.__init__") (zA:KI K cG) (zH:W.isFn K (.ref cG)=O)
  (zy:gw K fns a7 (.ref aA::bmV) (Z cG)=O)
  {cq:J} (Du:W.nsIn K mainGlobals "NoTurn"=Z (Z (.ref cq))) (Dp:W.keepIn K (.ref cq)=O)
  (Di:gw K fns cq (.ref aA::bmV) Y=O)
  {bI:J} (zN:W.nsIn K mainGlobals "NoChain"=Z (Z (.ref bI))) (zG:W.keepIn K (.ref bI)=O)
  {sF:ClassData} (OL:W.clsIn K bI=Z sF)
  (ON:W.nsIn K sF.ns "__init__"=Z (Z (.ref c8))) (zD:LK K c8 "__init__" "NoChain.__init__" qH Oc Oa Oh Oj N8 Oq yH Om N6) (zK:CI K yH "NoChain.__init__") (zB:KI K c8) (zI:W.isFn K (.ref c8)=O)
  (zz:gw K fns bI (.ref aA::bmV) (Z c8)=O)
  {dg:J} (Fv:W.nsIn K mainGlobals "NoRow"=Z (Z (.ref dg))) (Ft:W.keepIn K (.ref dg)=O)
  (Fo:gw K fns dg (.ref aA::bmV) Y=O)
  {aP:J} (Mh:W.nsIn K mainGlobals "Spot"=Z (Z (.ref aP))) (Mp:W.plainGet K aP Str.empty=O) (Mn:W.hasDictIn K aP=O) (Mm:W.plainOver K aP=O)
  (Ml:W.findIn K (.ref aP) "__setattr__"=Z (Z (.builtin "object.__setattr__"))) (Mj:W.makesIn K aP=O) (Mi:W.keepIn K (.ref aP)=O)
  (t6:bR K aP "piece")
  (t7:bR K aP "above")
  (yb:bR K aP "arm")
  (wo:DM K aP "__init__" "Spot.__init__" ij dP)
  {aJ:J} (HZ:W.nsIn K mainGlobals "Stand"=Z (Z (.ref aJ))) (Ig:W.plainGet K aJ Str.empty=O) (Ie:W.hasDictIn K aJ=O) (Ic:W.plainOver K aJ=O)
  (Ib:W.findIn K (.ref aJ) "__setattr__"=Z (Z (.builtin "object.__setattr__"))) (Ia:W.makesIn K aJ=O) (H0:W.keepIn K (.ref aJ)=O)
  (Ay:bR K aJ "f")
  (t5:bR K aJ "free")
  (q5:bR K aJ "spent")
  (q9:bR K aJ "kinds")
  (l6:bR K aJ "holdings")
  (tZ:DM K aJ "__init__" "Stand.__init__" gy df)
  (xnd:decide [aA,cf,bj,bV,a7,cq,bI,dg].Nodup=O)
  (yA:DY K "makers_of" jm gn)
  (IG:DY K "within" qK mG)
  (oR:DY K "reached_kinds" fi dC)
  (oU:DY K "kind_of_maker" fj dD)
  (yz:DY K "number_of" jl gm)
  (MJ:DY K "spots" vU pW)
  (oQ:DY K "spots_beneath" fh dB)
  (IK:DY K "pieces" qO mK)
  (uh:DY K "kinds_ahead" gC eZ)
  (A2:DY K "bound_by" kL iK)
  (II:DY K "stands" qM mI)
  (nP:DY K "stand_at_begin" eD c9)
  (wK:DY K "stand_with" iw fJ)
  (rM:DY K "stand_behind" fQ d7)
  (QK:DY K "uses" Ad wV)
  (wJ:DY K "taken_free" iu fH)
  (A1:DY K "spent_by" kK iJ)
  (A0:DY K "unknowns" kJ iI)
  (ug:DY K "unknowns_of" gB eV)
  (nQ:DY K "piece_unknowns" eI de)
  (QN:DY K "rows" Af wX)
  (AZ:DY K "use_rows" kI iH)
  (IH:DY K "summed" qL mH)
  (Ey:DY K "checked" nE kf)
  (QR:DY K "_law_deal" Ai w5)
  (QQ:DY K "_law_draw" Ah wZ)
  (MI:DY K "_law_words" vT pV)
  (ML:DY K "_law_kinds" vW pY)
  (QP:DY K "_law_fill" Ag wY)
  (MM:DY K "_law_ended" vX pZ)
  (QU:DY K "_law_case" Aj w6)
  (QV:DY K "_law_body" Ak sf)
  (Ex:DY K "_law_program" nC ke)
  (QM:DY K "_law_told" Ae wW)
  (yB:DY K "_law_looked_at" jn gp)
  (IJ:DY K "_law_spoilt" qN mJ)
  (MK:DY K "_law_right" vV pX)
  (OB:NI K "law" uZ) (TY:LK K uZ "law" "law" oo Vg Vf Q9 RA Qe RK JE RC U0) (UE:CI K JE "law") (T5:KI K uZ)
  (Sj:NB K "len")
  (Sn:NB K "all")
  (OG:NB K "list")
  (Ku:NB K "tuple")
  (Sk:NB K "int")
  (OI:NB K "bool")
  (OH:NB K "dict")
  (zw:NB K "reversed")
  (Si:NB K "max")
  (Sh:NB K "min")
  (Sg:NB K "sum")
  (Kv:NB K "range")
  (vA:NB K "isinstance")
  (Sf:NB K "zip")
  (xy:NB K "enumerate")
  (vB:NB K "ValueError")
  {hV:J} {Ei:Option J} {rP:Array B} {Iu:Nat} {DN:Array (Option B)}
  (Fx:W.nsIn K mainGlobals "PAYING"=Z (Z (.ref hV))) (Fm:K.lookup hV=Z (.type "tuple",Ei,.seq rP Iu,DN)) (xD:Vals ((["make","call","pay","give"]:List Str).map V.str) rP.toList)
  : ∃fd:Ch,(∀(s:ϋ)(v:B),BindsTo s fd ([v],[]) [("_law_script",v)])/\∀base:Do,K.In base->base.Ns mainGlobals mg->bf l.prog w K mg base CX0 110 fa fd [Zm] (qE K):=by
 have e:=hfa.symm.trans (W.mg_of X G OB);cases e;have n8:=lg Dm Dt Dk;have iS:=lg vE vH vD;have iT:=lg zC zJ zA;have lE:=lg zD zK zB;let(zh,_,oJ):=yA;let(JL,_,zk):=IG;let(pe,_,i6):=oR;let(ph,_,i7):=oU;let(zg,_,oH):=yz;let(Nn,_,C7):=MJ;let(pb,_,i5):=oQ;let(JP,_,zq):=IK;let(ux,_,kB):=uh;let(BF,_,tj):=A2;let(JN,_,zo):=II;let(nU,_,hW):=nP;let(xm,_,m6):=wK;let(sN,_,jT):=rM;let(RL,_,JV):=QK;let(xl,_,m5):=wJ;let(BE,_,sZ):=A1;let(BD,_,sY):=A0;let(uw,_,kA):=ug;let(nV,_,ia):=nQ;let(RN,_,JX):=QN;let(BB,_,sX):=AZ;let(JM,_,zm):=IH;let(Ff,_,vx):=Ey;let(RQ,_,J0):=QR;let(RP,_,JZ):=QQ;let(Nm,_,C6):=MI;let(Nq,_,C9):=ML;let(RO,_,JY):=QP;let(Nr,_,Dc):=MM;let(RR,_,J1):=QU;let(RT,_,J3):=QV;let(Fe,_,vw):=Ex;let(RM,_,JW):=QM;let(zi,_,oK):=yB;let(JO,_,zp):=IJ;let(Np,_,C8):=MK;have OC:=lg TY UE T5;let(jP,_,gu):=wo;let(iP,_,fL):=tZ;have T:Txt K mg (aA,cf,d6,_,bj,b9,_,bV,a7,cG,_,cq,bI,c8,_,dg,aP,dP,_,aJ,df,_,gn,_,mG,_,dC,_,dD,_,gm,_,pW,_,dB,_,mK,_,eZ,_,iK,_,mI,_,c9,_,fJ,_,d7,_,wV,_,fH,_,iJ,_,iI,_,eV,_,de,_,wX,_,iH,_,mH,_,kf,_,w5,_,wZ,_,pV,_,pY,_,wY,_,pZ,_,w6,_,sf,_,ke,_,wW,_,gp,_,mJ,_,pX,_,uZ,_,hV):=(gb tN,W.mg_of X G tQ,tO,gb Dj,W.mg_of X G Dv,Dr,n8,Ds,n8.b2,gb vC,W.mg_of X G vI,vF,iS,vG,iS.b3,gb zx,W.mg_of X G zL,zE,gb zy,W.mg_of X G zM,zF,iT,zH,iT.b2,gb Di,W.mg_of X G Du,Dp,gb zz,W.mg_of X G zN,zG,lE,zI,lE.b2,gb Fo,W.mg_of X G Fv,Ft,(Mp,Mn,Mm,Ml),W.mg_of X G Mh,(Mj,jP.1,jP.2,Mi),t6,t7,yb,gu,jP,gu.b4,(Ig,Ie,Ic,Ib),W.mg_of X G HZ,(Ia,iP.1,iP.2,H0),Ay,t5,q5,q9,l6,fL,iP,fL.b6,of_decide_eq_true xnd,(oJ,W.mg_of X G zh,oJ.b2),(zk,W.mg_of X G JL,zk.b2),(i6,W.mg_of X G pe,i6.b2),(i7,W.mg_of X G ph,i7.b2),(oH,W.mg_of X G zg,oH.b2),(C7,W.mg_of X G Nn,C7.b1),(i5,W.mg_of X G pb,i5.b2),(zq,W.mg_of X G JP,zq.b1),(kB,W.mg_of X G ux,kB.b2),(tj,W.mg_of X G BF,tj.b4),(zo,W.mg_of X G JN,zo.b2),(hW,W.mg_of X G nU,hW.b2),(m6,W.mg_of X G xm,m6.b4),(jT,W.mg_of X G sN,jT.b5),(JV,W.mg_of X G RL,JV.b4),(m5,W.mg_of X G xl,m5.b4),(sZ,W.mg_of X G BE,sZ.b1),(sY,W.mg_of X G BD,sY.b1),(kA,W.mg_of X G uw,kA.b3),(ia,W.mg_of X G nV,ia.b2),(JX,W.mg_of X G RN,JX.b1),(sX,W.mg_of X G BB,sX.b4),(zm,W.mg_of X G JM,zm.b2),(vx,W.mg_of X G Ff,vx.b2),(J0,W.mg_of X G RQ,J0.b2),(JZ,W.mg_of X G RP,JZ.b2),(C6,W.mg_of X G Nm,C6.b2),(C9,W.mg_of X G Nq,C9.b2),(JY,W.mg_of X G RO,JY.b3),(Dc,W.mg_of X G Nr,Dc.b5),(J1,W.mg_of X G RR,J1.b5),(J3,W.mg_of X G RT,J3.b5),(vw,W.mg_of X G Fe,vw.b3),(JW,W.mg_of X G RM,JW.b2),(oK,W.mg_of X G zi,oK.b1),(zp,W.mg_of X G JO,zp.b3),(C8,W.mg_of X G Np,C8.b3),(OC,W.mg_of X G OB,OC.b1),W.mg_none_of X G Sj,W.mg_none_of X G Sn,W.mg_none_of X G OG,W.mg_none_of X G Ku,W.mg_none_of X G Sk,W.mg_none_of X G OI,W.mg_none_of X G OH,W.mg_none_of X G zw,W.mg_none_of X G Si,W.mg_none_of X G Sh,W.mg_none_of X G Sg,W.mg_none_of X G Kv,W.mg_none_of X G vA,W.mg_none_of X G Sf,W.mg_none_of X G xy,W.mg_none_of X G vB,W.mg_of X G Fx,λ_=>.inr (_,_,_,Fm,U,U,DL xD,xD))
 exact(W.fnOf "law" "law" (dE oo) (bP oo) (aw oo) .none Q9 RA Qe RK JE RC,λs v=>.of_eq U,λbase _ _=>Qs T)
theorem walk{l:W.OpenLaw}{q:Da}{loose:List Str}{XP:(Str->Option B)->Do->Prop}{P:Cl->Do->Prop}{d:DefRec}{K:Params->BT}(hn:l.most=Z 63)(g:d.params.defaults=[])
  (Q:∀(w:Cl)(h:Do),P w h->(K w.params).In h)
  (F:∀(w:Cl)(mg:Str->Option B)(fa:J)(h:Do),(K w.params).In h->h.Ns mainGlobals mg->mg d.name=Z (.ref fa) ->
   ∃fd:Ch,(∀(s:ϋ)(u:B),BindsTo s fd ([u],[]) [("_law_script",u)])/\∀base:Do,(K w.params).In base->base.Ns mainGlobals mg->bf l.prog w (K w.params) mg base CX0 110 fa fd [Zm] (qE (K w.params))):
  W.WalkO q loose XP P l.row.toRowW d [] (λf vs=>PySem.call f vs) :=
 L2.KA (n:=63) (k:=110) (x:="_law_script") (CX:=λ_=>CX0) (sp:=λw=>qE (K w.params)) hn (by decide) g (U,by decide,by decide) Q F (λ_ _ a ns hl hO V=>(a,ns,U,Uv hO V,hl,λ_=>rfl)) λ_ _ _ _ _ z=>z
end K33
namespace PySem.W.Fast
def tw10011091788059381232:=Nat
def tw10028840673830195019:=Nat
def tw10123489476842816831:=Nat
def tw10159677199001743595:=Nat
def tw10184523108460991052:=Nat
def tw10226577138374098875:=Nat
def tw10307916367946839992:=Nat
def tw10380712484769772096:=Nat
def tw10396457582636702842:=Nat
def tw1050599756707218545:=Nat
def tw10565113884754637277:=Nat
def tw10595174188296998937:=Nat
def tw10655285001518194607:=Nat
def tw1071780550971575578:=Nat
def tw1080208683968778063:=Nat
def tw10821295172933327823:=Nat
def tw10839177550635502798:=Nat
def tw10847939367600792028:=Nat
def tw10860394990622809420:=Nat
def tw10903801391369627994:=Nat
def tw11033232898805684739:=Nat
def tw11206164117775517605:=Nat
def tw11218867247898556175:=Nat
def tw11260582943114971493:=Nat
def tw11279777095451258735:=Nat
def tw11343053873713900298:=Nat
def tw11399288178854391757:=Nat
def tw11429339635557439055:=Nat
def tw11459460602636137173:=Nat
def tw11475478947873390402:=Nat
def tw11481431125064288490:=Nat
def tw11497509525349373338:=Nat
def tw11562493215853602284:=Nat
def tw11575964911763225073:=Nat
def tw11627267541802872393:=Nat
def tw11766992637682842726:=Nat
def tw11776688388711347734:=Nat
def tw11810223448206107264:=Nat
def tw11908299118623022553:=Nat
def tw11957489449780758201:=Nat
def tw12027921231970208906:=Nat
def tw12058252614401048298:=Nat
def tw12127763365001505068:=Nat
def tw12415585458784321617:=Nat
def tw12532640006430838193:=Nat
def tw12543873570083613540:=Nat
def tw12572195971238245557:=Nat
def tw12573551287314210495:=Nat
def tw12701066490808015285:=Nat
def tw12768810230050303165:=Nat
def tw1280613845864548164:=Nat
def tw1284087909791979293:=Nat
def tw12842764138868979688:=Nat
def tw12850070684241814499:=Nat
def tw12880548581208288765:=Nat
def tw12889439312005293161:=Nat
def tw12938256527124876248:=Nat
def tw13019981120053603547:=Nat
def tw13046407594718523708:=Nat
def tw13061332636711098016:=Nat
def tw13489475307949278673:=Nat
def tw13668551029374518811:=Nat
def tw13702713951085761432:=Nat
def tw13846066779026639241:=Nat
def tw13855814365805150006:=Nat
def tw13905481222479345810:=Nat
def tw13920839839491609638:=Nat
def tw13946907130698601191:=Nat
def tw13994974541136481147:=Nat
def tw14082963750084812575:=Nat
def tw14091263481406198424:=Nat
def tw14114726576795640666:=Nat
def tw14161920102957038059:=Nat
def tw14272326250882574903:=Nat
def tw14296875134984604302:=Nat
def tw14322640726157717032:=Nat
def tw14332746350572359800:=Nat
def tw14343865092013421415:=Nat
def tw1440568628834995180:=Nat
def tw14416376800637525548:=Nat
def tw14511249181308012806:=Nat
def tw14662999848587118142:=Nat
def tw1468226495908400303:=Nat
def tw14789233803569124083:=Nat
def tw14796366281228157361:=Nat
def tw14885881395698511327:=Nat
def tw14902802878381347860:=Nat
def tw14933379716447526408:=Nat
def tw14959465416463541448:=Nat
def tw15098329436598464731:=Nat
def tw15106119375503216389:=Nat
def tw15108421116700386391:=Nat
def tw15126538882810450415:=Nat
def tw15155120206046069155:=Nat
def tw1515669740204040876:=Nat
def tw15174856641077000157:=Nat
def tw15180941095013234338:=Nat
def tw15332905763451764900:=Nat
def tw15369600889355056102:=Nat
def tw15381905434916394620:=Nat
def tw15418215403097815284:=Nat
def tw1551994411377080395:=Nat
def tw15564691486041866341:=Nat
def tw1564036484816574344:=Nat
def tw15694445260052310440:=Nat
def tw15702569057924922465:=Nat
def tw15761449836108250966:=Nat
def tw15926037059527341788:=Nat
def tw15961170758853453165:=Nat
def tw15973489182257348285:=Nat
def tw1600693815628288113:=Nat
def tw16012967843752274826:=Nat
def tw1601644953105761240:=Nat
def tw16082477857671458897:=Nat
def tw16253727205703820192:=Nat
def tw16368648035077276818:=Nat
def tw16382192146994868364:=Nat
def tw16446322242086616523:=Nat
def tw16453967368459240431:=Nat
def tw16455986852376416852:=Nat
def tw16667809770304353054:=Nat
def tw16695475410861672055:=Nat
def tw16866710965768023435:=Nat
def tw16886557245521278374:=Nat
def tw16943399516157710021:=Nat
def tw17005928818880187851:=Nat
def tw17086908727776999755:=Nat
def tw1714178019605880238:=Nat
def tw1716521336120597556:=Nat
def tw17187951692237883703:=Nat
def tw17198846387203382865:=Nat
def tw17426171660975460862:=Nat
def tw17473945350732608680:=Nat
def tw17477888729531837278:=Nat
def tw17526324312807272436:=Nat
def tw17600539925122471185:=Nat
def tw17636205871445203595:=Nat
def tw17871594815650539988:=Nat
def tw1791305397814943034:=Nat
def tw18081964610291350609:=Nat
def tw1813725563356016888:=Nat
def tw18203062680341448347:=Nat
def tw18207858113108662165:=Nat
def tw1827436563683841969:=Nat
def tw18350116871557900430:=Nat
def tw1837673861642856641:=Nat
def tw18389602045629798036:=Nat
def tw1864196108437706098:=Nat
def tw2187678582899069329:=Nat
def tw2213546868906610532:=Nat
def tw2638045555340391841:=Nat
def tw263976592284638156:=Nat
def tw2733638577706658207:=Nat
def tw2774338111797722051:=Nat
def tw2879800229045873310:=Nat
def tw3009407587708722252:=Nat
def tw3237701725274136770:=Nat
def tw3258232411859874053:=Nat
def tw3329093803392543022:=Nat
def tw3339507179418227196:=Nat
def tw3398681184128746302:=Nat
def tw3398921555237214916:=Nat
def tw3420147522846460572:=Nat
def tw3442259314749961088:=Nat
def tw3495823668158580320:=Nat
def tw3526273132586824343:=Nat
def tw3567089018762566097:=Nat
def tw3621791010686716144:=Nat
def tw3632314729173580839:=Nat
def tw3729133264355308474:=Nat
def tw377943541346580299:=Nat
def tw3807478480532701909:=Nat
def tw3807550810767532893:=Nat
def tw388482473230045162:=Nat
def tw3888801618785003896:=Nat
def tw3901284618035909794:=Nat
def tw3907481770117301898:=Nat
def tw3959033001099456363:=Nat
def tw4043718425704134135:=Nat
def tw4097380815702722420:=Nat
def tw4141061353651427241:=Nat
def tw4202507752878704421:=Nat
def tw4224470938752473080:=Nat
def tw4240952856219116436:=Nat
def tw4271852738400072984:=Nat
def tw4319984426812781724:=Nat
def tw4338007490839280550:=Nat
def tw44004026633893172:=Nat
def tw4449142536617195021:=Nat
def tw4472813167786727097:=Nat
def tw4505143308831257056:=Nat
def tw4856887059868024378:=Nat
def tw4875944435447165907:=Nat
def tw4918948656932485522:=Nat
def tw4962948795462303155:=Nat
def tw503001487225374192:=Nat
def tw5031490271310201094:=Nat
def tw504898587902504469:=Nat
def tw5128291534502328026:=Nat
def tw5203550601059062143:=Nat
def tw5309811813153358619:=Nat
def tw5564463228377411932:=Nat
def tw5572200411087944855:=Nat
def tw572759773736076711:=Nat
def tw6069682247644957916:=Nat
def tw6119630887043535309:=Nat
def tw6183266062578764719:=Nat
def tw6216390080727225984:=Nat
def tw6273085904521149776:=Nat
def tw6295061578418965000:=Nat
def tw63637146512483743:=Nat
def tw6373237535105278480:=Nat
def tw6384232105199900845:=Nat
def tw6487324115271003087:=Nat
def tw6668909535057373123:=Nat
def tw6708425217004428123:=Nat
def tw6711996239247881693:=Nat
def tw6773505483519341885:=Nat
def tw6864230183116838813:=Nat
def tw6956199507000699683:=Nat
def tw6974220949195302935:=Nat
def tw6980801745459329480:=Nat
def tw7100290829557021526:=Nat
def tw7396046338170210295:=Nat
def tw7399276653356691829:=Nat
def tw7417945468272043567:=Nat
def tw7488150347492764350:=Nat
def tw7527264538993410141:=Nat
def tw7561660600005791408:=Nat
def tw7828056203037783469:=Nat
def tw7845644045319405949:=Nat
def tw7891453278470097351:=Nat
def tw7908176275885104779:=Nat
def tw8066028600874573594:=Nat
def tw8095326556553713354:=Nat
def tw8165512784911480125:=Nat
def tw8287883310830020354:=Nat
def tw8323892891569170845:=Nat
def tw8335334971847024909:=Nat
def tw8366138559609536661:=Nat
def tw8686469212886831987:=Nat
def tw8878470458197157891:=Nat
def tw8930601901317555569:=Nat
def tw8932296305267899659:=Nat
def tw8948250972969200503:=Nat
def tw8966044590312390980:=Nat
def tw9112650373863775645:=Nat
def tw9215125819873606890:=Nat
def tw9339827018698594180:=Nat
def tw9340304576810141934:=Nat
def tw948182060947159485:=Nat
def tw9531772629374791164:=Nat
def tw9555004664812228867:=Nat
def tw9568149247146379494:=Nat
def tw9641049735300511074:=Nat
def tw9649569603112383206:=Nat
def tw9670072004074604284:=Nat
def tw9736992296444590790:=Nat
def tw9774351305983471916:=Nat
def tw9813399104863604884:=Nat
def tw9956292295058776795:=Nat
end PySem.W.Fast
open PySem PySem.W PyProof.Rows
set_option maxRecDepth 100000 in
set_option maxHeartbeats 0 in
theorem PySem.Challenge.cw_pursewright_k33_papers_of_another_form_holds : PySem.Challenge.rw_pursewright_k33_papers_of_another_form.Holds := by
 w_on;o_law;k_head;(case hw=>w_witness2)
 k_fill
 refine K33.walk (l:=PySem.Challenge.rw_pursewright_k33_papers_of_another_form) rfl rfl (fun w h Y=>PySem.W.kIn_of Y) ?F
 case F =>
  intro w mg fa h KX G hmg;refine' K33.all_mk KX G hmg ..
  all_goals try first|refine' L2.DY.of ?_ ?_ ?_ ?_|refine' L2.DM.of ?_ ?_ ?_ ?_ ?_
  all_goals try delta L2.NI L2.LK L2.CI L2.KI L2.NB L2.bR
  all_goals try first|k_is|kernel_rfl|repeat (first|exact .nil|refine .cons ⟨_,rfl⟩ ?_)