import PyProof.Rows.All
import Wide.All
import OpenK.AllK
import Wide.FinOn
import Lean
import PyProof.EqAt
import PyProof.EqKinds
import PyProof.TupleCall
import PyProof.InstStoreFacts
import PySem.Challenge.RW_pursewright_k30_the_first_row_not_kept
set_option Elab.async false
set_option linter.all false
set_option maxRecDepth 100000
local macro_rules|`(tactic|symm)=>`(tactic|exact ⟨rfl,rfl,rfl,by decide +kernel,rfl,by decide +kernel,by decide +kernel⟩)
open List renaming length_map→dN,mem_singleton→fy,getElem?_eq_getElem→gs,getElem?_map→gV,getElem?_eq_some_iff→iY,mem_cons_of_mem→jQ,length_append→jR,mem_cons_self→lj,mem_of_getElem?→mu,mem_append→n6,mem_map→n8,mem_cons→pj,map_append→pz,nodup_nil→p7,mem_append_right→qg,mem_append_left→qp,length_cons→ri,take_add_one→ro,append_nil→rD,take_length→sP,size_toArray→sQ,length_take→sR,getElem_of_mem→uj,replicate→uA,map_map→u4,length_singleton→vb,nodup_cons→v3,lookup_cons→wh,length_eq_zero_iff→xw,append_assoc→xx,not_mem_nil→xy,map_cons→x2,contains_cons→BU,getD_eq_getElem?_getD→BV,getElem?_append_left→Dr,append_eq_nil_iff→Fq,nodup_append→Fs,getElem?_append_right→M1,range→N6,getElem?_set_ne→N8,length→N9,find?_cons→Pt,filter_cons_of_pos→QG,mem_of_mem_take→QL,length_set→SO,getElem_mem→SR,getElem?_eq_none→UZ,length_drop→WT,all_eq_true→WU,any_eq_true→WX,filter_cons_of_neg→WY,getElem?_set_self→W0,replicate_succ→W4,length_pos_iff→W5,getElem?_zip_eq_some→W6,mem_flatMap→W8,take_sublist→W9,length_nil→Xb,cons_ne_nil→Xf,length_zip→Xi,lookup→Xj,pairwise_map→Xl,any_cons→Xn,set_eq_of_length_le→Xo,map_congr_left→Xp,mem_range→Xq,append_cancel_left→Xr,any_map→Xs,of_mem_zip→Xt,getElem?_toArray→Xy,drop_left→XE,mem_or_eq_of_mem_set→XM,sum_cons→XN,mem_filter→XQ,forIn_cons→XS,reverse_cons→XW,drop_eq_nil_of_le→X0,length_replicate→X3,drop_length→X5,map_take→X6,take_append_of_le_length→X8,mem_of_mem_drop→X9,filterMap_cons→Yb,nodup_iff_pairwise_ne→Ye,map_inj_right→Yf,mem_of_find?_eq_some→Yg,sublist_append_right→Yi,drop_eq_getElem_cons→Yj,any_eq_false→Yk,foldl_append→Ym,getElem?_take_of_lt→Yo,map_drop→Yp,getElem_inj→Yq,getElem?_replicate→Yr,cons_append→Yt,map_fst_zip→Yv,sublist_nil→Yw,take_of_length_le→Yz,range_succ→YB,length_filter_le→YC,eq_nil_or_concat→YD,dropLast_concat→YG,zip→YH,drop_zero→YI,take_zero→YJ,length_reverse→YM,flatMap_append→YO,filter_sublist→YQ,mem_filterMap→YS,pairwise_cons→YX,foldl→YY,ext_getElem?→Y0,all_map→Y3,getElem?_inj→Y4,nodup_range→Y6,zipIdx_cons→Y7
open PySem renaming wpAny_bind→fu,wpAny_pure→mX,starEach→pq,sizeLine→pY,wpAny_holding→FH,wpAny_mono→SH,codeAny_builtin→SQ,wpAny_call_entry→S9,plainId_quiet→UY,wpAny_Call_Name_kw→WK,wpAny_typeOf→WV,wpAny_updateSeq→WW,wpAny_newObj_type→Xa,wpAny_rule→Xc,sizeLine_eq→Xe,wpAny_specialOf→Xv,wpAny_isInstance→XJ,wpAny_attempt→XO,wpAny_setField→X1,GenState→YK,PassesOwn→YL,DictEntry→Y8
open PySem.Heap renaming get?_push_of_some→f9,lt_size→kn,get?_push_size→px,get?_update_other→uk,get?_update_self→v5,size_push→BS,get?_none_of_le→U9,MadeExcOf→XA,SameBut→XF,get?_push_cases→YF,get?_update_ne→YN,get?_push_at→Y2,ExtBut→Za
open Option renaming map_eq_some_iff→g5,isSome_map→Xz,map_some→Ya,isSome_iff_exists→Yn,bind_eq_some_iff→Yu,getD_none→Y5
open Nat renaming le_refl→ot,lt_of_lt_of_le→sS,ne_of_lt→sT,le_trans→ui,le_of_lt→vr,ne_of_gt→E3,zero_le→FI,zero_add→Ks,lt_irrefl→Kt,min_eq_left→SM,lt_succ_self→W7,lt_of_le_of_lt→Xg,lt_succ_of_lt→Xk,le_max_left→Xu,lt_of_sub_eq_succ→Xx,lt_trans→XG,le_of_lt_succ→XZ,add_le_add_left→Yc,sub_succ→Yd,min_le_right→Ys,le_of_eq→Yx,mod_lt→YU,mod_mod_of_dvd→YV,le_succ→Y9,sub_le→Zb
open Bool renaming false_ne_true→sU,and_eq_true→u6,eq_iff_iff→XR,false_eq_true→XU,or_true→XY,eq_false_iff→Yl,true_or→Yy,and_false→YE,false_or→YR
open PySem.Obj renaming mapSeq→Wb,data_mapFields→Xh,isFreed_of_fields→Xw,mapFields→X7,cls_mapFields→Y1
open Int renaming le_refl→WZ,toNat_natCast→W2,toNat_of_nonneg→W3,le_trans→XH,zero_add→XI,natCast_nonneg→XT,natCast_mul→YA,toNat_le→YZ
open Array renaming length_toList→Xd,getElem?_eq_some_iff→XC,getElem?_eq_none→XX,getElem?_toList→X4,getElem?_eq_getElem→Yh,find?_toList→YT,forIn_toList→YW
open PySem.Around renaming under_plainId→Xm
open Option renaming some→Z,none→Y
open Bool renaming true→O,false→ϊ
open PySem renaming Value→B,Addr→J,Shared→ϋ
def U{α:Sort u}{a:α}:a=a:=rfl
open Lean in
def lp:Nat->Syntax->MacroM (TSyntax `rcasesPat)
|n+1,s=>match s with
 |`(($a,$b,*))=>do let c<-(#[a]++b.getElems).mapM λx=>lp n x;`(rcasesPat|⟨$[$c:rcasesPat],*⟩)
 |`(⟨$a,*⟩)=>do let c<-a.getElems.mapM λx=>lp n x;`(rcasesPat|⟨$[$c:rcasesPat],*⟩)
 |`($x:ident)=>let y:=if x.getId==`U then mkIdent `rfl else x;`(rcasesPat|$y:ident)
 |_=>`(rcasesPat|_)
|_,_=>`(rcasesPat|_)
local macro_rules|`(tactic|let $p:term:=$e)=>do`(tactic|obtain $(<-lp 9 p):rcasesPat:=$e)
local macro_rules|`(($a,$b,*))=>`(⟨$a,$b,*⟩)
open PySem.W renaming Frag→BT
open PySem renaming FuncData→Ch,World→Cl,Program→Da,Around→Db,Heap→Do,Expr→Ev,Stmt→EQ
open Lean in
local macro_rules|`(tactic|left)=>`(tactic|intro $(mkIdent `gd):ident $(mkIdent `s):ident $(mkIdent `σ):ident $(mkIdent `H):ident $(mkIdent `Q):ident $(mkIdent `I):ident $(mkIdent `h):ident)
open Lean in
local macro_rules|`(tactic|right)=>`(tactic|intro $(mkIdent `gd):ident $(mkIdent `s):ident $(mkIdent `σ):ident $(mkIdent `H):ident $(mkIdent `D):ident $(mkIdent `I):ident $(mkIdent `h):ident)
local macro_rules|`(tactic|omega)=>`(tactic|lia)
local macro_rules|`(nofun)=>`(fun _ z=>nomatch z)
local macro_rules|`(($e :))=>`(by simpa using $e)
local macro_rules|`(~~~$e)=>`({cls:=.type "list",data:=.seq $e})
local macro_rules|`($a^^^$b)=>`({cls:=.type "list",data:=.seq $a $b})
def ac{p:Prop}(h:p:=by decide):p:=h
def ad{p:Prop}(h:p:=by simp):p:=h
def ap{p:Prop}(h:p:=by omega):p:=h
def ba{p:Prop}(h:p:=by rfl):p:=h
theorem zdc(h:True:=by decide):True:=h
theorem zrf(h:True=True:=by rfl):True=True:=h
local macro_rules|`(‹$t›)=>`(autoParam $t zrf._auto_1)
noncomputable section
set_option bootstrap.genMatcherCode false
set_option genSizeOf false
set_option genInjectivity false
namespace L2
open PySem PySem.Spec PyProof.Rows
abbrev Key:=Sum Int Str
def uX:Key->B->Bool
 |.inl k,v=>B.isInt k v
 |.inr x,v=>B.isStrOf x v
def V4(w:Cl):Key->Int
 |.inl k=>hashInt k
 |.inr x=>hashStr w x
theorem bS:∀{k:Key}{v:B},uX k v=O->(∃i t,k=Sum.inl i/\v=B.int i t)\/(∃x t,k=Sum.inr x/\v=B.str x t)
 |.inl i,v,h=>by
  let(t,e):=B.isInt_shape h;exact .inl (i,t,U,e)
 |.inr x,v,h=>by
  let(t,e):=B.isStrOf_shape h;exact .inr (x,t,U,e)
def EU(i:Int)(t:Tok):uX (.inl i) (.int i t)=true:=by simp[uX,B.isInt]
def ET(x:Str)(t:Tok):uX (.inr x) (.str x t)=true:=by simp[uX,B.isStrOf]
def RF(a b:Int):decide ((Sum.inl a:Key)=Sum.inl b)=(a==b):=by
 by_cases e:a=b
 ·subst e;simp
 ·have h:¬(Sum.inl a:Key)=Sum.inl b:=λq=>e (Sum.inl.inj q)
  rw[decide_eq_false h];exact(beq_eq_false_iff_ne.mpr e).symm
def RC(a b:Str):decide ((Sum.inr a:Key)=Sum.inr b)=decide (a=b):=by
 by_cases e:a=b
 ·simp
 ·have h:¬(Sum.inr a:Key)=Sum.inr b:=λq=>e (Sum.inr.inj q)
  rw[decide_eq_false h,decide_eq_false e]
def RE(a:Int)(b:Str):decide ((Sum.inl a:Key)=Sum.inr b)=false:=decide_eq_false (λq=>nomatch q)
def RD(a:Str)(b:Int):decide ((Sum.inr a:Key)=Sum.inl b)=false:=decide_eq_false (λq=>nomatch q)
def bf(prog:Da)(w:Cl):PySem.KeyKind prog w Key where
 is:=uX
 hash:=V4 w
 inj:=λv a b ha q=>by
  obtain⟨i,t,rfl,rfl⟩|⟨x,t,rfl,rfl⟩:=bS ha
  ·obtain⟨j,u,rfl,e⟩|⟨y,u,rfl,e⟩:=bS q
   ·injection e with g _;rw[g]
   ·exact nomatch e
  ·obtain⟨j,u,rfl,e⟩|⟨y,u,rfl,e⟩:=bS q
   ·exact nomatch e
   ·injection e with g _;rw[g]
 byValue:=λk v h=>by
  obtain⟨i,t,rfl,rfl⟩|⟨x,t,rfl,rfl⟩:=bS h <;> rfl
 pyHash:=λhv h=>by
  obtain⟨i,t,rfl,rfl⟩|⟨x,t,rfl,rfl⟩:=bS hv
  ·exact wpAny_pyHash_int h
  ·exact wpAny_pyHash_str h
 eqBool:=λz hv h=>by
  obtain⟨i,t,rfl,rfl⟩|⟨x,t,rfl,rfl⟩:=bS z
  ·obtain⟨j,u,rfl,rfl⟩|⟨y,u,rfl,rfl⟩:=bS hv
   ·rw[RF]at h;exact wpAny_eqBool_int h
   ·rw[RE]at h;exact SeqAt.EqAt.int_str i t y u _ _ _ _ h
  ·obtain⟨j,u,rfl,rfl⟩|⟨y,u,rfl,rfl⟩:=bS hv
   ·rw[RD]at h;exact SeqAt.EqAt.str_int x t j u _ _ _ _ h
   ·rw[RC]at h;exact wpAny_eqBool_str h
 «strs»:=λk x t v h=>by
  obtain⟨i,u,rfl,e⟩|⟨y,u,rfl,e⟩:=bS h
  ·exact nomatch e
  ·injection e with g _
   subst g;cases v <;> rfl
def yA(prog:Da)(w:Cl)(i:Int)(t:Tok):(bf prog w).is (.inl i) (.int i t)=true:=EU i t
def yz(prog:Da)(w:Cl)(x:Str)(t:Tok):(bf prog w).is (.inr x) (.str x t)=true:=ET x t
set_option genInjectivity true in
inductive V where
 |non|bl (b:Bool)|int (i:Int)|str (x:Str)|byt (b:Array UInt8)|flt (b:UInt64)|ref (a:J)|ty (n:String)
 deriving DecidableEq
def RelV:V->B->Prop
 |.non,u=>u=B.none
 |.bl b,u=>u=B.bool b
 |.int i,u=>∃t,u=B.int i t
 |.str x,u=>∃t,u=B.str x t
 |.byt b,u=>∃t,u=B.bytes b t
 |.flt b,u=>∃t,u=B.float b t
 |.ref a,u=>u=B.ref a
 |.ty n,u=>u=B.type n
abbrev Vals:List V->List B->Prop:=Paired RelV
theorem Vals.length{xs:List V}{us:List B}(r:Vals xs us):xs.length=us.length:=Paired.length r
theorem Vals.get:∀{xs:List V}{us:List B}{i:Nat}{x:V},Vals xs us->xs[i]?=Z x->∃u,us[i]?=Z u/\RelV x u
 |_,_,_,_,.nil,e=>by simp at e
 |_,_,0,_,.cons r _,e=>by simp at e;subst e;exact(_,U,r)
 |_,_,i+1,x,.cons _ t,e=>by
  let(u,h1,h2):=Vals.get t (e:)
  exact(u,(h1:),h2)
theorem Vals.set{x:V}{u:B}(r:RelV x u):∀{xs:List V}{us:List B}(i:Nat),Vals xs us->Vals (xs.set i x) (us.set i u)
 |_,_,_,.nil=>.nil
 |_,_,0,.cons _ t=>.cons r t
 |_,_,i+1,.cons q t=>.cons q (Vals.set r i t)
variable{us:List B}
def Vals.append{xs ys:List V}{ws:List B}(h:Vals xs us)(s:Vals ys ws):Vals (xs++ys) (us++ws):=by
 induction h with
 |nil=>exact s
 |cons r _ g=>exact .cons r g
theorem Vals.take:∀{xs:List V}{us:List B}(n:Nat),Vals xs us->Vals (xs.take n) (us.take n)
 |_,_,0,_=>.nil
 |_,_,_+1,.nil=>.nil
 |_,_,n+1,.cons r t=>.cons r (Vals.take n t)
theorem Vals.drop:∀{xs:List V}{us:List B}(n:Nat),Vals xs us->Vals (xs.drop n) (us.drop n)
 |_,_,0,r=>r
 |_,_,_+1,.nil=>.nil
 |_,_,n+1,.cons _ t=>Vals.drop n t
def iW:Option V->Option B->Prop
 |some v,Z u=>RelV v u
 |none,Y=>True
 |_,_=>False
def KV{κ:Type}:List (κ×V)->List (κ×B)->Prop:=Paired λ(p:κ×V)(q:κ×B)=>p.1=q.1/\RelV p.2 q.2
def kV:Key->V
 |.inl i=>.int i
 |.inr x=>.str x
inductive HO where
 |lst(xs:List V)
 |tup(xs:List V)
 |dK(kvs:List (Key×V))|dT (kvs:List (List Key×V))
 |set(S:Int->Bool)(n:Nat)
 |ins(C dx:J)(fs:List (Str×V))
 |own(x:J)
 |xd(fs:List (Str×V))
 |room(x:Int)
 |met(f x:J)
 |rng(lo hi:Int)
 |frz(o:Obj)(u:HO)
 |tbl(ps:Array B)
 |ext(φ:Do->Prop)
abbrev Hp:=J->Option HO
def upd(H:Hp)(a:J)(o:HO):Hp:=λb=>if b=a then Z o else H b
variable{H:Hp}{a:J}
def au{o:HO}:upd H a o a=Z o:=by unfold upd;rw[if_pos rfl]
def ao{b:J}{o:HO}(h:b≠a):upd H a o b=H b:=by unfold upd;rw[if_neg h]
def gh{o u:HO}:upd (upd H a o) a u=upd H a u:=by
 funext b;unfold upd;split <;> rfl
def gZ{b:J}{o u:HO}(h:H a=Z o)(h':H b=Z u)(d:o≠u):a≠b:=by
 intro e;subst e;rw[h]at h';exact d (Option.some.inj h')
def aO{b:J}{o:HO}(h:H a=Z o)(h':H b=Y):a≠b:=by
 intro e;subst e;rw[h]at h';cases h'
def lg(h:Do)(a:J)(items:Array B):Prop:=IsTup h a items/\∃o,h.get? a=Z o/\o.dict=Y
theorem lg.new(h:Do)(items:Array B):lg (h.push {cls:=.type "tuple",data:=.seq items}) h.objs.size items:=(IsTup.new _ _,_,px _ U,U)
section
variable(P:Da)(w:Cl)
def bH(H:Hp)(h:Do)(a:J):HO->Prop
 |.lst xs=>xs.length<=pY/\∃(its:List B)(n:Nat),Vals xs its/\h.get? a=Z (its.toArray^^^n)
 |.tup xs=>xs.length<=pY/\∃its:List B,Vals xs its/\lg h a its.toArray
 |.dK kvs=>kvs.length<=pY/\(a==sysModules)=ϊ/\∃vs,KV kvs vs/\h.DictOf (bf P w) a vs
 |.dT kvs=>kvs.length<=pY/\(a==sysModules)=ϊ/\∃xs:List (List Key×J×B),
   Paired (λ(p:List Key×V)(q:List Key×J×B)=>p.1=q.1/\H q.2.1=Z (.tup (p.1.map kV))/\RelV p.2 q.2.2) kvs xs /\
   ∃o es ep,h.get? a=Z o/\o.ExactDict/\o.data=.dict es ep/\es.toList=xs.map (entryOfKey (tupleKind (bf P w)))/\(xs.map (·.1)).Nodup
 |.set S n=>h.SetOf (intKind P w) a S n
 |.ins C dx fs=>H dx=Z (.own a)/\fs.length<=1000/\dx≠a/\h.get? a=Z (W.instObj C dx) /\
   ∃mA,h.Ns1 dx mA/\(∀f,iW (fs.lookup f) (mA f))/\PySem.Within mA (fs.map (·.1))
 |.own _=>∃o,h.get? a=Z o
 |.xd fs=>∃mA,h.Ns1 a mA/\∀f,iW (fs.lookup f) (mA f)
 |.room x=>∃(its:List B)(n:Nat),Vals [.int x] its/\h.get? a=Z (its.toArray^^^n)
 |.rng lo hi=>∃t u v,h.get? a=Z {cls:=.type "range",data:=.fields #[.int lo t,.int hi u,.int 1 v]}
 |.frz o u=>h.get? a=Z o/\bH H h a u
 |.tbl ps=>h.get? a=Z {cls:=.none,data:=.fields ps}
 |.met f x=>h.get? a=Z (W.methodObj (.ref f) (.ref x))
 |.ext φ=>φ h/\(∃o,h.get? a=Z o)/\∀h1 h2:Do,φ h1->(∀o,h1.get? a=Z o->h2.get? a=Z o)->φ h2
def HOk(H:Hp)(h:Do):Prop:=∀a o,H a=Z o->bH P w H h a o
end
section
variable{P:Da}{w:Cl}{H':Hp}{h h':Do}{o:HO}
theorem bH.lt(x:bH P w H h a o):a<h.objs.size:=by
 cases o with
 |lst xs=>let(_,_,_,_,e):=x;exact kn e
 |tup xs=>let(_,_,_,p):=x;exact p.1.lt
 |dK kvs=>let(_,_,_,_,o,_,_,e,_):=x;exact kn e
 |dT kvs=>let(_,_,_,_,o,_,_,e,_):=x;exact kn e
 |set S n=>let(o,_,_,_,e,_):=x;exact kn e
 |ins C dx fs=>let(_,_,_,e,_):=x;exact kn e
 |own y=>let(_,e):=x;exact kn e
 |xd fs=>let(_,(_,_,_,e,_),_):=x;exact kn e
 |room g=>let(_,_,_,e):=x;exact kn e
 |rng lo hi=>let(_,_,_,e):=x;exact kn e
 |frz ob u=>let(e,_):=x;exact kn e
 |tbl ps=>exact kn (x)
 |met f y=>exact kn (x)
 |ext φ=>let(_,(_,e),_):=x;exact kn e
def Paired.Uv{α β:Type}{F G:α->β->Prop}{q:List α}{g:List β}(r:Paired F q g)(f:∀a b,F a b->G a b):Paired G q g:=by
 induction r with
 |nil=>exact .nil
 |cons r _ z=>exact .cons (f _ _ r) z
def bH.dq(x:bH P w H h a o)(k:∀b u,(b=a\/H b=Z (.own a))->h.get? b=Z u->h'.get? b=Z u)
  (ho:∀b,H b=Z (.own a)->H' b=Z (.own a)) (Q:∀b xs,H b=Z (.tup xs)->H' b=Z (.tup xs)):bH P w H' h' a o:=by
 induction o with
 |lst xs=>let(z,its,n,r,e):=x;exact(z,its,n,r,k _ _ (.inl U) e)
 |tup xs=>let(z,its,r,(ob,e,c),o2,g,V):=x;exact(z,its,r,(ob,k _ _ (.inl U) e,c),o2,k _ _ (.inl U) g,V)
 |dK kvs=>let(z,y,vs,r,ob,es,ep,e,c):=x;exact(z,y,vs,r,ob,es,ep,k _ _ (.inl U) e,c)
 |dT kvs =>
  let(z,y,xs,r,ob,es,ep,e,c):=x;exact(z,y,xs,Paired.Uv r λp q z=>(z.1,Q _ _ z.2.1,z.2.2),ob,es,ep,k _ _ (.inl U) e,c)
 |set S n=>let(ob,es,ep,t,e,c):=x;exact(ob,es,ep,t,k _ _ (.inl U) e,c)
 |ins C dx fs =>
  let(d,z,ne,e,mA,(od,es,ep,g,c),r):=x;exact(ho _ d,z,ne,k _ _ (.inl U) e,mA,(od,es,ep,k _ _ (.inr d) g,c),r)
 |own y=>let(ob,e):=x;exact(ob,k _ _ (.inl U) e)
 |xd fs=>let(mA,(od,es,ep,e,c),r):=x;exact(mA,(od,es,ep,k _ _ (.inl U) e,c),r)
 |room x'=>let(t,u,v,e):=x;exact(t,u,v,k _ _ (.inl U) e)
 |rng lo hi=>let(t,u,v,e):=x;exact(t,u,v,k _ _ (.inl U) e)
 |frz ob u K=>let(e,q):=x;exact(k _ _ (.inl U) e,K q)
 |tbl ps =>
  have e:=x;exact k a _ (.inl U) e
 |met f y =>
  have e:=x;exact k a _ (.inl U) e
 |ext φ=>let(p,(o,e),st):=x;exact(st _ _ p λo q=>k _ _ (.inl U) q,(o,k _ _ (.inl U) e),st)
theorem HOk.lt(x:HOk P w H h)(e:H a=Z o):a<h.objs.size:=(x a o e).lt
def HOk.fresh(x:HOk P w H h)(e:h.objs.size<=a):H a=none:=by
 cases q:H a with
 |none=>rfl
 |some u=>exact absurd (sS (x.lt q) e) (Kt _)
def HOk.kept(x:HOk P w H h)(k:∀b u,h.get? b=Z u->h'.get? b=Z u):HOk P w H h':=λa o e =>
 (x a o e).dq (λb u _ q=>k b u q) (λ_ q=>q) λ_ _ q=>q
def HOk.laid(x:HOk P w H h)(k:∀b u,h.get? b=Z u->h'.get? b=Z u)(hp:h.objs.size<=a)(new:bH P w (upd H a o) h' a o):HOk P w (upd H a o) h':=λb u e=>by
 have hn:=x.fresh hp;by_cases g:b=a
 ·subst g;rw[au]at e;cases e;exact new
 ·rw[ao g]at e;exact(x b u e).dq (λc v _ q=>k c v q) (λc q=>by rw[ao (aO q hn)];exact q) λc xs q=>by rw[ao (aO q hn)];exact q
end
def Rd(H:Hp)(a:J)(u:HO):Prop:=H a=Z u\/∃o,H a=Z (.frz o u)
variable{P:Da}
def Rd.ok{w:Cl}{h:Do}{u:HO}(r:Rd H a u)(x:HOk P w H h):bH P w H h a u:=by
 obtain r |⟨o,r⟩:=r
 ·exact x a u r
 ·let(_,q):=x a _ r;exact q
def Mut:Option HO->Prop
 |some (.lst _)=>True
 |some (.dK _)=>True
 |some (.dT _)=>True
 |some (.set _ _)=>True
 |some (.ins _ _ _)=>True
 |some (.ext _)=>True
 |some (.room _)=>True
 |_=>False
section
variable{w:Cl}{h h':Do}{x e:J}{o':HO}
def HOk.write(ok:HOk P w H h)(K:Mut (H x))(he:e=x\/H e=Z (.own x))(k:∀b u,b≠e->h.get? b=Z u->h'.get? b=Z u)(ak:∃u,h'.get? e=Z u)
  (new:bH P w (upd H x o') h' x o'):HOk P w (upd H x o') h':=λb u q=>by
 have Ur:∀c y,H c=Z (.own y)->c≠x:=λc y r z=>by subst z;rw[r]at K;exact K
 have VR:∀c xs,H c=Z (.tup xs)->c≠x:=λc xs r z=>by subst z;rw[r]at K;exact K
 by_cases V:b=x
 ·subst V;rw[au]at q;cases q;exact new
 ·rw[ao V]at q;by_cases g:b=e
  ·have q':H b=Z (.own x):=by
    obtain z|z:=he
    ·exact absurd (g.trans z) V
    ·rw[g];exact z
   rw[q]at q';cases q';let(v,hv):=ak;exact(v,by rw[g];exact hv)
  ·refine(ok b u q).dq (λc v Q r=>k c v ?_ r) (λc r=>by rw[ao (Ur c b r)];exact r) λc xs r=>by rw[ao (VR c xs r)];exact r
   obtain rfl|Q:=Q
   ·exact g
   ·rintro rfl
    obtain z|z:=he
    ·exact Ur c b Q z
    ·rw[Q]at z;cases z;exact V U
end
structure Un(fs ex:List J)(H H':Hp)(h h':Do):Prop where
 keep:∀b o,h.get? b=Z o->H b=Y->b ∉ fs->b ∉ ex->h'.get? b=Z o
 slot:∀b o,h.get? b=Z o->H b=Y->b∈fs->b ∉ ex->∃sl,h'.get? b=Z {o with slots:=sl}
 free:∀b o,h.get? b=Z o->H b=Y->b ∉ ex->H' b=Y
 there:∀b o,h.get? b=Z o->b ∉ ex->∃o',h'.get? b=Z o'
 lG:∀b xs,H b=Z (.tup xs)->H' b=Z (.tup xs)
 jl:∀b o u,H b=Z (.frz o u)->H' b=Z (.frz o u)
 lH:∀b ps,H b=Z (.tbl ps)->∃more,H' b=Z (.tbl (ps++more))
variable{ob:Obj}
section
variable{fs ex:List J}{H1:Hp}{h h1 h':Do}{x e:J}{o:HO}
def Un.any(u:Un fs ex H H1 h h1){b:J}(q:h.get? b=Z ob)(n:H b=Y)(hx:b ∉ ex):∃sl,h1.get? b=Z {ob with slots:=sl}:=by
 by_cases g:b∈fs
 ·exact u.slot b ob q n g hx
 ·exact(ob.slots,u.keep b ob q n g hx)
def Un.kept(k:∀b u,h.get? b=Z u->h'.get? b=Z u):Un fs ex H H h h':=
 (λb ob q _ _ _=>k b ob q,λb ob q _ _ _=>(ob.slots,k b ob q),λ_ _ _ n _=>n,λb ob q _=>(ob,k b ob q),λ_ _ q=>q,λ_ _ _ q=>q,λ_ ps q=>(#[],by rw[q];simp))
def Un.refl:Un fs ex H H h h:=Un.kept λ_ _ q=>q
def Un.laid(k:∀b u,h.get? b=Z u->h'.get? b=Z u)(hp:h.objs.size<=a)(hn:H a=Y):Un fs ex H (upd H a o) h h' where
 keep:=λb u q _ _ _=>k b u q
 slot:=λb u q _ _ _=>(u.slots,k b u q)
 free:=λb u q n _=>by rw[ao (sT (sS (kn q) hp))];exact n
 there:=λb u q _=>(u,k b u q)
 lG:=λb xs q=>by rw[ao (aO q hn)];exact q
 jl:=λb u xs q=>by rw[ao (aO q hn)];exact q
 lH:=λb ps q=>(#[],by rw[ao (aO q hn),q];simp)
def Un.write(K:Mut (H x))(he:e=x\/H e=Z (.own x))(k:∀b u,b≠e->h.get? b=Z u->h'.get? b=Z u)(P:∃u,h'.get? e=Z u):Un fs ex H (upd H x o) h h':=by
 have hx:∀b,H b=Y->b≠x:=λb n z=>by subst z;rw[n]at K;exact K
 have Q:∀b,H b=Y->b≠e:=λb n z=>by
  subst z;obtain r|r:=he
  ·exact hx b n r
  ·rw[n]at r;cases r
 have hm:∀b u,H b=Z u->¬ Mut (Z u)->b≠x:=λb u q nm z=>by subst z;rw[q]at K;exact nm K
 refine(λb u q n _ _=>k b u (Q b n) q,λb u q n _ _=>(u.slots,k b u (Q b n) q),λb u q n _=>by rw[ao (hx b n)];exact n,λb u q _=>?_,
  λb xs q=>by rw[ao (hm b _ q λz=>z)];exact q,λb u xs q=>by rw[ao (hm b _ q λz=>z)];exact q,λb ps q=>(#[],by rw[ao (hm b _ q λz=>z),q];simp))
 by_cases g:b=e
 ·subst g;exact P
 ·exact(u,k b u g q)
end
def trk(h:Do)(H:Hp):List Addr:=(N6 h.objs.size).filter λa=>(H a).isSome
def yP(h:Do)(H:Hp):Do:=W.hideAll h (trk h H)
theorem E1(h:Do)(H:Hp):(yP h H).objs.size=h.objs.size:=W.hideAll_size _ _
theorem JD{h:Do}{b:J}{o:Obj}(e:h.get? b=Z o)(n:H b=Y):(yP h H).get? b=Z o:=
 W.hideAll_get _ e λhm=>by
  have q:=(XQ.mp hm).2;rw[n]at q;simp at q
theorem M8{h:Do}{b:J}{o:Obj}(e:(yP h H).get? b=Z o):h.get? b=Z o/\H b=none:=by
 have g:=W.of_hideAll (trk h H) e;refine(g,?_);cases q:H b with
 |none=>rfl
 |some x =>
  have hm:b∈trk h H:=XQ.mpr (Xq.mpr (kn g),by simp[q])
  have z:(yP h H).get? b=none:=W.hideAll_none (trk h H) hm;rw[z]at e;cases e
structure Mod(K:BT)(mg:Str->Option B)(base:Do):Prop where
 kin:K.In base
 glob:base.Ns mainGlobals mg
 blt:∃mb,base.Ns builtinsNs mb/\∀x:Str,x ≠ "__name__"->mb x=bootBuiltins x
 nolimit:base.NoLimit
structure Cx where
 prog:Da
 w:Cl
 K:BT
 mg:Str->Option B
 base:Do
 A:Db
 N:List Str
 s₀:ϋ
 bd:Hp
 env:Env
 outer:List Env
 stack:List Env
 ex:List J
 fn:Str->Bool
 calm:Bool
 pn:List (J×Obj)
 xe:B->ϋ->Prop
abbrev Zk(X:Cx){α:Type}:=@wpAny α (model X.prog X.w) X.A
def frs(l:List Env):List Addr:=l.filterMap (·.frame)
abbrev Cx.fs(X:Cx):List Addr:=frs X.outer
def Vis(sc:Scope)(x:Str):Prop:=sc.names.lookup x=Z .local\/sc.names.lookup x=Z .cell\/sc.names.lookup x=Z .free
def Loc(sc:Scope)(x:Str):Prop:=sc.names.lookup x=Z .local\/sc.names.lookup x=Z .cell
def Look(env:Env)(h:Do)(m:Str->Option B)(x:Str)(u:B):Prop:=
 (env.kindOf x=Z .local/\m x=Z u)\/((env.kindOf x=Z .cell\/env.kindOf x=Z .free)/\∃c,env.cells.lookup x=Z c/\h.IsCell c (Z u))
structure Cx.Ok(X:Cx):Prop where
 mod:Mod X.K X.mg X.base
 kind:X.env.scope.kind=.function
 glob:X.env.globals=mainGlobals
 blt:X.env.builtins=builtinsNs
 above:X.s₀.heap.objs.size<=X.env.locals
 inj:∀x y c,X.env.cells.lookup x=Z c->X.env.cells.lookup y=Z c->x=y
 has:∀x,(X.env.kindOf x=Z .cell\/X.env.kindOf x=Z .free)->∃c,X.env.cells.lookup x=Z c
 cab:∀x c,X.fn x=O->X.env.cells.lookup x=Z c->X.s₀.heap.objs.size<=c
 hd:X.calm=O->X.A.handled=Y
 frames:X.A.frames=Z X.stack
 stk:X.stack=X.outer\/(X.stack=X.env::X.outer/\X.env.frame=Z X.env.locals)
 exf:∀b∈X.ex,b≠X.env.locals/\∀x c,X.env.cells.lookup x=Z c->c≠b
 bs:∀b o,X.base.get? b=Z o->X.s₀.heap.get? b=Z o/\X.bd b=Y
 bsz:X.base.objs.size<=X.s₀.heap.objs.size
 AZ:∀b o,X.base.get? b=Z o->b ∉ X.ex
 E6:∀b∈X.ex,b ∉ X.fs
 kl:X.s₀.heap.FunFrames X.base X.outer
 frf:∀b∈X.fs,X.bd b=Y
structure Inv(X:Cx)(gd:List (J×Obj))(σ:List (Option V))(H:Hp)(s:ϋ):Prop where
 ok:X.Ok
 os:s.os=X.s₀.os
 bare:AllBare s.gens
 base:Un X.fs X.ex X.bd H X.s₀.heap s.heap
 loc:∃m,s.heap.Ns X.env.locals m/\∀(i:Nat)(x:Str)(v:V),X.N[i]?=Z x->σ[i]?=Z (Z v)->Vis X.env.scope x->∃u,RelV v u/\Look X.env s.heap m x u
 cell:∀x c,X.env.cells.lookup x=Z c->∃v,s.heap.IsCell c v
 free:H X.env.locals=Y
 dM:∀x c,X.env.cells.lookup x=Z c->H c=Y
 pin:∀p∈X.pn++gd,s.heap.get? p.1=Z p.2/\H p.1=Y/\p.1≠X.env.locals/\p.1 ∉ X.fs/\∀v,p.2.data ≠ .cell v
 hok:HOk X.prog X.w H s.heap
 len:σ.length=X.N.length
variable{ch:List J}{t':Nat}{it:J}{N:List Str}{j:Nat}{x:Str}{u:B}{s':ϋ}
section
variable{X:Cx}{gd:List (J×Obj)}{σ:List (Option V)}{H':Hp}{s:ϋ}{h':Do}
def Cx.Ok.VU(ok:X.Ok){b:J}{o:Obj}(e:X.base.get? b=Z o):b ∉ X.fs:=λg=>by
 have:=(ok.kl.mem g).1
 rw[e]at this;cases this
theorem Inv.bs(I:Inv X gd σ H s):∀b o,X.base.get? b=Z o->s.heap.get? b=Z o/\H b=none:=λb o e =>
 (I.base.keep b o (I.ok.bs b o e).1 (I.ok.bs b o e).2 (I.ok.VU e) (I.ok.AZ b o e),I.base.free b o (I.ok.bs b o e).1 (I.ok.bs b o e).2 (I.ok.AZ b o e))
def Inv.bk(I:Inv X gd σ H s):∀b o,X.base.get? b=Z o->s.heap.get? b=Z o:=λb o e=>(I.bs b o e).1
theorem Inv.mod(I:Inv X gd σ H s):Mod X.K X.mg X.base:=I.ok.mod
def Inv.kIn(I:Inv X gd σ H s):X.K.In s.heap:=I.ok.mod.kin.keeps I.bk
theorem Inv.lt(I:Inv X gd σ H s):X.env.locals<s.heap.objs.size:=let(_,hn,_):=I.loc;hn.lt
def Inv.sz(I:Inv X gd σ H s):X.s₀.heap.objs.size<=s.heap.objs.size:=ui I.ok.above (vr I.lt)
def Inv.Us(I:Inv X gd σ H s)(h:s.heap.objs.size<=a):a ∉ X.fs:=λg=>by
 let(_,o,ho,_):=I.ok.kl.mem g;exact absurd (sS (kn ho) (ui I.sz h)) (Kt _)
def Inv.cne(I:Inv X gd σ H s):∀x c,X.env.cells.lookup x=Z c->c≠X.env.locals:=λx c e z=>by
 let(v,o,ho,hd):=I.cell x c e;let(m,(o',es,ep,g,q,_),_):=I.loc;rw[z,g]at ho;cases ho;rw[q]at hd;cases hd
theorem Inv.kl(I:Inv X gd σ H s):s.heap.FunFrames X.base X.outer:=by
 have all:∀l,(∀b∈frs l,b∈X.fs)->X.s₀.heap.FunFrames X.base l->s.heap.FunFrames X.base l:=by
  intro l
  induction l with
  |nil=>intro _ _;trivial
  |cons env r K =>
   intro hs hl;let(hk,(L,o,hf,hn,ho,hd),hr):=hl;have q:=hs L (by unfold frs;rw[Yb,hf];exact lj)
   let(sl,e):=I.base.slot L o ho (I.ok.frf L q) q λz=>I.ok.E6 L z q
   exact(hk,(L,_,hf,hn,e,hd),K (λb g=>hs b (by unfold frs;rw[Yb,hf];exact jQ _ g)) hr)
 exact all X.outer (λ_ g=>g) I.ok.kl
theorem Inv.stack(I:Inv X gd σ H s):s.heap.FunFrames X.base X.stack:=by
 obtain e |⟨e,hf⟩:=I.ok.stk
 ·rw[e];exact I.kl
 ·rw[e];let(m,hn,_):=I.loc;exact .cons (by rw[I.ok.kind];decide) hf hn (U9 (ui I.ok.bsz I.ok.above)) I.kl
def Inv.nq(I:Inv X gd σ H s):∀b∈frs X.stack,b∈X.env.locals::X.fs:=λb g=>by
 obtain e |⟨e,hf⟩:=I.ok.stk
 ·rw[e]at g;exact jQ _ g
 ·rw[e]at g;unfold frs at g;rw[Yb,hf]at g;exact g
def Inv.jV(I:Inv X gd σ H s):∀b∈frs X.stack,H b=none:=λb g=>by
 obtain e|g:=pj.mp (I.nq b g)
 ·rw[e];exact I.free
 ·let(_,o,ho,_):=I.ok.kl.mem g;exact I.base.free b o ho (I.ok.frf b g) λz=>I.ok.E6 b z g
def Inv.step{g':Array YK}{t':Nat}{d':Drawn}(I:Inv X gd σ H s)
  (K:∀b∈ch,(b∈X.ex\/X.s₀.heap.objs.size<=b)/\b≠X.env.locals/\(∀x c,X.env.cells.lookup x=Z c->c≠b)/\∀p∈X.pn++gd,p.1≠b)
  (keep:∀b o,b≠X.env.locals->b ∉ X.fs->b ∉ ch->s.heap.get? b=Z o->H b=Y->h'.get? b=Z o)
  (slot:∀b o,b≠X.env.locals->b∈X.fs->b ∉ ch->s.heap.get? b=Z o->H b=Y->∃sl,h'.get? b=Z {o with slots:=sl}) (free:∀b o,b ∉ ch->s.heap.get? b=Z o->H b=Y->H' b=Y)
  (there:∀b o,b ∉ ch->s.heap.get? b=Z o->∃o',h'.get? b=Z o')
  (lG:∀b xs,H b=Z (.tup xs)->H' b=Z (.tup xs)) (jl:∀b o u,H b=Z (.frz o u)->H' b=Z (.frz o u)) (lH:∀b ps,H b=Z (.tbl ps)->∃more,H' b=Z (.tbl (ps++more)))
  (ns:∀m,s.heap.Ns X.env.locals m->h'.Ns X.env.locals m) (hok:HOk X.prog X.w H' h') (hg:AllBare g'):
  Inv X gd σ H' {s with heap:=h',gens:=g',drawn:=d',toks:=t'}:=by
 have ak:∀b o,X.s₀.heap.get? b=Z o->b≠X.env.locals:=λb o e=>sT (sS (kn e) I.ok.above)
 have P:∀b o,X.s₀.heap.get? b=Z o->b ∉ X.ex->b ∉ ch:=λb o e hx V=>by
  obtain z|z:=(K b V).1
  ·exact hx z
  ·exact absurd (sS (kn e) z) (Kt _)
 have cellK:∀x c,X.env.cells.lookup x=Z c->∀v,s.heap.IsCell c v->h'.IsCell c v:=λx c e v (o,ho,hd)=>by
  have g:=λz=>(K c z).2.2.1 x c e U
  by_cases hc:c∈X.fs
  ·let(sl,q):=slot c o (I.cne x c e) hc g ho (I.dM x c e);exact(_,q,hd)
  ·exact(o,keep c o (I.cne x c e) hc g ho (I.dM x c e),hd)
 refine(I.ok,I.os,hg,(λb o e n V hx=>?_,λb o e n V hx=>?_,λb o e n hx=>?_,λb o e hx=>?_,λb xs e=>lG b xs (I.base.lG b xs e),λb o xs e=>jl b o xs (I.base.jl b o xs e),λb ps e=>?_),?_,λx c e=>?_,?_,λx c e=>?_,λp hp=>?_,hok,I.len)
 ·exact keep b o (ak b o e) V (P b o e hx) (I.base.keep b o e n V hx) (I.base.free b o e n hx)
 ·let(sl,Q):=I.base.slot b o e n V hx;let(ar,e2):=slot b _ (ak b o e) V (P b o e hx) Q (I.base.free b o e n hx);exact(ar,e2)
 ·let(o',Q):=I.base.there b o e hx;exact free b o' (P b o e hx) Q (I.base.free b o e n hx)
 ·let(o',Q):=I.base.there b o e hx;exact there b o' (P b o e hx) Q
 ·let(m1,Q):=I.base.lH b ps e;let(m2,e2):=lH b _ Q;exact(m1++m2,by rw[e2,Array.append_assoc])
 ·let(m,hn,hl):=I.loc;refine(m,ns m hn,λi x v Q e2 e3=>?_)
  let(u,r,l):=hl i x v Q e2 e3;refine(u,r,?_);obtain l |⟨k,c,e,z⟩:=l
  ·exact .inl l
  ·exact .inr (k,c,e,cellK x c e _ z)
 ·let(v,z):=I.cell x c e;exact(v,cellK x c e v z)
 ·let(m,(o,_,_,ho,_),_):=I.loc;exact free _ o (λz=>(K _ z).2.1 U) ho I.free
 ·let(v,o,ho,hd):=I.cell x c e;exact free c o (λz=>(K c z).2.2.1 x c e U) ho (I.dM x c e)
 ·let(e,n,ne,nf,d):=I.pin p hp;have g:=λz=>(K p.1 z).2.2.2 p hp U
  exact(keep p.1 p.2 ne nf g e n,free p.1 p.2 g e n,ne,nf,d)
def Inv.un(I:Inv X gd σ H s)(u:Un X.fs [] H H' s.heap h')(hok:HOk X.prog X.w H' h'):Inv X gd σ H' {s with heap:=h',toks:=t'}:=by
 let(m,(o,es,ep,ho,r),_):=id I.loc;let(sl,V):=u.any ho I.free ad
 exact I.step (ch:=[]) nofun (λb o _ q _ e n=>u.keep b o e n q ad) (λb o _ q _ e n=>u.slot b o e n q ad) (λb o _ e n=>u.free b o e n ad) (λb o _ e=>u.there b o e ad) u.lG u.jl u.lH (λm' hm=>by
  let(o',K,P,g,Q):=hm;rw[ho]at g;cases g;exact(_,K,P,V,Q)) hok I.bare
def Inv.call{g':Array YK}{t':Nat}{d':Drawn}{ch:List J}(I:Inv X gd σ H s)(u:Un (frs X.stack) ch H H' s.heap h')(hok:HOk X.prog X.w H' h')(hg:AllBare g')
  (K:∀b∈ch,(b∈X.ex\/X.s₀.heap.objs.size<=b)/\b≠X.env.locals/\(∀x c,X.env.cells.lookup x=Z c->c≠b)/\∀p∈X.pn++gd,p.1≠b):
  Inv X gd σ H' {s with heap:=h',gens:=g',drawn:=d',toks:=t'}:=by
 let(m,(o,es,ep,ho,r),_):=id I.loc;let(sl,P):=u.any ho I.free λz=>(K _ z).2.1 U
 exact I.step K (λb o P hb g e n=>u.keep b o e n (λz=>(pj.mp (I.nq b z)).elim P hb) g) (λb o _ _ g e n=>u.any e n g) (λb o g e n=>u.free b o e n g) (λb o g e=>u.there b o e g) u.lG u.jl u.lH (λm' hm=>by
  let(o',Q,V,q,r'):=hm;rw[ho]at q;cases q;exact(_,Q,V,P,r')) hok hg
def Inv.turned(I:Inv X gd σ H s)(k:∀b o,b≠it->s.heap.get? b=Z o->h'.get? b=Z o)(hn:H it=Y)(P:it≠X.env.locals)
  (h1:it∈X.ex\/X.s₀.heap.objs.size<=it) (h2:∀x c,X.env.cells.lookup x=Z c->c≠it) (h3:∀p∈X.pn++gd,p.1≠it):Inv X gd σ H {s with heap:=h',toks:=t'}:=by
 have K:∀b u,H b=Z u->b≠it:=λb u e z=>by rw[z,hn]at e;cases e
 refine I.step (ch:=[it]) (λb Q=>?_) (λb o _ _ g e _=>k b o (λz=>g (by simp[z])) e) (λb o _ _ g e _=>(o.slots,k b o (λz=>g (by simp[z])) e)) (λ_ _ _ _ n=>n)
  (λb o g e=>(o,k b o (λz=>g (by simp[z])) e)) (λ_ _ e=>e) (λ_ _ _ e=>e) (λb ps e=>(#[],by rw[e];simp)) (λm hm=>?_) (λb u e=>?_) I.bare
 ·have e:=(Q:)
  subst e;exact(h1,P,h2,h3)
 ·let(o,es,ep,ho,r):=hm;exact(o,es,ep,k _ o (Ne.symm P) ho,r)
 ·refine(I.hok b u e).dq (λc v g q=>k c v ?_ q) (λ_ q=>q) λ_ _ q=>q
  obtain z|z:=g
  ·rw[z];exact K b u e
  ·exact K c _ z
def Inv.tok(I:Inv X gd σ H s)(t:Nat):Inv X gd σ H {s with toks:=t}:=I.un Un.refl I.hok
theorem Inv.kept{t':Nat}(I:Inv X gd σ H s)(k:∀b u,s.heap.get? b=Z u->h'.get? b=Z u):Inv X gd σ H {s with heap:=h',toks:=t'}:=I.un (Un.kept k) (I.hok.kept k)
theorem Inv.laid{a:J}{o:HO}{t':Nat}(I:Inv X gd σ H s)(k:∀b u,s.heap.get? b=Z u->h'.get? b=Z u)(hp:s.heap.objs.size<=a)(new:bH X.prog X.w (upd H a o) h' a o):
  Inv X gd σ (upd H a o) {s with heap:=h',toks:=t'}:=I.un (Un.laid k hp (I.hok.fresh hp)) (I.hok.laid k hp new)
theorem Inv.write{x e:J}{o:HO}{t':Nat}(I:Inv X gd σ H s)(q:Mut (H x))(he:e=x\/H e=Z (.own x))(k:∀b u,b≠e->s.heap.get? b=Z u->h'.get? b=Z u)(g:∃u,h'.get? e=Z u)
  (new:bH X.prog X.w (upd H x o) h' x o):Inv X gd σ (upd H x o) {s with heap:=h',toks:=t'}:=I.un (Un.write q he k g) (I.hok.write q he k g new)
def Inv.lR{pins':List (J×Obj)}(I:Inv X gd σ H s)(h:∀p∈pins',s.heap.get? p.1=Z p.2/\H p.1=Y/\p.1≠X.env.locals/\p.1 ∉ X.fs/\∀v,p.2.data ≠ .cell v):Inv X pins' σ H s:=
 (I.ok,I.os,I.bare,I.base,I.loc,I.cell,I.free,I.dM,λp hp=>(n6.mp hp).elim (λz=>I.pin p (qp _ z)) (h p),I.hok,I.len)
def rB(g:N.Nodup){i:Nat}(a:N[i]?=Z x)(b:N[j]?=Z x):i=j:=by
 let(h1,z):=iY.mp a;let(h2,q):=iY.mp b;exact(Yq g).mp (z.trans q.symm)
abbrev AT(X:Cx)(x:Str):Prop:=X.fn x=true\/X.env.scope.names.lookup x=some .local
def D3{M:Model}{A:Db}{E:B->ϋ->Prop}{i:Nat}{v:V}{Q:Unit->ϋ->Prop}(I:Inv X gd σ H s)(hN:X.N.Nodup)(hi:X.N[i]?=Z x)(hx:Loc X.env.scope x)(r:RelV v u)
  (h:∀s',Inv X gd (σ.set i (Z v)) H s'->(∃a,XF a s.heap s'.heap/\(a=X.env.locals\/X.env.cells.lookup x=Z a))->Q () s') (hf:AT X x:=by first|exact .inl rfl|exact .inr rfl|assumption):wpAny M A (storeName X.env x u) Q E s:=by
 let(m,hn,hl):=id I.loc;have yR:(X.env.scope.kind == .class ||(X.env.scope.kind == .module&&X.env.locals != X.env.globals))=false:=by rw[I.ok.kind];rfl
 have ak:i < σ.length:=by rw[I.len];exact(iY.mp hi).1
 have cne:=I.cne;have tracked:∀{a:J}{h':Do},(∃o,s.heap.get? a=Z o/\H a=Y)->XF a s.heap h'->HOk X.prog X.w H h':=λ{a h'} ha hs b ob e=>by
  let(_,_,i8):=ha;refine(I.hok b ob e).dq (λc w' K q=>(hs.2 c ?_).trans q) (λ_ q=>q) λ_ _ q=>q
  rintro rfl
  obtain rfl|K:=K
  ·rw[i8]at e;cases e
  ·rw[i8]at K;cases K
 obtain hk|hk:=hx
 ·refine wpAny_storeName_local hk hn (λh' aW hs=>?_) yR
  let(oL,_,_,aR,_):=id hn;refine h _ (I.ok,I.os,I.bare,(λb o e n hb hx=>?_,λb o e n hb hx=>?_,I.base.free,λb o e hx=>?_,I.base.lG,I.base.jl,I.base.lH),(_,aW,λj y v' g P e3=>?_),λy c e=>?_,I.free,I.dM,λp hp=>?_,tracked (oL,aR,I.free) hs,(I.len:)) (_,hs,.inl U)
  ·exact(hs.2 b (sT (sS (kn e) I.ok.above))).trans (I.base.keep b o e n hb hx)
  ·let(sl,g):=I.base.slot b o e n hb hx;exact(sl,(hs.2 b (sT (sS (kn e) I.ok.above))).trans g)
  ·let(o',g):=I.base.there b o e hx;exact(o',(hs.2 b (sT (sS (kn e) I.ok.above))).trans g)
  ·by_cases hj:j=i
   ·subst hj;rw[hi]at g;cases g;rw[W0 ak]at P;cases P;exact(u,r,.inl (hk,by simp))
   ·rw[N8 (Ne.symm hj)]at P;let(u',r',q):=hl j y v' g P e3;refine(u',r',?_);obtain⟨k,e⟩|⟨k,c,e,z⟩:=q
    ·refine .inl (k,?_)
     have:y≠x:=λe=>hj (rB hN g (e▸hi))
     simp[this,e]
    ·exact .inr (k,c,e,z.sameBut hs (cne y c e))
  ·let(w',z):=I.cell y c e;exact(w',z.sameBut hs (cne y c e))
  ·let(e,n,ne,nf,d):=I.pin p hp;exact((hs.2 p.1 ne).trans e,n,ne,nf,d)
 ·have ar:X.fn x=true:=by
   obtain z|z:=hf
   ·exact z
   ·rw[z]at hk;cases hk
  let(c,K):=I.ok.has x (.inl hk);let(w',z):=I.cell x c K;refine wpAny_storeName_cell I.ok.kind hk K z (λh' aN hs=>?_)
  let(oc,ay,Wd):=id z;refine h {s with heap:=h'} (I.ok,I.os,I.bare,(λb o e n hb hx=>?_,λb o e n hb hx=>?_,I.base.free,λb o e hx=>?_,I.base.lG,I.base.jl,I.base.lH),(m,hn.sameBut hs (Ne.symm (cne x c K)),λj y v' g P e3=>?_),λy c' e=>?_,I.free,I.dM,λp hp=>?_,tracked (oc,ay,I.dM x c K) hs,(I.len:)) (c,hs,.inr K)
  ·exact(hs.2 b (sT (sS (kn e) (I.ok.cab x c ar K)))).trans (I.base.keep b o e n hb hx)
  ·let(sl,g):=I.base.slot b o e n hb hx;exact(sl,(hs.2 b (sT (sS (kn e) (I.ok.cab x c ar K)))).trans g)
  ·let(o',g):=I.base.there b o e hx;exact(o',(hs.2 b (sT (sS (kn e) (I.ok.cab x c ar K)))).trans g)
  ·by_cases hj:j=i
   ·subst hj;rw[hi]at g;cases g;rw[W0 ak]at P;cases P;exact(u,r,.inr (.inl hk,c,K,aN))
   ·rw[N8 (Ne.symm hj)]at P;let(u',r',q):=hl j y v' g P e3;refine(u',r',?_);obtain q |⟨k,c',e,z'⟩:=q
    ·exact .inl q
    ·refine .inr (k,c',e,z'.sameBut hs ?_)
     rintro rfl
     exact hj (rB hN g (I.ok.inj _ _ _ e K▸hi))
  ·by_cases aM:c'=c
   ·subst aM;exact(_,aN)
   ·let(w2,z2):=I.cell y c' e;exact(w2,z2.sameBut hs aM)
  ·let(e,n,ne,nf,d):=I.pin p hp;refine((hs.2 p.1 ?_).trans e,n,ne,nf,d);intro q;rw[q,ay]at e;have q':=Option.some.inj e;exact d w' (by rw[<- q'];exact Wd)
def gO{M:Model}{A:Db}{E:B->ϋ->Prop}{i:Nat}{v:V}{Q:Unit->ϋ->Prop}(I:Inv X gd σ H s)(g:X.N.Nodup)(hi:X.N[i]?=Z x)(hx:Loc X.env.scope x)(r:RelV v u)
  (h:∀s',Inv X gd (σ.set i (Z v)) H s'->Q () s') (hf:AT X x:=by first|exact .inl rfl|exact .inr rfl|assumption):wpAny M A (storeName X.env x u) Q E s:=
 D3 I g hi hx r (λs' q _=>h s' q) hf
def Inv.zk(I:Inv X gd σ H s)(ho:s'.os=s.os)(u:Un (frs X.stack) ch H H' s.heap s'.heap)(hok:HOk X.prog X.w H' s'.heap)(hg:AllBare s'.gens)
  (g:∀b∈ch,(b∈X.ex\/X.s₀.heap.objs.size<=b)/\b≠X.env.locals/\(∀x c,X.env.cells.lookup x=Z c->c≠b)/\∀p∈X.pn++gd,p.1≠b):Inv X gd σ H' s':=by
 let(h',g',q,t',o'):=s';have e:=ho;subst e;exact I.call u hok hg g
end
abbrev XK:=B->Option J->Hp->Prop
abbrev St:=List (Option V)
abbrev VK:=V->Hp->Prop
abbrev TE:=St->Hp->VK->Prop
abbrev TT:=St->Hp->(Bool->Hp->Prop)->Prop
abbrev TA:=St->Hp->(List V->Hp->Prop)->Prop
structure Ends where
 nx:St->Hp->Prop
 rt:VK
 bk:St->Hp->Prop:=λ_ _=>False
 ct:St->Hp->Prop:=λ_ _=>False
abbrev TS:=Ends->St->Hp->Prop
inductive EP(X:Cx)(gd:List (J×Obj))(σ:St)(Q:VK)(u:B)(s':ϋ):Prop
 |mk(v H':_)(h1:Inv X gd σ H' s')(h2:RelV v u)(h3:Q v H')
inductive TP(X:Cx)(gd:List (J×Obj))(σ:St)(Q:Bool->Hp->Prop)(b:Bool)(s':ϋ):Prop
 |mk(H':_)(h1:Inv X gd σ H' s')(h2:Q b H')
inductive AP(X:Cx)(gd:List (J×Obj))(σ:St)(Q:List V->Hp->Prop)(us:List B)(s':ϋ):Prop
 |mk(vs H':_)(h1:Inv X gd σ H' s')(h2:Vals vs us)(h3:Q vs H')
def SP(X:Cx)(gd:List (J×Obj))(D:Ends)(f:Flow)(s':ϋ):Prop:=
 match f with
 |.next=>∃g H',Inv X gd g H' s'/\D.nx g H'
 |.brk=>∃g H',Inv X gd g H' s'/\D.bk g H'
 |.cont=>∃g H',Inv X gd g H' s'/\D.ct g H'
 |.ret u=>∃v g H',Inv X gd g H' s'/\RelV v u/\D.rt v H'
def PE(X:Cx)(e:Ev)(t:TE):Prop:=
 ∀(gd:List (J×Obj))(s:ϋ)(σ:St)(H:Hp)(Q:VK),Inv X gd σ H s->t σ H Q->Zk X (eval e X.env) (EP X gd σ Q) X.xe s
def PT(X:Cx)(e:Ev)(t:TT):Prop:=
 ∀(gd:List (J×Obj))(s:ϋ)(σ:St)(H:Hp)(Q:Bool->Hp->Prop),Inv X gd σ H s->t σ H Q->Zk X (isTrue e X.env (eval e X.env)) (TP X gd σ Q) X.xe s
def PW(X:Cx)(e:Ev)(t:TT):Prop:=
 ∀(whole:Sem B)(gd:List (J×Obj))(s:ϋ)(σ:St)(H:Hp)(Q:Bool->Hp->Prop),Inv X gd σ H s->t σ H Q->Zk X (isTrue e X.env whole) (TP X gd σ Q) X.xe s
variable{X:Cx}{e:Ev}
def PW.pt{t:TT}(h:PW X e t):PT X e t:=h _
def PA(X:Cx)(es:List Ev)(t:TA):Prop:=
 ∀(pos:Pos)(gd:List (J×Obj))(s:ϋ)(σ:St)(H:Hp)(Q:List V->Hp->Prop),Inv X gd σ H s->t σ H Q->Zk X (spliced (backTo pos (pq es X.env))) (AP X gd σ Q) X.xe s
def PS(X:Cx)(st:EQ)(t:TS):Prop:=
 ∀(gd:List (J×Obj))(s:ϋ)(σ:St)(H:Hp)(D:Ends),Inv X gd σ H s->t D σ H->Zk X (exec st X.env) (SP X gd D) X.xe s
def PSs(X:Cx)(st:List EQ)(t:TS):Prop:=
 ∀(gd:List (J×Obj))(s:ϋ)(σ:St)(H:Hp)(D:Ends),Inv X gd σ H s->t D σ H->Zk X (execs st X.env) (SP X gd D) X.xe s
variable{M:Model}{A:Db}{E:B->ϋ->Prop}
def thn{α:Type}{t:Sem α}{Q Q':α->ϋ->Prop}{s:ϋ}(h:wpAny M A t Q E s)(g:∀a s,Q a s->Q' a s):wpAny M A t Q' E s:=SH h g λ_ _ x=>x
variable{gd:List (J×Obj)}{Q:B->ϋ->Prop}{op:CmpOp}
section
inductive bZ(i:Nat)(σ:St)(H:Hp)(Q:VK):Prop
 |mk(v:_)(h1:σ[i]?=Z (Z v))(h2:Q v H)
def tC(v:V):TE:=λ_ H Q=>Q v H
abbrev AS(x:Str):Prop:=(x ==("__debug__":Str))=false
def Ip{i:Nat}{pos:Pos}(K:X.N[i]?=Z x)(hv:Vis X.env.scope x)(hd:autoParam (AS x) zdc._auto_1)(g:autoParam ((x ==("__classdict__":Str))=false) zdc._auto_1):PE X (.Name x pos) (bZ i):=by
 left;let(v,e,h):=h;let(m,hn,hl):=I.loc;let(u,r,l):=hl i x v K e hv;have fin:EP X gd σ Q u s:=(v,H,I,r,h);obtain⟨hk,hm⟩|⟨hk,c,q,z⟩:=l
 ·exact wpAny_Name (wpAny_loadName_local I.ok.kind hk hn hm fin) hd
 ·obtain hk|hk:=hk
  ·exact wpAny_Name (wpAny_loadName_cell I.ok.kind hk q z fin) hd
  ·exact wpAny_Name (wpAny_loadName_free I.ok.kind hk q z fin g) hd
def bF{i j pos}:PE X (.Constant (.int i) j pos) (tC (.int i)):=λ_ _ _ H _ I h=>wpAny_Constant_int (.int i,H,I.tok _,(_,U),h)
def Um{b j pos}:PE X (.Constant (.bool b) j pos) (tC (.bl b)):=λ_ _ _ H _ I h=>Constant_bool (.bl b,H,I,U,h)
def Q7{j pos}:PE X (.Constant .none j pos) (tC .non):=λ_ _ _ H _ I h=>Constant_none (.non,H,I,U,h)
def du{x j pos}:PE X (.Constant (.str x) j pos) (tC (.str x)):=λ_ _ _ H _ I h=>Calls.Constant_str (.str x,H,I.tok _,(_,U),h)
def Gl(X:Cx)(x:Str):Prop:=X.env.kindOf x=Z .globalImplicit
def j7{E:B->ϋ->Prop}{s:ϋ}{σ:St}{pos:Pos}(I:Inv X gd σ H s)(hg:Gl X x)(hm:X.mg x=Z u)(h:Q u s)
  (hd:autoParam (AS x) zdc._auto_1):Zk X (eval (.Name x pos) X.env) Q E s:=
 Calls.Name_function_global I.ok.kind hg (Calls.loadGlobal_global (by rw[I.ok.glob];exact I.mod.glob.keeps I.bk) hm h) hd
def gK{E:B->ϋ->Prop}{s:ϋ}{σ:St}{pos:Pos}(I:Inv X gd σ H s)(hg:Gl X x)(hm:X.mg x=Y)(hv:bootBuiltins x=Z u)(h:Q u s)
  (hn:autoParam (x ≠ "__name__") zdc._auto_1) (hd:autoParam (AS x) zdc._auto_1):Zk X (eval (.Name x pos) X.env) Q E s:=by
 let(mb,h1,h2):=I.mod.blt;exact Calls.Name_function_global I.ok.kind hg (Calls.loadGlobal_builtin (by rw[I.ok.glob];exact I.mod.glob.keeps I.bk) hm (by rw[I.ok.blt];exact h1.keeps I.bk) ((h2 x hn).trans hv) h) hd
def MG{v:V}{pos:Pos}(hg:Gl X x)(hm:X.mg x=Z u)(r:RelV v u)(hd:autoParam (AS x) zdc._auto_1):PE X (.Name x pos) (tC v):=
 λ_ _ _ H _ I h=>j7 I hg hm (v,H,I,r,h) hd
def CA{v:V}{pos:Pos}(hg:Gl X x)(hm:X.mg x=Y)(hv:bootBuiltins x=Z u)(r:RelV v u)(hn:autoParam (x ≠ "__name__") zdc._auto_1)(hd:autoParam (AS x) zdc._auto_1):PE X (.Name x pos) (tC v):=
 λ_ _ _ H _ I h=>gK I hg hm hv (v,H,I,r,h) hn hd
variable{a b:Ev}{ta tb:TE}{pos:Pos}
def IS(b:Ev)(h:op ≠ .In)(h2:op ≠ .NotIn):behindInMarks op b=false:=by
 have q:(op==CmpOp.In)=false:=by cases op <;> first|rfl|exact absurd U h
 have g:(op==CmpOp.NotIn)=false:=by cases op <;> first|rfl|exact absurd U h2
 cases b with
 |Set elts k pos =>
  show(k==0&&(op==CmpOp.In||op==CmpOp.NotIn)&&_)=ϊ
  rw[q,g]
  cases(k==0) <;> rfl
 |_=>rfl
variable{tA tB':TT}{rest:List Ev}
def PJ(t u:TT):TT:=λσ H Q=>t σ H λc H1=>if c=O then u σ H1 Q else Q ϊ H1
def tOr(t u:TT):TT:=λσ H Q=>t σ H λc H1=>if c=O then Q O H1 else u σ H1 Q
def Py(t:TT):TT:=λσ H Q=>t σ H λc H1=>Q (!c) H1
def Cp(ha:PT X a tA):PW X (.BoolOp .And [a] pos) tA:=by
 intro g gd s σ H Q I h;refine isTrue_and (thn (ha gd s σ H Q I h) λc s1 e=>?_)
 cases c with
 |true=>exact isTrue_and_nil e
 |false=>exact e
def Qu(ha:PT X a tA):PW X (.BoolOp .Or [a] pos) tA:=by
 intro g gd s σ H Q I h;refine isTrue_or (thn (ha gd s σ H Q I h) λc s1 e=>?_)
 cases c with
 |false=>exact isTrue_or_nil e
 |true=>exact e
def HR(ha:PT X a tA)(P:PW X (.BoolOp .And (b::rest) pos) tB'):PW X (.BoolOp .And (a::b::rest) pos) (PJ tA tB'):=by
 intro K gd s σ H Q I h;refine isTrue_and (thn (ha gd s σ H _ I h) λc s1 g=>?_)
 let(H1,z,q):=g;cases c with
 |true=>exact P K gd s1 σ H1 Q z q
 |false=>exact(H1,z,q)
def Ua(ha:PT X a tA)(P:PW X (.BoolOp .Or (b::rest) pos) tB'):PW X (.BoolOp .Or (a::b::rest) pos) (tOr tA tB'):=by
 intro K gd s σ H Q I h;refine isTrue_or (thn (ha gd s σ H _ I h) λc s1 g=>?_)
 let(H1,z,q):=g;cases c with
 |true=>exact(H1,z,q)
 |false=>exact P K gd s1 σ H1 Q z q
def Qy(ha:PT X a tA):PT X (.UnaryOp .Not a pos) (Py tA):=by
 left;refine isTrue_not (thn (ha gd s σ H (λc H1=>Q (!c) H1) I h) λc s' z=>?_)
 let(H',g,q):=z;exact(H',g,q)
def Gq(ta tb:TE):TE:=λσ H Q=>ta σ H λx H1=>∃c,x=.bl c/\if c=O then tb σ H1 Q else Q (.bl ϊ) H1
def Gg(ta:TE):TE:=λσ H Q=>ta σ H λx H1=>∃c,x=.bl c/\Q (.bl (!c)) H1
def Q5{op}{t:TE}(h:PE X a t):PE X (.BoolOp op [a] pos) t:=λgd s σ H Q I hw=>BoolOp_one (h gd s σ H Q I hw)
def Q8(ha:PE X a ta)(P:PE X (.BoolOp .And (b::rest) pos) tb):PE X (.BoolOp .And (a::b::rest) pos) (Gq ta tb):=by
 left;refine BoolOp_and (thn (ha gd s σ H _ I h) λv s1 q=>?_)
 let(x,H1,z,K,g):=q;let(c,U,g):=g;cases K;refine wpAny_truthy_bool ?_;cases c with
 |true=>exact P gd s1 σ H1 Q z g
 |false=>exact(.bl ϊ,H1,z,U,g)
def Q6(ha:PE X a ta):PE X (.UnaryOp .Not a pos) (Gg ta):=by
 left;refine UnaryOp_ (thn (ha gd s σ H _ I h) λv s1 q=>?_)
 let(x,H1,K,z,g):=q;let(c,U,g):=g;cases z;exact not_of (wpAny_truthy_bool (.bl (!c),H1,K,U,g))
end
def SqL(K:BT)(H:Hp)(a:J)(xs:List V):Prop:=
 Rd H a (.lst xs) \/
  ∃(o:Obj)(its:Array B)(n:Nat),K.lookup a=Z o/\o.cls=.type "list" /\ o.dict=Y/\o.data=.seq its n/\its.size<=pY/\Vals xs its.toList
def SqT(K:BT)(H:Hp)(a:J)(xs:List V):Prop:=
 Rd H a (.tup xs) \/
  ∃(o:Obj)(its:Array B)(n:Nat),K.lookup a=Z o/\o.cls=.type "tuple" /\ o.data=.seq its n/\its.size<=pY/\Vals xs its.toList
def Wy:B->Option V
 |.none=>Z .non
 |.bool b=>Z (.bl b)
 |.int i _=>Z (.int i)
 |.str x _=>Z (.str x)
 |.bytes b _=>Z (.byt b)
 |.float b _=>Z (.flt b)
 |.ref a=>Z (.ref a)
 |.type n=>Z (.ty n)
 |_=>Y
def RelV.abs{x:V}(r:RelV x u):Wy u=Z x:=by
 cases x with
 |non=>cases r;rfl
 |bl _=>cases r;rfl
 |int _=>let(t,U):=r;rfl
 |str _=>let(t,U):=r;rfl
 |byt _=>let(t,U):=r;rfl
 |flt _=>let(t,U):=r;rfl
 |ref _=>cases r;rfl
 |ty _=>cases r;rfl
theorem RelV.inj{x y:V}{u:B}(r:RelV x u)(q:RelV y u):x=y:=Option.some.inj (r.abs.symm.trans q.abs)
theorem Vals.inj:∀{xs ys:List V}{us:List B},Vals xs us->Vals ys us->xs=ys:=by
 intro xs ys us h
 induction h generalizing ys with
 |nil=>intro h';cases h';rfl
 |cons r t q=>intro h';cases h' with|cons g t'=>rw[r.inj g,q t']
section
variable{σ:St}{s:ϋ}{xs ys:List V}
theorem SqL.of{K:BT}(h:H a=Z (.lst xs)):SqL K H a xs:=.inl (.inl h)
theorem SqT.of{K:BT}(h:H a=Z (.tup xs)):SqT K H a xs:=.inl (.inl h)
def Inv.list(I:Inv X gd σ H s)(h:SqL X.K H a xs):∃its:List B,Vals xs its/\PlainL s.heap a its.toArray/\xs.length<=pY:=by
 obtain h |⟨o,its,n,hk,g,hd,hs,q,r⟩:=h
 ·let(z,its,n,r,e):=h.ok I.hok;exact(its,r,(_,n,e,U,U,U),z)
 ·refine(its.toList,r,(o,n,I.kIn a o hk,g,hd,(hs:)),?_)
  have e:=r.length;simp only[Xd]at e
  lia
def Inv.tuple(I:Inv X gd σ H s)(h:SqT X.K H a xs):∃its:List B,Vals xs its/\IsTup s.heap a its.toArray/\xs.length<=pY:=by
 obtain h |⟨o,its,n,hk,g,hs,q,r⟩:=h
 ·let(z,its,r,p):=h.ok I.hok;exact(its,r,p.1,z)
 ·refine(its.toList,r,(o,I.kIn a o hk,g,n,(hs:)),?_)
  have e:=r.length;simp only[Xd]at e;omega
def Inv.yE(I:Inv X gd σ H s)(h:SqL X.K H a xs)(h':SqL X.K H a ys):xs=ys:=by
 let(its,r,(o,n,e,_,_,d),_):=I.list h;let(P,z,(o',Q,g,_,_,q),_):=I.list h';rw[e]at g;cases g;rw[d]at q;injection q with d1 _
 have:=(congrArg Array.toList d1:)
 subst this;exact r.inj z
def Inv.uG(I:Inv X gd σ H s)(h:SqT X.K H a xs)(h':SqT X.K H a ys):xs=ys:=by
 let(its,r,(o,e,_,n,d),_):=I.tuple h;let(P,z,(o',g,_,Q,q),_):=I.tuple h';rw[e]at g;cases g;rw[d]at q;injection q with d1 _
 have:=(congrArg Array.toList d1:)
 subst this;exact r.inj z
end
abbrev Cx.tO(X:Cx)(E:B->ϋ->Prop):Cx:={X with xe:=E}
abbrev Cx.nox(X:Cx):Cx:=X.tO λ_ _=>False
theorem Cx.Ok.tO{X:Cx}(ok:X.Ok)(E:B->ϋ->Prop):(X.tO E).Ok:=
 (ok.mod,ok.kind,ok.glob,ok.blt,ok.above,ok.inj,ok.has,ok.cab,ok.hd,ok.frames,ok.stk,ok.exf,ok.bs,ok.bsz,ok.AZ,ok.E6,ok.kl,ok.frf)
def Cx.Ok.jm(ok:(X.tO E).Ok):X.Ok:=
 (ok.mod,ok.kind,ok.glob,ok.blt,ok.above,ok.inj,ok.has,ok.cab,ok.hd,ok.frames,ok.stk,ok.exf,ok.bs,ok.bsz,ok.AZ,ok.E6,ok.kl,ok.frf)
section
variable{σ:St}{s:ϋ}
theorem Inv.tO(I:Inv X gd σ H s)(E:B->ϋ->Prop):Inv (X.tO E) gd σ H s:=(I.ok.tO E,I.os,I.bare,I.base,I.loc,I.cell,I.free,I.dM,I.pin,I.hok,I.len)
theorem Inv.jm(I:Inv (X.tO E) gd σ H s):Inv X gd σ H s:=(I.ok.jm,I.os,I.bare,I.base,I.loc,I.cell,I.free,I.dM,I.pin,I.hok,I.len)
theorem SP.jm{D:Ends}{f:Flow}{s':ϋ}(h:SP (X.tO E) gd D f s'):SP X gd D f s':=by
 cases f with
 |next=>let(g,H',I,q):=h;exact(g,H',I.jm,q)
 |brk=>let(g,H',I,q):=h;exact(g,H',I.jm,q)
 |cont=>let(g,H',I,q):=h;exact(g,H',I.jm,q)
 |ret u=>let(v,g,H',I,r,q):=h;exact(v,g,H',I.jm,r,q)
theorem PSs.nox{st:List EQ}{t:TS}(h:PSs X.nox st t):PSs X st t:=λgd s σ H D I hw =>
 SH (h gd s σ H D (I.tO _) hw) (λ_ _ q=>q.jm) λ_ _ z=>False.elim z
end
variable{tc:TT}
section
variable{st:EQ}{rest:List EQ}{t u:TS}{te:TE}{pos:Pos}
def Od:TS:=λD σ H=>D.nx σ H
def Pu(t u:TS):TS:=λD σ H=>t {D with nx:=u D} σ H
def Cs:PSs X [] Od:=λ_ _ σ H _ I h=>wpAny_execs_nil (σ,H,I,h)
def bC(h1:PS X st t)(h2:PSs X rest u):PSs X (st::rest) (Pu t u):=by
 right;refine wpAny_execs_cons (thn (h1 gd s σ H {D with nx:=u D} I h) λf s1 q=>?_)
 cases f with
 |next =>
  let(g,H',z,q):=q;exact h2 gd s1 g H' D z q
 |ret v=>exact q
 |brk=>exact q
 |cont=>exact q
def eT(h1:PS X st t):PSs X [st] t:=by
 right;refine wpAny_execs_cons (thn (h1 gd s σ H D I h) λf s1 q=>?_)
 cases f with
 |next=>exact wpAny_execs_nil q
 |ret v=>exact q
 |brk=>exact q
 |cont=>exact q
def Gp:TS:=λD σ H=>D.bk σ H
def Ia:PS X (.Break pos) Gp:=λ_ _ σ H _ I h=>wpAny_Break (σ,H,I,h)
def Inv.quiet{σ:St}{s:ϋ}(I:Inv X gd σ H s):interactive X.env=false:=by simp[interactive,I.ok.kind]
def qw(te:TE):TS:=λD σ H=>te σ H λ_ H1=>D.nx σ H1
def wm(he:PE X e te)(hs:‹swapsWith e Y pos.line X.env=pure false›):PS X (.Expr e pos) (qw te):=by
 right;exact wpAny_Expr_any (thn (he gd s σ H _ I h) λv s1 (x,H1,q,z,g)=>(σ,H1,q,g)) I.quiet hs
def Pw(te:TE):TS:=λD σ H=>te σ H D.rt
def qW(he:PE X e te):PS X (.Return (Z e) pos) (Pw te):=by
 right;exact wpAny_Return_some (thn (he gd s σ H _ I h) λv s1 (x,H1,z,g,q)=>(x,σ,H1,z,g,q))
def PB(c:TT)(t u:TS):TS:=λD σ H=>c σ H λb H1=>if b=O then t D σ H1 else u D σ H1
def H0{c:Ev}{a b:List EQ}(K:PT X c tc)(ha:PSs X a t)(P:PSs X b u):PS X (.If c a b pos) (PB tc t u):=by
 right;refine wpAny_If (thn (K gd s σ H _ I h) λd s1 g=>?_)
 let(H1,z,q):=g;cases d with
 |true=>exact ha gd s1 σ H1 D z q
 |false=>exact P gd s1 σ H1 D z q
end
abbrev TG:=V->St->Hp->(St->Hp->Prop)->Prop
abbrev TGs:=List V->St->Hp->(St->Hp->Prop)->Prop
def PG(X:Cx)(target:Ev)(t:TG):Prop:=
 ∀(gd:List (J×Obj))(s:ϋ)(σ:St)(H:Hp)(v:V)(u:B)(Q:St->Hp->Prop),Inv X gd σ H s->RelV v u->t v σ H Q ->
  Zk X (assign target X.env u) (λ_ s'=>∃g H',Inv X gd g H' s'/\Q g H') X.xe s
def PGs(X:Cx)(ts:List Ev)(t:TGs):Prop:=
 ∀(gd:List (J×Obj))(s:ϋ)(σ:St)(H:Hp)(vs:List V)(us:List B)(Q:St->Hp->Prop),Inv X gd σ H s->Vals vs us->t vs σ H Q ->
  Zk X (assignInOrder ((assignEach ts X.env).map (·.2)) us) (λ_ s'=>∃g H',Inv X gd g H' s'/\Q g H') X.xe s
abbrev SG:=V->V->V->Hp->(Hp->Prop)->Prop
def SI(X:Cx)(t:SG):Prop:=
 ∀(gd:List (J×Obj))(s:ϋ)(σ:St)(H:Hp)(o i v:V)(g iv u:B)(Q:Hp->Prop),Inv X gd σ H s->RelV o g->RelV i iv->RelV v u->t o i v H Q ->
  Zk X (setItem g iv u) (λ_ s'=>∃H',Inv X gd σ H' s'/\Q H') X.xe s
variable{es:List Ev}{n:Nat}{o:Ev}{to:TE}{tg:Ev}{te:TE}{pos':Pos}{b:Ev}{py:Pos}
section
variable{pos:Pos}
def fB(i:Nat):TG:=λv σ H Q=>Q (σ.set i (Z v)) H
def lX{i:Nat}(g:X.N.Nodup)(hi:X.N[i]?=Z x)(hx:Loc X.env.scope x)(hf:AT X x:=by first|exact .inl rfl|exact .inr rfl|assumption):PG X (.Name x pos) (fB i):=by
 intro gd s σ H v u Q I r h;exact wpAny_assign_Name (gO I g hi hx r (λs' q=>(_,H,q,h)) hf)
def R5:TGs:=λvs σ H Q=>vs=[]/\Q σ H
def CY(t:TG)(u:TGs):TGs:=λvs σ H Q=>∃v r,vs=v::r/\t v σ H λg H'=>u r g H' Q
def lU:PGs X [] R5:=by
 intro gd s σ H vs us Q I r h;let(e,h):=h;subst e;exact assignInOrder_nil (σ,H,I,h)
def cb{t:TG}{u:TGs}(h1:PG X e t)(h2:PGs X es u)
  (hs:‹(assignEach (e::es) X.env).map (·.2)=assign e X.env ::(assignEach es X.env).map (·.2)›):PGs X (e::es) (CY t u):=by
 intro gd s σ H vs us Q I r h;let(v,V,K,h):=h;subst K;cases r with
 |cons r q =>
  rw[hs];exact assignInOrder_cons (thn (h1 gd s σ H _ _ _ I r h) λ_ s1 (g,H1,P,z)=>(h2 gd s1 g H1 _ _ Q P q z))
inductive NK(K:BT)(n:Nat)(t:TGs)(v:V)(σ:St)(H:Hp)(Q:(St->Hp->Prop)):Prop
 |mk(a xs:_)(h1:v=.ref a)(h2:SqT K H a xs)(h3:xs.length=n)(h4:t xs σ H Q)
def Q0{k:Nat}{t:TGs}(P:X.calm=O)(h:PGs X es t)
  (hn:‹(assignEach es X.env).length=n›) (g:‹(assignEach es X.env).findIdx? (·.1)=none›):PG X (.Tuple es k pos) (NK X.K n t):=by
 intro gd s σ H v u Q I r hw;let(a,xs,V,hq,hl,hw):=hw;subst V;cases r;let(its,q,z,hz):=I.tuple hq;refine assign_Tuple_tuple (I.ok.hd P) z (by simp[hn,<- hl,q.length]) g λh' hx=>?_
 have I1:=I.kept (t':=s.toks) λb o e=>hx b o (sT (kn e)) e
 exact h gd _ σ H xs _ Q I1 (q:) hw
def JI(to ti:TE)(t:SG):TG:=λv σ H Q=>to σ H λo H1=>ti σ H1 λi H2=>t o i v H2 λg=>Q σ g
def Io{i:Ev}{ti:TE}{t:SG}(ho:PE X o to)(hi:PE X i ti)(hs:SI X t)
  (ha:∀v,assign (.Subscript o i pos) X.env v=(do
   let g <- holding [v] (eval o X.env)
   let iv <- holding [v,g] (eval i X.env)
   standAt pos
   holding [v,g,iv] (setItem g iv v)
   release [v,g,iv] []):=by intro _;rfl):PG X (.Subscript o i pos) (JI to ti t):=by
 intro gd s σ H v u Q I r h;exact fu (FH (thn (ho gd s σ H _ I h) λg s1 (x,H1,I1,z,V)=>(fu (FH (thn (hi gd s1 σ H1 _ I1 V) λiv s2 (y,H2,I2,q,P)=>(fu (wpAny_standAt (fu (FH (thn (hs gd s2 σ H2 x y v g iv u _ I2 z q r P) λ_ s3 (H3,I3,K)=>(wpAny_release (σ,H3,I3,K))))))))))))
def ix(te:TE)(g:TG):TS:=λD σ H=>te σ H λx H1=>g x σ H1 D.nx
def wo{g:TG}(he:PE X e te)(hg:PG X tg g)(hs:‹swapsWithSole [tg] e pos.line X.env=pure false›)(hw:‹swappedStores [tg] e X.env=pure none›)
  (h1:‹(assignEach [tg] X.env).map (·.2)=[assign tg X.env]›):PS X (.Assign [tg] e pos) (ix te g):=by
 right;refine wpAny_Assign_stores (thn (he gd s σ H _ I h) λv s1 z=>?_) hs hw
 let(x,H1,Q,K,P):=z;rw[h1];exact thn (hg gd s1 σ H1 x v _ Q K P) λ_ s2 q=>q
def gI{i:Nat}(z:X.N.Nodup)(hi:X.N[i]?=Z x)(hx:Loc X.env.scope x)(he:PE X e te)(hs:‹swapsWith e (Z (.Name x pos')) pos.line X.env=pure false›)(hf:AT X x:=by first|exact .inl rfl|exact .inr rfl|assumption):
  PS X (.Assign [.Name x pos'] e pos) (ix te (fB i)):=by
 right;exact wpAny_Assign_Name (thn (he gd s σ H _ I h) λv s1 (y,H1,P,g,q)=>(gO P z hi hx g (λs2 K=>(_,H1,K,q)) hf)) hs
def Px(i j:Nat)(ta:TA):TS:=λD σ H=>ta σ H λvs H1=>∃v w,vs=[v,w]/\D.nx ((σ.set i (Z v)).set j (Z w)) H1
abbrev BC(X:Cx)(x:Str):Prop:=X.env.scope.names.lookup x=some .local
def QD{i:Nat}{y:Str}{a:Ev}{ta:TA}{P pt:Pos}{kt k2 g}(hc:X.calm=O)(hN:X.N.Nodup)(hi:X.N[i]?=Z x)(hj:X.N[j]?=Z y)(V:i≠j)
  (hx:BC X x) (hy:BC X y) (ha:PA X [a,b] ta)
  (hw:swappedStores [.Tuple [.Name x P,.Name y py] kt pt] (.Tuple [a,b] k2 g) X.env=pure (Z [x,y]))
  (hs:‹swapsWithSole [.Tuple [.Name x P,.Name y py] kt pt] (.Tuple [a,b] k2 g) pos.line X.env=pure false›):
  PS X (.Assign [.Tuple [.Name x P,.Name y py] kt pt] (.Tuple [a,b] k2 g) pos) (Px i j ta):=by
 right;refine fu (wpAny_standAt ?_);refine fu (mX ?_);refine fu (Tuple_ (thn (ha _ gd s σ H _ I h) λus s1 ak=>?_))
 let(vs,H1,I1,r1,K):=ak;let(v,w,e1,K):=K;subst e1;obtain⟨u1,u2,rfl,rv,z⟩:∃u1 u2,us=[u1,u2]/\RelV v u1/\RelV w u2:=by
  cases r1 with
  |cons p q =>
   cases q with
   |cons p' q' =>
    cases q';exact(_,_,U,p,p')
 refine Xa ?_ (by show 2<=pY;decide)
 have I2:Inv X gd σ H1 {s1 with heap:=s1.heap.push {cls:=.type "tuple",data:=.seq [u1,u2].toArray}}:=I1.kept λb o e=>f9 _ e
 rw[hw];refine fu (mX ?_);refine fu (Xc (fu (unpackItems_tuple (items:=#[u1,u2]) (I.ok.hd hc) (IsTup.new s1.heap _) λh' Q=>?_)))
 have I3:=I2.kept (t':=s1.toks) λb o e=>Q b o (sT (kn e)) e
 refine fu (assignInOrder_cons (wpAny_bindName (gO I3 hN hj (.inl hy) z (λs2 I4=>(assignInOrder_cons (wpAny_bindName (gO I4 hN hi (.inl hx) rv (λs3 I5=>assignInOrder_nil (mX ?_)) (.inr hx))))) (.inr hy))))
 rw[List.set_comm _ _ (Ne.symm V)]at I5;exact(_,H1,I5,K)
end
variable{body:List EQ}
section
variable{pos:Pos}
def z7(c:TT)(tb:TS):TS:=λD σ H=>∃W:Nat->St->Hp->Prop,(∃m,W m σ H)/\∀m σ H,W m σ H ->
 c σ H λb H1=>if b=O then ∃N:St->Hp->Prop,(∀g H',N g H'->∃m',m'<m/\W m' g H')/\tb {D with nx:=N,ct:=N,bk:=D.nx} σ H1 else D.nx σ H1
def yf{c:Ev}{tb:TS}(hp:YL (model X.prog X.w) X.A X.env X.xe)(hc:PT X c tc)(hb:PSs X body tb):PS X (.While c body [] pos) (z7 tc tb):=by
 right;let(W,(m0,w0),turn):=h;refine wpAny_While (codeAny_whileLoop (λn s'=>∃z H',Inv X gd z H' s'/\W n z H') ?_ m0 (σ,H,I,w0))
 rintro n s1 ⟨q,H1,I1,w1⟩
 refine wpAny_passesOwn hp (thn (hc gd s1 q H1 _ I1 (turn n q H1 w1)) λb s2 ak=>?_)
 let(H2,I2,Q):=ak;cases b with
 |true =>
  let(N,hN,Q):=Q;refine wpAny_passesOwn hp (thn (hb gd s2 q H2 _ I2 Q) λf s3 P=>?_)
  cases f with
  |next =>
   let(g,K,I3,n3):=P;let(m',hm,V):=hN g K n3;exact(m',hm,g,K,I3,V)
  |cont =>
   let(g,K,I3,n3):=P;let(m',hm,V):=hN g K n3;exact(m',hm,g,K,I3,V)
  |brk=>exact P
  |ret v=>exact P
 |false =>
  exact wpAny_execs_nil (q,H2,I2,Q)
end
structure It where
 go:Nat->Hp->Prop
 yld:Nat->Hp->V->Hp->Prop
 stop:Nat->Hp->Prop
def sV(X:Cx)(gd:List (J×Obj))(H:Hp)(b:J):Prop:=
 H b=Y/\b≠X.env.locals/\b ∉ X.fs/\(b∈X.ex\/X.s₀.heap.objs.size<=b)/\(∀x c,X.env.cells.lookup x=Z c->c≠b)/\∀p∈X.pn++gd,p.1≠b
variable{H':Hp}
def Inv.E2{σ:St}{s:ϋ}{b:J}(I:Inv X gd σ H s)(g:s.heap.objs.size<=b)(hn:H' b=Y):sV X gd H' b:=by
 refine(hn,E3 (sS I.lt g),I.Us g,.inr (ui I.sz g),λx c e z=>?_,λp hp z=>?_)
 ·let(v,q):=I.cell x c e;exact absurd (sS q.lt (by rw[z];exact g)) (Kt _)
 ·exact absurd (sS (kn (I.pin p hp).1) (by rw[z];exact g)) (Kt _)
structure Turn(P:Da)(w:Cl)(K:BT)(tg:Ev)(Zh:It)(fp:List J)(it:J)(tn:Nat->Do->Prop):Prop where
 mem:it∈fp
 obj:∀i h,tn i h->∀b∈fp,∃o,h.get? b=Z o/\∀v,o.data ≠ .cell v
 keep:∀i h h',tn i h->(∀b∈fp,∀o,h.get? b=Z o->h'.get? b=Z o)->tn i h'
 item:∀(X:Cx),X.prog=P->X.w=w->X.K=K->X.calm=O->∀(i:Nat)(gd:List (J×Obj))(s:ϋ)(σ:St)(H:Hp)(E:B->ϋ->Prop),Inv X gd σ H s->(∀b∈fp,sV X gd H b)->tn i s.heap->Zh.go i H ->
  wpAny (model P w) X.A (pyNext (.ref it)) (λr s1=>∃u,r=Z u /\
   wpAny (model P w) X.A (letOwnedTupleGo tg (.ref it) u) (λ_ s2=>∃x H',Inv X gd σ H' s2/\RelV x u/\Zh.yld i H x H'/\tn (i+1) s2.heap/\∀b∈fp,H' b=Y) E s1) E s
 done:∀(X:Cx),X.prog=P->X.w=w->X.K=K->X.calm=O->∀(i:Nat)(gd:List (J×Obj))(s:ϋ)(σ:St)(H:Hp)(E:B->ϋ->Prop),Inv X gd σ H s->(∀b∈fp,sV X gd H b)->tn i s.heap->Zh.stop i H ->
  wpAny (model P w) X.A (pyNext (.ref it)) (λr s1=>r=Y/\Inv X gd σ H s1) E s
 self:∀(A:Db)(i:Nat)(s:ϋ)(Q:B->ϋ->Prop)(E:B->ϋ->Prop),tn i s.heap->Q (.ref it) s->wpAny (model P w) A (pyIter (.ref it)) Q E s
abbrev TI:=St->Hp->(It->Hp->Prop)->Prop
def PIE(X:Cx)(gd:List (J×Obj))(σ:St)(tg:Ev)(R:It->Hp->Prop)(g:B)(s2:ϋ):Prop:=
 ∃(it:J)(fp:List J)(tn:Nat->Do->Prop)(Zh:It)(H':Hp),g=.ref it/\Inv X gd σ H' s2/\Turn X.prog X.w X.K tg Zh fp it tn/\tn 0 s2.heap/\(∀b∈fp,sV X gd H' b)/\R Zh H'
def PI(X:Cx)(tg iter:Ev)(wi:TI):Prop:=
 ∀(gd:List (J×Obj))(s:ϋ)(σ:St)(H:Hp)(R:It->Hp->Prop),Inv X gd σ H s->wi σ H R ->
  Zk X (eval iter X.env) (λv s1=>Zk X (pyIter v) (PIE X gd σ tg R) X.xe s1) X.xe s
def CW{s:ϋ}{o:Obj}{n:String}{vs:Array B}{Q:Unit->ϋ->Prop}(ho:s.heap.get? it=Z o)(q:o.cls=.type n)(hd:o.data=.fields vs)
  (hn:["enumerate","zip","dict_itemiterator","dict_reverseitemiterator","odict_iterator","itertools.zip_longest","itertools.pairwise"].contains n=ϊ) (g:Q () s):wpAny M A (letOwnedTupleGo tg (.ref it) u) Q E s:=by
 cases tg <;> first
  |exact mX g
  | (cases u <;> first
    |exact mX g
    | (refine fu (wpAny_load ho ?_)
       rw[q,hd];show wpAny M A (if(["enumerate","zip","dict_itemiterator","dict_reverseitemiterator","odict_iterator","itertools.zip_longest","itertools.pairwise"].contains n&&vs[0]? == Z (rawInt _))=O then _ else _) Q E s
       rw[if_neg (by intro h;rw[hn]at h;cases h)]
       exact mX g))
def Itl(K:BT)(a:J):It:=
 (λi H=>∃xs x,SqL K H a xs/\xs[i]?=Z x,λi H x H'=>H'=H/\∀xs,SqL K H a xs->xs[i]?=Z x,λi H=>∃xs,SqL K H a xs/\xs.length<=i)
def Itt(K:BT)(a:J):It:=
 (λi H=>∃xs x,SqT K H a xs/\xs[i]?=Z x,λi H x H'=>H'=H/\∀xs,SqT K H a xs->xs[i]?=Z x,λi H=>∃xs,SqT K H a xs/\xs.length<=i)
def Itr(lo:Int)(n:Nat):It:=(λi _=>i<n,λi H x H'=>H'=H/\x=.int (lo+i),λi _=>n<=i)
theorem DW{w:Cl}{K:BT}(a it:J):Turn P w K tg (Itl K a) [it] it (λi h=>h.IsListIter it a i) where
 mem:=by simp
 obj:=λi h st b g=>by
  have e:=(g:)
  subst e;let(o,e,c,d):=st;exact(o,e,λv z=>by rw[d]at z;cases z)
 keep:=λi h h' st k=>st.at λo e=>k it ad o e
 item:=by
  intro X V hw hK hc i gd s σ H E I hf st hg;subst V hw hK;let(xs,x,hq,hx):=hg;let(its,Q,p,hz):=I.list hq;let(u,hu,ru):=Q.get hx;let(f0,f1,f2,f3,f4,f5):=hf it ad
  refine wpAny_pyNext_list_item st p.isList (hu:) λh' q sb=>?_
  have I1:=I.turned (t':=s.toks) (λb o g e=>(sb.2 b g).trans e) f0 f1 f3 f4 f5
  let(o,e,c,d):=id q;exact(u,U,CW e c d ac (x,H,I1,ru,(U,λys hy=>by rw[I.yE hy hq];exact hx),q,λb g=>(hf b g).1))
 done:=by
  intro X V hw hK hc i gd s σ H E I hf st hg;subst V hw hK;let(xs,hq,hx):=hg;let(its,Q,p,hz):=I.list hq;let(f0,f1,f2,f3,f4,f5):=hf it ad
  have hl:=Q.length;exact wpAny_pyNext_list_end (I.ok.hd hc) st p.isList (by simp;lia) λh' eb=>(U,I.turned (λb o g e=>eb b o g e) f0 f1 f3 f4 f5)
 self:=λ_ _ _ _ _ st h=>wpAny_pyIter_listiter st h
theorem zY{w:Cl}{K:BT}(a it:J):Turn P w K tg (Itt K a) [it] it (λi h=>h.IsTupleIter it a i) where
 mem:=by simp
 obj:=λi h st b g=>by
  have e:=(g:)
  subst e;let(o,e,c,d):=st;exact(o,e,λv z=>by rw[d]at z;cases z)
 keep:=λi h h' st k=>st.at λo e=>k it ad o e
 item:=by
  intro X V hw hK hc i gd s σ H E I hf st hg;subst V hw hK;let(xs,x,hq,hx):=hg;let(its,Q,p,hz):=I.tuple hq;let(u,hu,ru):=Q.get hx;let(f0,f1,f2,f3,f4,f5):=hf it ad
  refine wpAny_pyNext_tuple_item st (p) (hu:) λh' q sb=>?_
  have I1:=I.turned (t':=s.toks) (λb o g e=>(sb.2 b g).trans e) f0 f1 f3 f4 f5
  let(o,e,c,d):=id q;exact(u,U,CW e c d ac (x,H,I1,ru,(U,λys hy=>by rw[I.uG hy hq];exact hx),q,λb g=>(hf b g).1))
 done:=by
  intro X V hw hK hc i gd s σ H E I hf st hg;subst V hw hK;let(xs,hq,hx):=hg;let(its,Q,p,hz):=I.tuple hq;let(f0,f1,f2,f3,f4,f5):=hf it ad
  have hl:=Q.length;exact wpAny_pyNext_tuple_end (I.ok.hd hc) st (p) (by simp;omega) λh' eb=>(U,I.turned (λb o g e=>eb b o g e) f0 f1 f3 f4 f5)
 self:=λ_ _ _ _ _ st h=>wpAny_pyIter_tupleiter st h
theorem zZ{w:Cl}{K:BT}(it:J)(lo:Int)(n:Nat):Turn P w K tg (Itr lo n) [it] it (λi h=>IsRangeIter h it (lo+(i:Nat)*1) ((n:Int)-(i:Nat)) 1) where
 mem:=by simp
 obj:=λi h st b g=>by
  have e:=(g:)
  subst e;exact(_,st,λv z=>by
   have z':=z;cases z')
 keep:=λi h h' st k=>k it ad _ st
 item:=by
  intro X hP hw hK Q i gd s σ H E I hf st hg;subst hP hw hK;let(f0,f1,f2,f3,f4,V):=hf it ad
  have W:=Walks.range (prog:=X.prog) (w:=X.w) (I.ok.hd Q) it lo 1 n;refine W.item i s _ _ hg st λv h' tk hv q kk=>?_
  let(t,U):=hv;have I1:Inv X gd σ H {s with heap:=h',toks:=tk}:=I.turned (λb o g e=>kk b o (g:) e) f0 f1 f3 f4 V
  refine(_,U,CW q U U ac (.int (lo+i),H,I1,(t,?_),(U,U),q,λb g=>(hf b g).1))
  rw[Int.mul_one]
 done:=by
  intro X hP hw hK Q i gd s σ H E I hf st hg;let(f0,f1,f2,f3,f4,V):=hf it ad
  exact wpAny_pyNext_range_end (I.ok.hd Q) st (by have:n<=i:=hg;lia) λh' eb=>(U,I.turned (λb o g e=>eb b o g e) f0 f1 f3 f4 V)
 self:=λ_ _ _ _ _ st h=>wpAny_pyIter_rangeiter st h
variable{lo:Int}{fp:List J}{iter:Ev}
section
def uZ(K:BT)(tl:TE):TI:=λσ H R=>tl σ H λx H1=>∃a,x=.ref a/\(∃xs,SqL K H1 a xs)/\R (Itl K a) H1
def Ju(K:BT)(tl:TE):TI:=λσ H R=>tl σ H λx H1=>∃a,x=.ref a/\(∃xs,SqT K H1 a xs)/\R (Itt K a) H1
def pN{l:Ev}{tl:TE}(hl:PE X l tl):PI X tg l (uZ X.K tl):=by
 intro gd s σ H R I h;refine thn (hl gd s σ H _ I h) λv s1 z=>?_
 let(x,H1,g,P,Q):=z;let(a,e,(xs,hq),q):=Q;subst e;cases P;let(its,rv,p,hz):=g.list hq;refine wpAny_pyIter_list p.isList ?_;refine(s1.heap.objs.size,[s1.heap.objs.size],_,_,H1,U,g.kept λb o e=>f9 _ e,DW a _,(_,px _ U,U,U),λb V=>?_,q)
 have e:=(V:)
 subst e;exact g.E2 (ot _) (g.hok.fresh (ot _))
def QZ{l:Ev}{tl:TE}(hl:PE X l tl):PI X tg l (Ju X.K tl):=by
 intro gd s σ H R I h;refine thn (hl gd s σ H _ I h) λv s1 z=>?_
 let(x,H1,g,P,Q):=z;let(a,e,(xs,hq),q):=Q;subst e;cases P;let(its,rv,p,hz):=g.tuple hq;refine wpAny_pyIter_tuple (p) ?_;refine(s1.heap.objs.size,[s1.heap.objs.size],_,_,H1,U,g.kept λb o e=>f9 _ e,zY a _,(_,px _ U,U,U),λb V=>?_,q)
 have e:=(V:)
 subst e;exact g.E2 (ot _) (g.hok.fresh (ot _))
def G9{σ:St}{s:ϋ}{R:It->Hp->Prop}{hi:Int}{t u v:Tok}{tk:Nat}(I:Inv X gd σ H s)(h1:-(2 ^ 62)<=lo)(h2:lo<2 ^ 62)(h3:-(2 ^ 62)<=hi)(h4:hi<2 ^ 62)
  (q:R (Itr lo (hi-lo).toNat) H):Zk X (pyIter (.ref s.heap.objs.size)) (PIE X gd σ tg R) E {s with heap:=s.heap.push {cls:=.type "range",data:=.fields #[.int lo t,.int hi u,.int 1 v]},toks:=tk}:=by
 refine wpAny_pyIter_range (IsRange.new ..) (small_one h1 h2 h3 h4) ?_;have g:Inv X gd σ H {s with heap:=s.heap.push {cls:=.type "range",data:=.fields #[.int lo t,.int hi u,.int 1 v]},toks:=tk}:=I.kept λb o e=>f9 _ e
 refine((s.heap.push {cls:=.type "range",data:=.fields #[.int lo t,.int hi u,.int 1 v]}).objs.size,[(s.heap.push {cls:=.type "range",data:=.fields #[.int lo t,.int hi u,.int 1 v]}).objs.size],_,_,H,U,
  g.kept λb o e=>f9 _ e,zZ _ lo (hi-lo).toNat,?_,λb z=>?_,q)
 ·have P:lo+((0:Nat))*1=lo:=by simp
  have K:(((hi-lo).toNat))-((0:Nat))=Builtin.Range.rangeSize lo hi 1:=by rw[rangeSize_one];split <;> lia
  rw[P,K];exact px _ U
 ·have e:b=(s.heap.push {cls:=.type "range",data:=.fields #[.int lo t,.int hi u,.int 1 v]}).objs.size:=(z:)
  subst e;exact g.E2 (ot _) (g.hok.fresh (ot _))
def Jv(ta:TA):TI:=λσ H R=>ta σ H λvs H1=>∃j:Int,vs=[.int j] /\ -(2 ^ 62)<=j/\j<2 ^ 62/\R (Itr 0 j.toNat) H1
abbrev AD(X:Cx)(e:Ev):Prop:=pq [e] X.env=[(false,eval e X.env)]
def uP{a:Ev}{ta:TA}{p pos:Pos}(hg:Gl X "range")(hm:X.mg "range"=Y)(ha:PA X [a] ta)(hs:‹AD X a›):PI X tg (.Call (.Name "range" p) [a] [] pos) (Jv ta):=by
 intro gd s σ H R I h;refine Call_ (gK I hg hm boot_range (PyProof.Rows.callWith_type1 (thn (ha pos gd s σ H _ I h) λus s1 (vs,H1,Q,K,g)=>?_) hs U))
 let(j,e,g,P,q):=g;subst e;cases K with
 |cons r z =>
  cases z;let(t,U):=r;exact call_range_1 (G9 Q (by lia) (by lia) g P (q:))
def PC(wi:TI)(g:TG)(tb:TS):TS:=λD σ H=>wi σ H λZh H1=>∃W:Nat->Nat->St->Hp->Prop,(∃m,W 0 m σ H1)/\∀i m σ H,W i m σ H ->
 (Zh.stop i H/\D.nx σ H)\/(Zh.go i H/\∃N:St->Hp->Prop,(∀q H',N q H'->∃m',m'<m/\W (i+1) m' q H')/\∀x H',Zh.yld i H x H'->g x σ H' λz H2=>tb {D with nx:=N,ct:=N,bk:=D.nx} z H2)
def qY(fp:List J)(h:Do):List (J×Obj):=fp.filterMap λb=>(h.get? b).map λo=>(b,o)
def fT{h:Do}{b:J}{o:Obj}(g:b∈fp)(e:h.get? b=Z o):(b,o)∈qY fp h:=YS.mpr (b,g,by rw[e];rfl)
def EC{h:Do}{p:J×Obj}(hp:p∈qY fp h):p.1∈fp/\h.get? p.1=Z p.2:=by
 let(b,g,e):=YS.mp hp;cases q:h.get? b with
 |none=>rw[q]at e;cases e
 |some o =>
  rw[q]at e;have z:=Option.some.inj e;subst z;exact(g,q)
def Inv.pinned{σ:St}{s:ϋ}(I:Inv X gd σ H s)(hf:∀b∈fp,sV X gd H b)(ho:∀b∈fp,∃o,s.heap.get? b=Z o/\∀v,o.data ≠ .cell v):Inv X (gd++qY fp s.heap) σ H s:=
 I.lR λp hp=>(n6.mp hp).elim (λz=>I.pin p (qg _ z)) λz=>by
  let(g,e):=EC z;let(f0,f1,f2,_):=hf p.1 g;let(o,q,d):=ho p.1 g;rw[e]at q;cases q;exact(e,f0,f1,f2,d)
def Inv.lF{g:List (J×Obj)}{σ:St}{s:ϋ}(I:Inv X (gd++g) σ H s):Inv X gd σ H s:=I.lR λp hp=>I.pin p (qg _ (qp _ hp))
def AG{wi:TI}{g:TG}{tb:TS}{pos:Pos}(hp:YL (model X.prog X.w) X.A X.env X.xe)(hc:X.calm=O)(hi:PI X tg iter wi)(hg:PG X tg g)(P:PSs X body tb)
  (hs:∀x,foldedSetIterable iter X.env x=pure x:=by intro _;rfl):PS X (.For tg iter body [] pos) (PC wi g tb):=by
 right;refine wpAny_For (thn (hi gd s σ H _ I h) λv s1 h1=>thn h1 λa0 s2 h2=>?_) hs
 let(it,fp,tn,Zh,H2,e,I2,T,aN,f2,W,(m0,w0),turn):=h2;subst e;have PU:∀{H':Hp},(∀b∈fp,H' b=Y)->∀b∈fp,sV X gd H' b:=λhn b P=>(hn b P,(f2 b P).2)
 refine codeAny_forLoop_any (λn s'=>∃i K H',Inv X gd K H' s'/\tn i s'.heap/\(∀b∈fp,H' b=Y)/\W i n K H') ?_ m0 (0,σ,H2,I2,aN,λb P=>(f2 b P).1,w0)
 rintro n s3 ⟨i,z,H3,I3,ar,ay,w3⟩
 obtain⟨stop,qn⟩|⟨go,N,hN,step⟩:=turn i n z H3 w3
 ·refine wpAny_passesOwn hp (thn (T.done X U U U hc i gd s3 z H3 X.xe I3 (PU ay) ar stop) λr s4 Q=>?_)
  let(hr,I4):=Q;subst hr;exact wpAny_execs_nil (z,H3,I4,qn)
 ·refine wpAny_passesOwn hp (thn (T.item X U U U hc i gd s3 z H3 X.xe I3 (PU ay) ar go) λr s4 Q=>?_)
  let(u,hr,h4):=Q;subst hr;refine wpAny_passesOwn hp (thn h4 λ_ s5 Q=>?_)
  let(x,H5,I5,r5,y5,ak,aR):=Q;have aW:=I5.pinned (PU aR) (T.obj _ _ ak);refine wpAny_passesOwn hp (thn (hg _ s5 z H5 x u _ aW r5 (step x H5 y5)) λ_ s6 (aM,H6,I6,q6)=>(wpAny_passesOwn hp (thn (P _ s6 aM H6 _ I6 q6) λf s7 q7=>?_)))
  have again:∀{q:St}{H7:Hp},Inv X (gd++qY fp s5.heap) q H7 s7->N q H7->∃m,m<n/\∃i K H',Inv X gd K H' s7/\tn i s7.heap/\(∀b∈fp,H' b=Y)/\W i m K H':=λ{q H7} V n7=>by
   let(m',hm,w7):=hN q H7 n7;refine(m',hm,i+1,q,H7,V.lF,T.keep _ _ _ ak λb P o e=>(V.pin (b,o) (qg _ (qg _ (fT P e)))).1,λb P=>?_,w7)
   let(o,e,d):=T.obj _ _ ak b P;exact(V.pin (b,o) (qg _ (qg _ (fT P e)))).2.1
  cases f with
  |next=>let(q,H7,V,n7):=q7;exact again V n7
  |cont=>let(q,H7,V,n7):=q7;exact again V n7
  |brk=>let(q,H7,V,q7):=q7;exact(q,H7,V.lF,q7)
  |ret v=>let(x7,q,H7,V,r7,q7):=q7;exact(x7,q,H7,V.lF,r7,q7)
end
variable{D:Ends}
theorem JJ{K:BT}{xs:List V}{g:TG}{tb:TS}{σ:St}(Pv:Nat->St->Hp->Prop)(h0:Pv 0 σ H)(hl:∀i σ H,i<=xs.length->Pv i σ H->SqL K H a xs)
  (hs:∀i x σ H,xs[i]?=Z x->Pv i σ H->g x σ H λz H2=>tb {D with nx:=Pv (i+1),ct:=Pv (i+1),bk:=D.nx} z H2) (hd:∀σ H,Pv xs.length σ H->D.nx σ H):
  ∃W:Nat->Nat->St->Hp->Prop,(∃m,W 0 m σ H)/\∀i m σ H,W i m σ H ->
   ((Itl K a).stop i H/\D.nx σ H)\/((Itl K a).go i H/\∃N:St->Hp->Prop,(∀P H',N P H'->∃m',m'<m/\W (i+1) m' P H')/\∀x H',(Itl K a).yld i H x H'->g x σ H' λz H2=>tb {D with nx:=N,ct:=N,bk:=D.nx} z H2):=by
 refine(λi m σ H=>m=xs.length-i/\i<=xs.length/\Pv i σ H,(xs.length,by simp,FI _,h0),?_)
 rintro i m σ H ⟨rfl,hi,p⟩
 have q:=hl i σ H hi p;by_cases Q:i<xs.length
 ·refine .inr ((xs,xs[i],q,by simp[Q]),Pv (i+1),λP H' p'=>(xs.length-(i+1),by omega,U,Q,p'),λx H' y=>?_)
  let(e,y):=y;subst e;exact hs i x σ _ (y xs q) p
 ·have e:i=xs.length:=by lia
  subst e;exact .inl ((xs,q,ot _),hd σ H p)
abbrev R2:=V->V->Hp->VK->Prop
def OpR(X:Cx)(f:B->B->Sem B)(r:R2):Prop:=
 ∀(gd:List (J×Obj))(s:ϋ)(σ:St)(H:Hp)(x y:V)(v u:B)(Q:VK),Inv X gd σ H s->RelV x v->RelV y u->r x y H Q ->
  Zk X (f v u) (EP X gd σ Q) X.xe s
def UnR(X:Cx)(f:B->Sem B)(r:V->Hp->VK->Prop):Prop:=
 ∀(gd:List (J×Obj))(s:ϋ)(σ:St)(H:Hp)(x:V)(v:B)(Q:VK),Inv X gd σ H s->RelV x v->r x H Q ->
  Zk X (f v) (EP X gd σ Q) X.xe s
def b8(X:Cx)(f:B)(r:List V->Hp->VK->Prop):Prop:=
 ∀(gd:List (J×Obj))(s:ϋ)(σ:St)(H:Hp)(xs:List V)(us:List B)(Q:VK),Inv X gd σ H s->Vals xs us->r xs H Q ->
  Zk X (call f us) (EP X gd σ Q) X.xe s
def Wz(X:Cx)(r:V->Hp->(Bool->Hp->Prop)->Prop):Prop:=
 ∀(gd:List (J×Obj))(s:ϋ)(σ:St)(H:Hp)(x:V)(v:B)(Q:Bool->Hp->Prop),Inv X gd σ H s->RelV x v->r x H Q ->
  Zk X (truthy v) (TP X gd σ Q) X.xe s
def tOp(r:R2)(ta tb:TE):TE:=λσ H Q=>ta σ H λx H1=>tb σ H1 λy H2=>r x y H2 Q
def tUn(r:V->Hp->VK->Prop)(ta:TE):TE:=λσ H Q=>ta σ H λx H1=>r x H1 Q
inductive rI(C:Int->Int->Prop)(g:Int->Int->V)(x:V)(y:V)(H:Hp)(Q:VK):Prop
 |mk(i j:_)(h1:x=.int i)(h2:y=.int j)(h3:C i j)(h4:Q (g i j) H)
inductive rI0(g:Int->Int->V)(x:V)(y:V)(H:Hp)(Q:VK):Prop
 |mk(i j:_)(h1:x=.int i)(h2:y=.int j)(h3:Q (g i j) H)
inductive rU(g:Int->V)(x:V)(H:Hp)(Q:VK):Prop
 |mk(i:_)(h1:x=.int i)(h2:Q (g i) H)
section
variable{a:Ev}{ta tb:TE}{pos:Pos}
def Sg(ha:PE X a ta)(hb:PE X b tb){s:ϋ}{σ:St}{R:V->V->Hp->Prop}(I:Inv X gd σ H s)
  (h:ta σ H λx H1=>tb σ H1 λy H2=>R x y H2) {Q:B->ϋ->Prop} {f:B->B->Sem B}
  (hf:∀v u s2 x y H2,Inv X gd σ H2 s2->RelV x v->RelV y u->R x y H2->Zk X (f v u) Q X.xe s2):
  Zk X (eval a X.env) (λv g=>Zk X (eval b X.env) (λu s₂=>Zk X (f v u) Q X.xe s₂) X.xe g) X.xe s:=by
 exact thn (ha gd s σ H _ I h) λv s1 (x,H1,I1,z,P)=>(thn (hb gd s1 σ H1 _ I1 P) λu s2 (y,H2,I2,q,K)=>(hf v u s2 x y H2 I2 z q K))
def cP{op:Operator}{r:R2}(ho:OpR X (binaryOp op) r)(ha:PE X a ta)(K:PE X b tb):PE X (.BinOp a op b pos) (tOp r ta tb):=by
 left;exact wpAny_BinOp (Sg ha K I h λv u s2 x y H2 P z g q=>ho gd s2 σ H2 x y v u Q P z g q)
def Ul{op:UnaryOp}{r:V->Hp->VK->Prop}(ho:UnR X (unaryOp op) r)(ha:PE X a ta):PE X (.UnaryOp op a pos) (tUn r ta):=by
 left;exact UnaryOp_ (thn (ha gd s σ H _ I h) λv s1 (x,H1,z,g,q)=>ho gd s1 σ H1 x v Q z g q)
def opI{f:B->B->Sem B}{C:Int->Int->Prop}{g:Int->Int->Int}
  (rule:∀(i j:Int)(t u:Tok)(s:ϋ)(Q:B->ϋ->Prop)(E:B->ϋ->Prop),C i j->Q (.int (g i j) s.toks) {s with toks:=s.toks+1}->Zk X (f (.int i t) (.int j u)) Q E s):
  OpR X f (rI C λi j=>.int (g i j)):=by
 intro gd s σ H x y v u Q I K z h;let(i,j,U,U,P,q):=h;let(t,U):=K;let(t',U):=z;exact rule i j t t' s _ _ P (.int (g i j),H,I.tok _,(_,U),q)
def Uq{f:B->B->Sem B}{g:Int->Int->Int}
  (rule:∀(i j:Int)(t u:Tok)(s:ϋ)(Q:B->ϋ->Prop)(E:B->ϋ->Prop),Q (.int (g i j) s.toks) {s with toks:=s.toks+1}->Zk X (f (.int i t) (.int j u)) Q E s):
  OpR X f (rI0 λi j=>.int (g i j)):=by
 intro gd s σ H x y v u Q I K z h;let(i,j,U,U,q):=h;let(t,U):=K;let(t',U):=z;exact rule i j t t' s _ _ (.int (g i j),H,I.tok _,(_,U),q)
def Rf{f:B->B->Sem B}{g:Int->Int->Bool}
  (rule:∀(i j:Int)(t u:Tok)(s:ϋ)(Q:B->ϋ->Prop)(E:B->ϋ->Prop),Q (.bool (g i j)) s->Zk X (f (.int i t) (.int j u)) Q E s):
  OpR X f (rI0 λi j=>.bl (g i j)):=by
 intro gd s σ H x y v u Q I K z h;let(i,j,U,U,q):=h;let(t,U):=K;let(t',U):=z;exact rule i j t t' s _ _ (.bl (g i j),H,I,U,q)
def Oa(i j:Int):Prop:=0<=j/\j<=1000000/\i.natAbs<2 ^ 64
def KO(i j:Int):Prop:=(-(2 ^ 64)<i/\i<2 ^ 64)\/(-(2 ^ 64)<j/\j<2 ^ 64)
def KO.ok{i j:Int}(h:KO i j):IntMulOk i j:=by
 obtain⟨h1,h2⟩|⟨h1,h2⟩:=h
 ·exact .of_left (intBits_le_64 h1 h2)
 ·exact .of_right (intBits_le_64 h1 h2)
def nK:OpR X (binaryOp .Add) (rI0 λi j=>.int (i+j)):=Uq λ_ _ _ _ _ _ _ q=>add_int q
def AQ:OpR X (binaryOp .Sub) (rI0 λi j=>.int (i-j)):=Uq λ_ _ _ _ _ _ _ q=>sub_int q
def kP:OpR X (binaryOp .Mult) (rI KO λi j=>.int (i*j)):=opI λ_ _ _ _ _ _ _ g q=>mul_int q g.ok
def iI:OpR X (binaryOp .Mod) (rI (λ_ j=>0<j) λi j=>.int (i % j)):=opI λi j _ _ _ _ _ g q=>by
 exact mod_int' (by lia) (by rw[Int.fmod_eq_emod_of_nonneg i (by lia)];exact q)
def IJ:OpR X (binaryOp .Pow) (rI Oa λi j=>.int (i ^ j.toNat)):=opI λ_ _ _ _ _ _ _ g q=>pow_int_small g.1 g.2.1 g.2.2 q
def unI{f:B->Sem B}{g:Int->Int}
  (rule:∀(i:Int)(t:Tok)(s:ϋ)(Q:B->ϋ->Prop)(E:B->ϋ->Prop),Q (.int (g i) s.toks) {s with toks:=s.toks+1}->Zk X (f (.int i t)) Q E s):
  UnR X f (rU λi=>.int (g i)):=by
 intro gd s σ H x v Q I z h;let(i,U,q):=h;let(t,U):=z;exact rule i t s _ _ (.int (g i),H,I.tok _,(_,U),q)
def Pn:UnR X (unaryOp .USub) (rU λi=>.int (-i)):=unI λ_ _ _ _ _ q=>neg_int q
end
def LP:V->V->Bool
 |.non,.non=>O|.non,.int _=>O|.int _,.non=>O|.non,.bl _=>O|.bl _,.non=>O|.non,.str _=>O|.str _,.non=>O
 |.int _,.int _=>O|.bl _,.bl _=>O|.str _,.str _=>O|.byt _,.byt _=>O
 |.int _,.str _=>O|.str _,.int _=>O|.bl _,.str _=>O|.str _,.bl _=>O
 |_,_=>ϊ
def rEq:R2:=λx y H Q=>LP x y=O/\Q (.bl (decide (x=y))) H
def rNe:R2:=λx y H Q=>LP x y=O/\Q (.bl (!decide (x=y))) H
def C6{i j:Int}:decide (V.int i=V.int j)=(i==j):=by
 rw[XR];simp
def JU{i j:Bool}:decide (V.bl i=V.bl j)=(i==j):=by
 rw[XR];simp
def C5{i j:Str}:decide (V.str i=V.str j)=(i==j):=by
 rw[XR];simp
def C7{i j:Array UInt8}:decide (V.byt i=V.byt j)=(i.toList==j.toList):=by
 rw[XR];cases i;cases j;simp
variable{its:List B}{y:V}
section
variable{a c:Ev}{ta tb:TE}{pos:Pos}
def bo{σ:St}{s:ϋ}{Q:VK}{k k':Bool}(I:Inv X gd σ H s)(q:Q (.bl k) H)(e:k=k'):EP X gd σ Q (.bool k') s:=by
 subst e;exact(.bl k,H,I,U,q)
theorem OA:OpR X (compareOp .Eq) rEq:=by
 intro gd s σ H x y v u Q I z g h;let(hs,q):=h;cases x with
 |non =>
  cases z;cases y with
  |non=>cases g;exact PySem.EqNone.eq_none_none (bo I q ad)
  |bl j=>cases g;exact PySem.EqNone.eq_none_bool (bo I q ad)
  |int j=>let(t',U):=g;exact PySem.EqNone.eq_none_int (bo I q ad)
  |str j=>let(t',U):=g;exact PySem.EqNone.eq_none_str (bo I q ad)
  |_=>exact absurd (show ϊ=O from hs) sU
 |bl i =>
  cases z;cases y with
  |non=>cases g;exact PySem.EqNone.eq_bool_none (bo I q ad)
  |bl j=>cases g;exact eq_bool (bo I q JU)
  |str j=>let(t',U):=g;exact PySem.EqMixed.eq_bool_str (bo I q ad)
  |_=>exact absurd (show ϊ=O from hs) sU
 |int i =>
  let(t,U):=z;cases y with
  |non=>cases g;exact PySem.EqNone.eq_int_none (bo I q ad)
  |int j=>let(t',U):=g;exact eq_int (bo I q C6)
  |str j=>let(t',U):=g;exact PySem.EqMixed.eq_int_str (bo I q ad)
  |_=>exact absurd (show ϊ=O from hs) sU
 |str i =>
  let(t,U):=z;cases y with
  |non=>cases g;exact PySem.EqNone.eq_str_none (bo I q ad)
  |bl j=>cases g;exact PySem.EqMixed.eq_str_bool (bo I q ad)
  |int j=>let(t',U):=g;exact PySem.EqMixed.eq_str_int (bo I q ad)
  |str j=>let(t',U):=g;exact eq_str (bo I q C5)
  |_=>exact absurd (show ϊ=O from hs) sU
 |byt i =>
  let(t,U):=z;cases y with
  |byt j=>let(t',U):=g;exact W.eq_bytes (bo I q C7)
  |_=>exact absurd (show ϊ=O from hs) sU
 |_=>cases y <;> exact absurd (show ϊ=O from hs) sU
theorem Oz:OpR X (compareOp .NotEq) rNe:=by
 intro gd s σ H x y v u Q I z g h;let(hs,q):=h;cases x with
 |non =>
  cases z;cases y with
  |non=>cases g;exact PySem.EqNone.ne_none_none (bo I q ad)
  |bl j=>cases g;exact PySem.EqNone.ne_none_bool (bo I q ad)
  |int j=>let(t',U):=g;exact PySem.EqNone.ne_none_int (bo I q ad)
  |str j=>let(t',U):=g;exact PySem.EqNone.ne_none_str (bo I q ad)
  |_=>exact absurd (show ϊ=O from hs) sU
 |bl i =>
  cases z;cases y with
  |non=>cases g;exact PySem.EqNone.ne_bool_none (bo I q ad)
  |bl j=>cases g;exact ne_bool (bo I q (congrArg not JU))
  |str j=>let(t',U):=g;exact PySem.EqMixed.ne_bool_str (bo I q ad)
  |_=>exact absurd (show ϊ=O from hs) sU
 |int i =>
  let(t,U):=z;cases y with
  |non=>cases g;exact PySem.EqNone.ne_int_none (bo I q ad)
  |int j=>let(t',U):=g;exact ne_int (bo I q (congrArg not C6))
  |str j=>let(t',U):=g;exact PySem.EqMixed.ne_int_str (bo I q ad)
  |_=>exact absurd (show ϊ=O from hs) sU
 |str i =>
  let(t,U):=z;cases y with
  |non=>cases g;exact PySem.EqNone.ne_str_none (bo I q ad)
  |bl j=>cases g;exact PySem.EqMixed.ne_str_bool (bo I q ad)
  |int j=>let(t',U):=g;exact PySem.EqMixed.ne_str_int (bo I q ad)
  |str j=>let(t',U):=g;exact ne_str (bo I q (congrArg not C5))
  |_=>exact absurd (show ϊ=O from hs) sU
 |byt i =>
  let(t,U):=z;cases y with
  |byt j=>let(t',U):=g;exact W.ne_bytes (bo I q (congrArg not C7))
  |_=>exact absurd (show ϊ=O from hs) sU
 |_=>cases y <;> exact absurd (show ϊ=O from hs) sU
def Uo:OpR X (compareOp .Lt) (rI0 λi j=>.bl (decide (i<j))):=Rf λ_ _ _ _ _ _ _ q=>lt_int q
def CC:OpR X (compareOp .Gt) (rI0 λi j=>.bl (decide (j<i))):=Rf λ_ _ _ _ _ _ _ q=>gt_int q
def Up:OpR X (compareOp .GtE) (rI0 λi j=>.bl (decide (j<=i))):=Rf λ_ _ _ _ _ _ _ q=>ge_int q
def Ex:OpR X (compareOp .In) (λx y H Q=>∃i j,x=.str i/\y=.str j/\Q (.bl (!(Builtin.Str.occurrences j i 0 j.length 1).isEmpty)) H):=by
 intro gd s σ H x y v u Q I z g h;let(i,j,U,U,q):=h;let(t,U):=z;let(t',U):=g;exact in_str (bo I q U)
def nJ:OpR X (compareOp .Is) (λx y H Q=>y=.non/\Q (.bl (decide (x=.non))) H):=by
 intro gd s σ H x y v u Q I z g h;let(U,q):=h;cases g;refine is_none_gen (bo I q ?_);cases x <;>(let(t,U):=z;rfl)
def wz:OpR X (compareOp .IsNot) (λx y H Q=>y=.non/\Q (.bl (!decide (x=.non))) H):=by
 intro gd s σ H x y v u Q I z g h;let(U,q):=h;cases g;refine isnot_none_gen (bo I q ?_);cases x <;>(let(t,U):=z;rfl)
def wy:OpR X (compareOp .NotIn) (λx y H Q=>∃i j,x=.str i/\y=.str j/\Q (.bl (!(!(Builtin.Str.occurrences j i 0 j.length 1).isEmpty))) H):=by
 intro gd s σ H x y v u Q I z g h;let(i,j,U,U,q):=h;let(t,U):=z;let(t',U):=g;exact notIn_str (bo I q U)
def OpR.or{f:B->B->Sem B}{r K:R2}(h:OpR X f r)(h':OpR X f K):OpR X f (λx y H Q=>r x y H Q\/K x y H Q):=by
 intro gd s σ H x y v u Q I z g q;obtain q|q:=q
 ·exact h gd s σ H x y v u Q I z g q
 ·exact h' gd s σ H x y v u Q I z g q
def bN(b:Ev)(h:autoParam (op ≠ .In) zdc._auto_1)(h2:autoParam (op ≠ .NotIn) zdc._auto_1):behindInMarks op b=false:=IS b h h2
def MK{r:R2}(ho:OpR X (compareOp op) r)(ha:PE X a ta)(K:PE X b tb)(hm:behindInMarks op b=ϊ):PE X (.Compare a [op] [b] pos) (tOp r ta tb):=by
 left;exact wpAny_Compare1 (Sg ha K I h λv u s2 x y H2 P z g q=>ho gd s2 σ H2 x y v u Q P z g q) hm
def B2(t:TE):TT:=λσ H Q=>t σ H λx H'=>∃k,x=.bl k/\Q k H'
def lP{r:R2}(ho:OpR X (compareOp op) r)(ha:PE X a ta)(hb:PE X b tb)(hm:behindInMarks op b=ϊ):PT X (.Compare a [op] [b] pos) (B2 (tOp r ta tb)):=by
 left;refine wpAny_isTrue_Compare1 (thn (ha gd s σ H _ I h) λv s1 (x,H1,I1,K,q1)=>thn (hb gd s1 σ H1 _ I1 q1) λu s2 (y,H2,I2,q,V) =>
  thn (ho gd s2 σ H2 x y v u _ I2 K q V) λc s3 (z,H3,I3,g,k,e,P)=>?_) hm
 subst e;cases g;exact wpAny_truthy_bool (H3,I3,P)
def N4(K:BT)(x:V)(H:Hp)(k:Bool):Prop:=
 match x with
 |.non=>k=ϊ
 |.bl b=>k=b
 |.int i=>k=(i != 0)
 |.str y=>y.length<=pY/\k=((y.length:Int) != 0)
 |.byt y=>y.size<=pY/\k=((y.size:Int) != 0)
 |.ref p=>(∃xs,SqL K H p xs/\k = !xs.isEmpty)\/(∃xs,SqT K H p xs/\k = !xs.isEmpty)\/∃kvs,H p=Z (.dK kvs)/\k = !kvs.isEmpty
 |_=>False
def Bj{κ:Type}{kvs:List (κ×V)}{vs:List (κ×B)}(r:KV kvs vs):(!vs.isEmpty) = !kvs.isEmpty:=by
 cases r <;> rfl
def rP{xs:List V}(r:Vals xs its):(!its.toArray.isEmpty) = !xs.isEmpty:=by
 cases r <;> simp
def kR:(pY:Nat)<2 ^ 63:=by decide
def yV(h:n<=pY):(n:Int)<2 ^ 63:=by
 have:=Xe
 omega
theorem Pr:Wz X (λx H Q=>∃k,N4 X.K x H k/\Q k H):=by
 intro gd s σ H x v Q I z h;let(k,e,q):=h;have hl:=kR;have hs:pY=16777216:=Xe;cases x with
 |non =>
  cases z;have g:k=false:=e;subst g;exact truthy_none (H,I,q)
 |bl b =>
  cases z;have g:k=b:=e;subst g;exact wpAny_truthy_bool (H,I,q)
 |int i =>
  let(t,U):=z;have g:k=(i != 0):=e;subst g;exact PySem.P.truthy_int (H,I,q)
 |str y =>
  let(t,U):=z;let(hy,g):=e;subst g;exact PySem.P.truthy_str ap (H,I.tok _,q)
 |byt y =>
  let(t,U):=z;let(hy,g):=e;subst g;exact W.truthy_bytes ap (H,I.tok _,q)
 |ref p =>
  cases z;have g:=e;obtain⟨xs,hx,g⟩|⟨xs,hx,g⟩|⟨kvs,hx,g⟩:=g
  ·subst g;let(its,r,V,hz):=I.list hx;have hlen:=r.length;exact wpAny_truthy_list V.isList (by rw[sQ,<- hlen];exact yV (by assumption)) (H,I.tok _,by rw[rP r];exact q)
  ·subst g;let(its,r,V,hz):=I.tuple hx;have hlen:=r.length;exact truthy_tuple V (by rw[sQ,<- hlen];exact yV (by assumption)) (H,I.tok _,by rw[rP r];exact q)
  ·subst g;let(hz,hS,vs,r,m):=I.hok p _ hx;have hlen:kvs.length=vs.length:=Paired.length r;exact wpAny_truthy_dict hS m (by rw[<- hlen];exact yV hz) (H,I.tok _,by rw[Bj r];exact q)
 |_=>exact(show False from e).elim
def HY(ha:PE X a ta)(he:∀whole,isTrue a X.env whole=(do let v <- whole;standAt a.pos;holding [v] (truthy v))):
  PT X a (λσ H Q=>ta σ H λx H'=>∃k,N4 X.K x H' k/\Q k H'):=by
 left;exact isTrue_plain (thn (ha gd s σ H _ I h) λv s1 (x,H1,z,g,q)=>Pr gd s1 σ H1 x v Q z g q) (he _)
def AV:OpR X (binaryOp .Add) (λx y H Q=>∃i j,x=.str i/\y=.str j/\i.length+j.length<=pY/\Q (.str (i++j)) H):=by
 intro gd s σ H x y v u Q I z g h;let(i,j,U,U,K,q):=h;let(t,U):=z;let(t',U):=g;exact add_str (λt' tk=>(.str (i++j),H,I.tok _,(_,U),q)) K
def vals1{x:V}(r:Vals [x] us):∃u,us=[u]/\RelV x u:=by
 cases r with
 |cons q g=>cases g;exact(_,U,q)
def vals2{x:V}(r:Vals [x,y] us):∃u g,us=[u,g]/\RelV x u/\RelV y g:=by
 cases r with
 |cons P K =>
  cases K with
  |cons z q=>cases q;exact(_,_,U,P,z)
def ie(z:X.calm=O):b8 X (.builtin "max") (λxs H Q=>∃i j,xs=[.int i,.int j]/\Q (.int (if j > i then j else i)) H):=by
 intro gd s σ H xs us Q I r h;let(i,j,U,q):=h;let(u,K,U,(t,U),(t',U)):=vals2 r;refine max_two_ints (I.ok.hd z) λh' tk k=>(_,H,I.kept k,?_,q)
 by_cases g:j > i
 ·rw[if_pos g,if_pos g];exact(_,U)
 ·rw[if_neg g,if_neg g];exact(_,U)
def vj:b8 X (.type "int") (λxs H Q=>(∃i,xs=[.int i]/\Q (.int i) H)\/∃k,xs=[.bl k]/\Q (.int (if k then 1 else 0)) H):=by
 intro gd s σ H xs us Q I r h;obtain⟨i,rfl,q⟩|⟨k,rfl,q⟩:=h
 ·let(u,U,t,U):=vals1 r;exact call_int_int (.int i,H,I,(_,U),q)
 ·let(u,U,g):=vals1 r;cases g;exact call_int_bool (.int (if k then 1 else 0),H,I.tok _,(_,U),q)
end
structure FG(h:Do)(x dx C:J)(mA:Str->Option B):Prop where
 obj:h.get? x=Z (W.instObj C dx)
 ns:h.Ns1 dx mA
 ne:dx≠x
variable{mA:Str->Option B}
theorem EM{h:Do}{dx:J}(n:h.Ns1 dx mA):∃od,h.get? dx=Z od/\∀name,W.lookIn name od=Z (mA name):=by
 let(o,es,ep,ho,hd,hk,_,hm):=n;refine(o,ho,λname=>?_)
 have e:=hm name;unfold nsFind findBy at e;rw[<- YT]at e;unfold W.lookIn;rw[hd];dsimp only
 split
 ·rename_i y q;rw[q]at e;exact congrArg Z e
 ·rename_i q;rw[q]at e;have a:es.toList.any (·.refKey)=false:=by
   rw[Yk];intro y K;let(z,t,g):=hk y (Array.mem_toList_iff.mp K);simp[DictEntry.refKey,g]
  have P:¬ es.toList.any (·.refKey)=true:=by rw[a];exact sU
  rw[if_neg P];exact congrArg Z e
variable{C:J}
theorem FG.look{h:Do}{x dx:J}(I:FG h x dx C mA):∃od,W.InstAt h x (W.instObj C dx) C (Z od)/\∀name,W.lookIn name od=Z (mA name):=
 let(od,ho,hl):=EM I.ns
 (od,(I.obj,U,U,ho),hl)
variable{R:Result->ϋ->Prop}{kw:List (Str×B)}
section
variable{prog:Da}{w:Cl}{s:ϋ}{K:BT}{x dx f:J}{name:Str}{v:B}
theorem get_map{expr:Bool}(X:K.In s.heap)(I:FG s.heap x dx C mA)(hg:W.plainGet K C name=O)(q:W.hasDictIn K C=O)
  (ha:W.findIn K (.ref C) name=Z Y) (hv:mA name=Z v) (g:W.handedIn v=O) (h:Q v {s with toks:=s.toks+1}):
  wpAny (model prog w) A (getAttr (.ref x) name expr) Q E s:=by
 let(od,Zh,hl):=I.look;exact W.get_value X Zh (W.plainGet_of hg).1 (W.findObj_own q ha U (by rw[hl,hv])) g h
theorem LO{ns:List Str}{Q:Unit->ϋ->Prop}(X:K.In s.heap)(I:FG s.heap x dx C mA)
  (hs:W.findIn K (.ref C) "__setattr__"=Z (Z (.builtin "object.__setattr__"))) (hp:W.plainOver K C=O) (ht:W.takerIn K C name=Z Y) (hh:W.hasDictIn K C=O)
  (hw:PySem.Within mA ns) (hsz:ns.length<=pY)
  (h:∀h',FG h' x dx C (λy=>if y=name then Z v else mA y)->XF dx s.heap h'->Q () {s with heap:=h',toks:=s.toks+2}):
  wpAny (model prog w) A (setAttr (.ref x) name v) Q E s:=by
 let(od,Zh,hl):=I.look;refine W.set_plain X Zh hs (W.osa_open X Zh hp ht λb=>?_)
 let(cd,hc,V):=W.any_some hh;have hx:=I.obj;refine fu (mX (fu (fu (wpAny_loadPart hx (fu (W.Looks.here (W.looks_clsIn X hc) ?_))))));rw[V];refine mX (fu (mX (fu ?_)));refine wpAny_nsSet1 I.ns λh' q g=>?_
 let(oD,ar,ay,z,P,ak):=q.count (PySem.Within.cons name v hw);exact fu (wpAny_lookBehind z (by rw[P];exact pastItsLine_dict (ui ak (by rw[ri];omega))) (mX (h _ ((g.2 _ (Ne.symm I.ne)).trans I.obj,q,I.ne) g)))
theorem Jb{vs:List B}(X:K.In s.heap)(hm:W.makesIn K C=O)
  (hi:W.findIn K (.ref C) "__init__"=Z (Z (.ref f))) (hf:W.typeIn K (.ref f)=Z (.type "function"))
  (h:codeAny (model prog w) (A.under (.builtin "type.__call__" (.ref C::vs,kw))) (.call (.ref f) (.ref (s.heap.objs.size+1)::vs,kw)) (W.InitBack (s.heap.objs.size+1) R)
   {s with heap:=(s.heap.push W.emptyDict).push (W.instObj C s.heap.objs.size)}):
  codeAny (model prog w) A (.call (.ref C) (vs,kw)) R s:=by
 exact W.make_core (W.makes_of X hm) (W.looks_findIn X hi) (λself=>W.bind_fn X self hf) (.inl U) h
end
def gU(f:Str)(v:V):List (Str×V)->List (Str×V)
 |[]=>[(f,v)]
 | (g,x)::r=>if g=f then(g,v)::r else(g,x)::gU f v r
theorem jD(f g:Str)(v:V):∀fs:List (Str×V),(gU f v fs).lookup g=if g=f then Z v else fs.lookup g
 |[]=>by
  show Xj g [(f,v)]=_;by_cases h:g=f
  ·have q:=beq_iff_eq.mpr h;simp only[Xj,q,if_pos h]
  ·have q:=beq_eq_false_iff_ne.mpr h;simp only[Xj,q,if_neg h]
 | (k,x)::r=>by
  have z:=jD f g v r;rw[show gU f v ((k,x)::r)=(if k=f then(k,v)::r else(k,x)::gU f v r)from rfl]
  by_cases hk:k=f
  ·rw[if_pos hk];by_cases h:g=k
   ·have q:=beq_iff_eq.mpr h;simp only[Xj,q,if_pos (h.trans hk)]
   ·have q:=beq_eq_false_iff_ne.mpr h;simp only[Xj,q,if_neg (λe:g=f=>h (e.trans hk.symm))]
  ·rw[if_neg hk];by_cases h:g=k
   ·have q:=beq_iff_eq.mpr h;simp only[Xj,q,if_neg (λe=>hk (h.symm.trans e))]
   ·have q:=beq_eq_false_iff_ne.mpr h;simp only[Xj,q];exact z
theorem g8(f:Str)(v:V):∀fs:List (Str×V),f∈(gU f v fs).map (·.1)/\∀g,g∈fs.map (·.1)->g∈(gU f v fs).map (·.1)
 |[]=>(by simp[gU],λg h=>by simp at h)
 | (k,x)::r=>by
  let(i1,i2):=g8 f v r;rw[show gU f v ((k,x)::r)=(if k=f then(k,v)::r else(k,x)::gU f v r)from rfl]
  by_cases hk:k=f
  ·rw[if_pos hk];subst hk;exact(by simp,λg h=>by simpa using h)
  ·rw[if_neg hk];refine(?_,λg h=>?_)
   ·exact jQ _ i1
   ·obtain e|e:=pj.mp h
    ·exact pj.mpr (.inl e)
    ·exact jQ _ (i2 g e)
theorem ox(f:Str)(v:V):∀fs:List (Str×V),(gU f v fs).length<=fs.length+1
 |[]=>by simp[gU]
 | (k,x)::r=>by
  have g:=ox f v r;rw[show gU f v ((k,x)::r)=(if k=f then(k,v)::r else(k,x)::gU f v r)from rfl]
  by_cases hk:k=f
  ·rw[if_pos hk,ri,ri];lia
  ·rw[if_neg hk,ri,ri];lia
def iW.some_of{v:V}{o:Option B}(r:iW (Z v) o):∃u,o=Z u/\RelV v u:=by
 cases o with
 |none=>exact(r).elim
 |some u=>exact(u,U,r)
theorem u7{v:V}(r:RelV v u):W.handedIn u=true:=by
 cases v with
 |non=>cases(r);rfl
 |bl b=>cases(r);rfl
 |int i=>let(t,e):=(r);cases e;rfl
 |str x=>let(t,e):=(r);cases e;rfl
 |byt b=>let(t,e):=(r);cases e;rfl
 |flt b=>let(t,e):=(r);cases e;rfl
 |ref a=>cases(r);rfl
 |ty n=>cases(r);rfl
section
variable{w:Cl}{h:Do}{dx:J}{fs:List (Str×V)}
def wN(hok:HOk P w H h)(e:H a=Z (.ins C dx fs)):∃mA,FG h a dx C mA/\(∀f,iW (fs.lookup f) (mA f))/\PySem.Within mA (fs.map (·.1))/\fs.length<=1000/\H dx=Z (.own a):=by
 let(d,z,ne,ob,mA,n,r,q):=(hok a _ e);exact(mA,(ob,n,ne),r,q,z,d)
end
structure Cls(K:BT)(C:J):Prop where
 pg:W.plainGet K C Str.empty=O
 hd:W.hasDictIn K C=O
 po:W.plainOver K C=O
 sa:W.findIn K (.ref C) "__setattr__"=Z (Z (.builtin "object.__setattr__"))
theorem Cls.get{K:BT}(c:Cls K C)(f:Str):W.plainGet K C f=true:=c.pg
def bR(K:BT)(C:J)(f:Str):Prop:=W.findIn K (.ref C) f=Z Y
theorem bR.Td{K:BT}{f:Str}(n:bR K C f):W.takerIn K C f=Z none:=by
 unfold W.takerIn;rw[n];rfl
structure Meth(K:BT)(C:J)(m:Str)(f:J):Prop where
 at_:W.findIn K (.ref C) m=Z (Z (.ref f))
 fn:W.isFn K (.ref f)=O
 kp:W.keepIn K (.ref f)=O
variable{prog:Da}{env:Env}
section
variable{σ:St}{s:ϋ}{dx:J}{fs:List (Str×V)}{f:Str}{v:V}
def Bw{b:Bool}(I:Inv X gd σ H s)(e:H a=Z (.ins C dx fs))(c:Cls X.K C)(n:bR X.K C f)(l:fs.lookup f=Z v)
  (h:∀u s',Inv X gd σ H s'->RelV v u->Q u s'):wpAny (model X.prog X.w) A (getAttr (.ref a) f b) Q E s:=by
 let(mA,Ze,r,_,_,_):=wN I.hok e;let(u,g,ru):=iW.some_of (by rw[<- l];exact r f)
 exact get_map I.kIn Ze (c.get f) c.hd n g (u7 ru) (h u _ (I.tok _) ru)
def Ah{Q:Unit->ϋ->Prop}(I:Inv X gd σ H s)(e:H a=Z (.ins C dx fs))(c:Cls X.K C)(n:bR X.K C f)(hl:fs.length<1000)(V:RelV y u)
  (h:∀s',Inv X gd σ (upd H a (.ins C dx (gU f y fs))) s'->Q () s'):wpAny (model X.prog X.w) A (setAttr (.ref a) f u) Q E s:=by
 let(mA,Ze,r,wi,_,ho):=wN I.hok e;have hz:(fs.map (·.1)).length<=pY:=by rw[dN,Xe];lia
 refine LO I.kIn Ze c.sa c.po n.Td c.hd wi hz λh' P sb=>h _ ?_
 have hd:∃o,h'.get? dx=Z o:=let(o,_,_,e',_):=P.ns;(o,e')
 refine I.write (x:=a) (e:=dx) (by rw[e];exact True.intro) (.inr ho) (λb q hb z=>(sb.2 b hb).trans z) hd (by rw[ao Ze.ne];exact ho,?_,Ze.ne,P.obj,_,P.ns,λg=>?_,λg hg=>?_)
 ·have:=ox f y fs;lia
 ·rw[jD];by_cases q:g=f
  ·rw[if_pos q,if_pos q];exact V
  ·rw[if_neg q,if_neg q];exact r g
 ·by_cases q:g=f
  ·rw[q];exact(g8 f y fs).1
  ·refine(g8 f y fs).2 g (wi g λz=>hg ?_)
   show(if g=f then Z u else mA g)=Y
   rw[if_neg q];exact z
theorem Inv.made(I:Inv X gd σ H s):Inv X gd σ (upd (upd H s.heap.objs.size (.own (s.heap.objs.size+1))) (s.heap.objs.size+1) (.ins C s.heap.objs.size []))
  {s with heap:=(s.heap.push W.emptyDict).push (W.instObj C s.heap.objs.size)}:=by
 have g:(s.heap.push W.emptyDict).get? s.heap.objs.size=Z W.emptyDict:=px s.heap U;have P:=by
  have:=px (s.heap.push W.emptyDict) (o:=W.instObj C s.heap.objs.size) U
  rwa [BS]at this
 have K:(s.heap.push W.emptyDict).Ns s.heap.objs.size (λ_=>Y):=(W.emptyDict,#[],_,g,U,(λe he=>absurd he ad),λ_=>rfl)
 have Q:=I.laid (o:=.own (s.heap.objs.size+1)) (t':=s.toks) (λb u q=>f9 _ q) (ot _) (_,g)
 refine Q.laid (λb u q=>f9 _ q) (Yx (BS _ _)) ?_
 have ne:s.heap.objs.size≠s.heap.objs.size+1:=sT (W7 _);refine(by rw[ao ne,au],FI _,ne,P,λ_=>Y,(Heap.Ns1.of_empty K).at λo q=>f9 _ q,λ_=>True.intro,λy z=>absurd U z)
def Dj{w:Cl}{f:Str}{pos:Pos}{s:ϋ}(q:attributeBase e f env (eval e env)=eval e env)
  (h:wpAny (model prog w) A (eval e env) (λo g=>wpAny (model prog w) A (getAttr o f O) Q E g) E s):wpAny (model prog w) A (eval (.Attribute e f pos) env) Q E s:=
 Attribute_any_ h (by rw[arm_eval_Attribute,q])
end
def VF(K:BT)(ta tv:TE)(f:Str):TS:=λD σ H=>tv σ H λy H1=>ta σ H1 λx H2=>∃a C dx fs,x=.ref a/\H2 a=Z (.ins C dx fs)/\Cls K C/\bR K C f/\fs.length<1000 /\
 D.nx σ (upd H2 a (.ins C dx (gU f y fs)))
section
variable{value:Ev}{f:Str}{pos:Pos}{ta tv:TE}
def jx(ha:PE X o ta)(hv:PE X value tv)(hs:swapsWith value (Z (.Attribute o f pos')) pos.line X.env=pure ϊ):PS X (.Assign [.Attribute o f pos'] value pos) (VF X.K ta tv f):=by
 right;refine plainObj_wpAny_Assign_Attribute (thn (hv gd s σ H _ I h) λu s1 (y,H1,I1,z,q)=>thn (ha gd s1 σ H1 _ I1 q) λov s2 g=>?_) hs
 let(x,H2,I2,P,a,C,dx,fs,ex,V,c,n,l,Q):=g;subst ex;obtain rfl:=P;exact Ah I2 V c n l z λs3 I3=>(σ,_,I3,Q)
end
section
variable{σ:St}{s:ϋ}{c:B}{b:Bool}
inductive km(K:BT)(H:Hp):V->B->Prop where
 |non:km K H .non (.type "NoneType")
 |bl(x:Bool):km K H (.bl x) (.type "bool")
 |int(i:Int):km K H (.int i) (.type "int")
 |str(x:Str):km K H (.str x) (.type "str")
 |flt(x:UInt64):km K H (.flt x) (.type "float")
 |lst{a:J}{xs:List V}(e:H a=Z (.lst xs)):km K H (.ref a) (.type "list")
 |frz{a:J}{o:Obj}{xs:List V}(e:H a=Z (.frz o (.lst xs))):km K H (.ref a) (.type "list")
 |tup{a:J}{xs:List V}(e:H a=Z (.tup xs)):km K H (.ref a) (.type "tuple")
 |dK{a:J}{kvs:List (Key×V)}(e:H a=Z (.dK kvs)):km K H (.ref a) (.type "dict")
 |dT{a:J}{kvs:List (List Key×V)}(e:H a=Z (.dT kvs)):km K H (.ref a) (.type "dict")
 |ins{a C dx:J}{fs:List (Str×V)}(e:H a=Z (.ins C dx fs))(cl:Cls K C)(ha:W.findIn K (.ref C) "__class__"=Z (Z (.builtin "object.__class__")))
   (hn:W.specialIn K (.builtin "object.__class__") "__get__"=Z (Z (.builtin "getset_descriptor.__get__"))) (htk:W.takesIn K (.builtin "object.__class__")=Z O)
   (hm:W.mroIn K C (.type "object")=Z O):km K H (.ref a) (.ref C)
theorem EV{x:V}{t:B}(I:Inv X gd σ H s)(g:RelV x u)(ty:km X.K H x t)(e:W.kitOne X.K t c=Z b)(h:∀tk,Q (.bool b) {s with toks:=tk}):
  wpAny (model X.prog X.w) A (call (.builtin "isinstance") [u,c]) Q E s:=by
 cases ty with
 |non=>cases(g);exact W.kia_one W.kitx_none I.kIn True.intro e (λz=>nomatch z) h
 |bl y=>cases(g);exact W.kia_one W.kitx_bool I.kIn True.intro e (λz=>nomatch z) h
 |int i=>let(t,q):=(g);cases q;exact W.kia_one W.kitx_int I.kIn True.intro e (λz=>nomatch z) h
 |str y=>let(t,q):=(g);cases q;exact W.kia_one W.kitx_str I.kIn True.intro e (λz=>nomatch z) h
 |flt y=>let(t,q):=(g);cases q;exact W.kia_one W.kitx_float I.kIn True.intro e (λz=>nomatch z) h
 |@lst a xs P =>
  cases(g)
  let(_,_,n,_,h1):=(I.hok a _ P);exact W.kia_one W.kitx_list I.kIn (_,h1,U) e (λz=>nomatch z) h
 |@frz a ob xs P =>
  cases(g)
  let(_,_,_,n,_,h1):=(I.hok a _ P);exact W.kia_one W.kitx_list I.kIn (_,h1,U) e (λz=>nomatch z) h
 |@tup a xs P =>
  cases(g)
  let(_,_,_,p):=(I.hok a _ P);let(o,h1,h2,_):=p.1;exact W.kia_one W.kitx_tuple I.kIn (o,h1,h2) e (λz=>nomatch z) h
 |@dK a kvs P =>
  cases(g)
  let(_,_,vs,_,p):=(I.hok a _ P);let(o,es,ep,h1,h2,_):=p;exact W.kia_one W.kitx_dict I.kIn (o,h1,h2.1) e (λz=>nomatch z) h
 |@dT a kvs P =>
  cases(g)
  let(_,_,xs,_,o,es,ep,h1,h2,_):=(I.hok a _ P);exact W.kia_one W.kitx_dict I.kIn (o,h1,h2.1) e (λz=>nomatch z) h
 |@ins a C dx fs P cl ha hn htk hm =>
  cases(g)
  let(mA,Ze,_):=wN I.hok P;let(od,Zh,_):=Ze.look;exact W.kia_one (W.kitx_own (cl.get _) cl.hd ha hn htk hm) I.kIn Zh e (λz=>nomatch z) h
end
structure cN(k:Nat)(A:Db):Prop where
 hd:A.handled=Y
 dp:A.depth+3*k+5<recursionLimit
 un:A.units+16*k+200<cLine
def cN.mono{k:Nat}(r:cN k A)(h:j<=k):cN j A:=(r.hd,by have:=r.dp;lia,by have:=r.un;lia)
theorem cN.deeper{k:Nat}{A:Db}(r:cN (k+1) A)(env:Env):cN k (A.deeper env):=
 (r.hd,by have:=r.dp;show A.depth+1+3*k+5<_;lia,by have:=r.un;show A.units+3+16*k+200<_;lia)
def A6:(A.under (.builtin "type.__call__" (.ref C::us,kw))).depth=A.depth+1:=by
 rfl
def A5:(A.under (.builtin "type.__call__" (.ref C::us,kw))).units=A.units+1:=by
 rfl
def cN.make{k:Nat}{A:Db}(r:cN (k+1) A)(C:J)(us:List B)(kw:List (Str×B)):cN k (A.under (.builtin "type.__call__" (.ref C::us,kw))):=
 (r.hd,by have:=r.dp;rw[A6];lia,by have:=r.un;rw[A5];lia)
theorem cN.depth{k:Nat}{A:Db}(r:cN k A):A.depth<recursionLimit:=by have:=r.dp;lia
theorem cN.units{k:Nat}{A:Db}(r:cN k A):A.units+64<cLine:=by have:=r.un;lia
def fg:TA:=λ_ H Q=>Q [] H
def bM(ta:TE)(tr:TA):TA:=λσ H Q=>ta σ H λx H1=>tr σ H1 λxs H2=>Q (x::xs) H2
section
variable{t:TA}{pos:Pos}
def cM:PA X [] fg:=λ_ _ _ _ H Q I h=>Calls.spliced_nil ([],H,I,.nil,h)
abbrev AC(X:Cx)(e:Ev)(f:List Ev):Prop:=pq (e::f) X.env=(false,eval e X.env)::pq f X.env
def bq(ha:PE X e te)(hr:PA X es t)(hs:‹AC X e es›):PA X (e::es) (bM te t):=by
 intro pos gd s σ H Q I h;rw[hs];show wpAny _ _ (spliced ((ϊ,eval e X.env)::backTo pos (pq es X.env))) _ _ s;exact Calls.spliced_cons (thn (ha gd s σ H _ I h) λu s1 (x,H1,V,q,K)=>(thn (hr pos gd s1 σ H1 _ V K) λus s2 (xs,H2,P,g,z)=>(x::xs,H2,P,.cons q g,z)))
def Gf(t:TA):TE:=λσ H Q=>t σ H λxs H1=>xs.length<=pY/\∀p,H1 p=Y->Q (.ref p) (upd H1 p (.tup xs))
def Pz(t:TA):TE:=λσ H Q=>t σ H λxs H1=>xs.length<=pY/\∀p,H1 p=Y->Q (.ref p) (upd H1 p (.lst xs))
def AL{K}(h:PA X es t):PE X (.Tuple es K pos) (Gf t):=by
 intro gd s σ H Q I hq;refine wpAny_Tuple_spliced (thn (h pos gd s σ H _ I hq) λus s1 (xs,H1,g,r,z,q)=>(by rw[<- r.length];exact z,?_))
 have hf:=g.hok.fresh (ot _);refine(.ref s1.heap.objs.size,upd H1 s1.heap.objs.size (.tup xs),g.laid (λb u e=>f9 _ e) (ot _) ?_,U,q _ hf)
 exact(z,us,r,((_,px _ U,U,_,U),_,px _ U,U))
def Iu(h:PA X es t):PE X (.List es pos) (Pz t):=by
 intro gd s σ H Q I hq;refine wpAny_List_spliced (thn (h pos gd s σ H _ I hq) λus s1 (xs,H1,g,r,z,q)=>(by rw[<- r.length];exact z,?_))
 have hf:=g.hok.fresh (ot _);refine(.ref s1.heap.objs.size,upd H1 s1.heap.objs.size (.lst xs),g.laid (λb u e=>f9 _ e) (ot _) ?_,U,q _ hf)
 exact(z,us,0,r,px _ U)
end
abbrev Sp:=List V->Hp->VK->XK->Prop
abbrev CXT:=List Env->Hp->ϋ->XK->B->ϋ->Prop
structure zx(P:Da)(w:Cl)(K:BT)(mg:Str->Option B)(base:Do)(A:Db)(outer:List Env)(s:ϋ)(H:Hp):Prop where
 frames:A.frames=Z outer
 mod:Mod K mg base
 bs:∀b o,base.get? b=Z o->s.heap.get? b=Z o/\H b=Y
 bsz:base.objs.size<=s.heap.objs.size
 kl:s.heap.FunFrames base outer
 frf:∀b∈frs outer,H b=Y
 hok:HOk P w H s.heap
 bare:AllBare s.gens
def CE(outer:List Env)(P:Da)(w:Cl)(H:Hp)(s:ϋ)(Q:VK)(u:B)(s':ϋ):Prop:=
 ∃v H',s'.os=s.os/\AllBare s'.gens/\Un (frs outer) [] H H' s.heap s'.heap/\HOk P w H' s'.heap/\RelV v u/\Q v H'
def CR(CX:CXT)(outer:List Env)(P:Da)(w:Cl)(H:Hp)(s:ϋ)(Q:VK)(E:XK)(r:Result)(s':ϋ):Prop:=
 match r with
 |.ok (.ret u)=>CE outer P w H s Q u s'
 |.ok _=>False
 |.error e=>CX outer H s E e s'
structure bj(P:Da)(w:Cl)(K:BT)(mg:Str->Option B)(base:Do)(CX:CXT)(k:Nat)(f:J)(fd:Ch)(ps:List Str)(sp:Sp):Prop where
 len:∀vs H Q E,sp vs H Q E->vs.length=ps.length
 run:∀(A:Db)(outer:List Env)(s:ϋ)(H:Hp)(args:Args)(us:List B)(vs:List V)(Q:VK)(E:XK),cN k A->zx P w K mg base A outer s H->BindsTo s fd args (ps.zip us)->Vals vs us->sp vs H Q E ->
  codeAny (model P w) A (.call (.ref f) args) (CR CX outer P w H s Q E) s
variable{mg:Str->Option B}{base:Do}{CX:CXT}{fd:Ch}{ps:List Str}{sp:Sp}
theorem bj.imp{w:Cl}{K:BT}{k:Nat}{f:J}{g:Sp}(F:bj P w K mg base CX k f fd ps sp)
  (h:∀vs H Q E,g vs H Q E->sp vs H Q E):bj P w K mg base CX k f fd ps g:=
 (λvs H Q E q=>F.len vs H Q E (h _ _ _ _ q),λA outer s H args us vs Q E hr he z hv hs=>F.run A outer s H args us vs Q E hr he z hv (h _ _ _ _ hs))
theorem zx.make{P:Da}{w:Cl}{K:BT}{mg:Str->Option B}{base:Do}{A:Db}{outer:List Env}{s:ϋ}{H:Hp}(e:zx P w K mg base A outer s H)(C:J)(us:List B)(kw:List (Str×B)):
  zx P w K mg base (A.under (.builtin "type.__call__" (.ref C::us,kw))) outer s H:=(by exact e.frames,e.mod,e.bs,e.bsz,e.kl,e.frf,e.hok,e.bare)
section
variable{σ:St}{s:ϋ}
def Inv.NO(I:Inv X gd σ H s):zx X.prog X.w X.K X.mg X.base X.A X.stack s H:=
 (I.ok.frames,I.ok.mod,I.bs,ui I.ok.bsz I.sz,I.stack,I.jV,I.hok,I.bare)
def Inv.after{Q:VK}(I:Inv X gd σ H s)(h:CE X.stack X.prog X.w H s Q u s'):EP X gd σ Q u s':=by
 let(v,H',os,bare,un,hok,r,q):=h;let(P,g,d,t,K):=s';obtain rfl:=os;exact(v,H',I.call un hok bare (λb z=>absurd z ad),r,q)
end
def B4(sp:Sp)(dvs:List V)(E:XK)(t:TA):TE:=λσ H Q=>t σ H λvs H1=>sp (vs++dvs) H1 Q E
def Binds(K:BT)(fd:Ch)(ps:List Str)(ds:List B):Prop:=
 ∀(s:ϋ)(us:List B),K.In s.heap->(us++ds).length=ps.length->BindsTo s fd (us,[]) (ps.zip (us++ds))
theorem Binds.all{K:BT}(h:∀us:List B,us.length=ps.length->bindArgs fd (us,[])=pure (ps.zip us)):Binds K fd ps []:=λs us _ hl=>by
 rw[rD]at hl ⊢;exact .of_eq (h us hl)
def Passes(CX:CXT)(X:Cx)(E:XK):Prop:=∀(gd:List (J×Obj))(σ:St)(H:Hp)(s:ϋ)(e:B)(s':ϋ),Inv X gd σ H s->CX X.stack H s E e s'->X.xe e s'
section
variable{k:Nat}{f:J}{dvs:List V}{ds:List B}{E:XK}{p pos:Pos}{t:TA}
theorem P4{σ:St}{s:ϋ}{Q:VK}{vs:List V}(F:bj X.prog X.w X.K X.mg X.base CX k f fd ps sp)(hr:cN k X.A)(q:Binds X.K fd ps ds)(hd:Vals dvs ds)(hx:Passes CX X E)
  (I:Inv X gd σ H s) (r:Vals vs us) (h:sp (vs++dvs) H Q E):Zk X (call (.ref f) us) (EP X gd σ Q) X.xe s:=by
 have g:=r.append hd;have hl:(us++ds).length=ps.length:=by rw[<- g.length];exact F.len _ _ _ _ h
 refine wpAny_call (codeAny_mono (F.run X.A X.stack s H (us,[]) (us++ds) (vs++dvs) Q E hr I.NO (q s us I.kIn hl) g h) λr s' hq=>?_)
 cases r with
 |error e=>exact hx gd σ H s e s' I hq
 |ok fl =>
  cases fl with
  |ret u=>exact I.after hq
  |next=>exact False.elim hq
  |brk=>exact False.elim hq
  |cont=>exact False.elim hq
abbrev AM(X:Cx)(p:Pos)(e:List Ev):Prop:=(backTo p (pq e X.env)).any (·.1)=false
theorem Cy(F:bj X.prog X.w X.K X.mg X.base CX k f fd ps sp)(hr:cN k X.A)(hg:Gl X x)(hm:X.mg x=Z (.ref f))(hk:W.keepIn X.K (.ref f)=O)(V:Binds X.K fd ps ds)(hd:Vals dvs ds)(hx:Passes CX X E)
  (ha:PA X (e::es) t) (z:autoParam (AS x) zdc._auto_1) (he:‹AC X e es›) (g:‹AM X pos es›):
  PE X (.Call (.Name x p) (e::es) [] pos) (B4 sp dvs E t):=by
 left;exact WK (j7 I hg hm (W.callWith_K (h₀:=X.base) I.ok.mod.kin hk (thn (ha pos gd s σ H _ I h) λus s1 (vs,H1,P,r,q)=>(P.kIn,(P4 F hr V hd hx P r q))) he g) z)
structure Mk(K:BT)(C f:J):Prop where
 makes:W.makesIn K C=O
 init:W.findIn K (.ref C) "__init__"=Z (Z (.ref f))
 fn:W.isFn K (.ref f)=O
 kp:W.keepIn K (.ref C)=O
theorem GZ{σ:St}{s:ϋ}{Q:VK}{vs:List V}(M:Mk X.K C f)(F:bj X.prog X.w X.K X.mg X.base CX k f fd ps sp)(hr:cN (k+1) X.A)(hb:Binds X.K fd ps ds)(hd:Vals dvs ds)
  (hx:Passes CX X E) (I:Inv X gd σ H s) (r:Vals vs us)
  (h:∀x dx,H x=Y->H dx=Y->dx≠x->sp (.ref x ::(vs++dvs)) (upd (upd H dx (.own x)) x (.ins C dx [])) (λv H2=>v=.non/\Q (.ref x) H2) E):
  Zk X (call (.ref C) us) (EP X gd σ Q) X.xe s:=by
 have hq:=h (s.heap.objs.size+1) s.heap.objs.size (I.hok.fresh (Y9 _)) (I.hok.fresh (ot _)) (sT (W7 _));have q:=Inv.made (C:=C) I;have z:Vals (V.ref (s.heap.objs.size+1) ::(vs++dvs)) (B.ref (s.heap.objs.size+1) ::(us++ds)):=.cons U (r.append hd);have hl:=by
  have e:=z.length;rw[F.len _ _ _ _ hq]at e;exact e.symm
 refine wpAny_call (Jb I.kIn M.makes M.init (beq_iff_eq.mp M.fn) (codeAny_mono (F.run _ X.stack _ _ (B.ref (s.heap.objs.size+1)::us,[]) (B.ref (s.heap.objs.size+1) ::(us++ds)) _ _ E (hr.make C us [])
  (q.NO.make C us []) (hb _ (B.ref (s.heap.objs.size+1)::us) q.kIn hl) z hq) λr s' g=>?_))
 cases r with
 |error e=>exact hx gd σ _ _ e s' q g
 |ok fl =>
  cases fl with
  |ret u =>
   let(v,H',I3,P,ev,q3):=q.after g;subst ev;exact(P,(V.ref (s.heap.objs.size+1),H',I3,U,q3))
  |next=>exact False.elim g
  |brk=>exact False.elim g
  |cont=>exact False.elim g
end
def PK(X:Cx)(kws:List Keyword)(t:TA):Prop:=
 ∀(pos:Pos)(gd:List (J×Obj))(s:ϋ)(σ:St)(H:Hp)(Q:List V->Hp->Prop),Inv X gd σ H s->t σ H Q->Zk X (evalAll ((backToKw pos (keywordEach kws X.env)).map (·.2))) (AP X gd σ Q) X.xe s
section
variable{pos Jl:Pos}{kws:List Keyword}{t:TA}{nm:Option Str}
def QY:PK X [] fg:=λ_ _ _ _ H Q I h=>wpAny_evalAll_nil ([],H,I,.nil,h)
def MB(ha:PE X e te)(hr:PK X kws t):PK X ((nm,e,Jl)::kws) (bM te t):=by
 intro pos gd s σ H Q I h;show wpAny _ _ (evalAll ((do let v <- eval e X.env;standAt pos;pure v) ::(backToKw pos (keywordEach kws X.env)).map (·.2))) _ _ s
 exact wpAny_evalAll_cons (fu (thn (ha gd s σ H _ I h) λu s1 (x,H1,V,q,K)=>fu (wpAny_standAt (mX (thn (hr pos gd s1 σ H1 _ V K) λus s2 (xs,H2,P,g,z)=>(x::xs,H2,P,.cons q g,z))))))
end
structure aG(N P:List Str)(sc:Scope):Prop where
 kind:sc.kind=.function
 co:sc.isCoroutine=ϊ
 gen:sc.isGenerator=ϊ
 nd:N.Nodup
 pre:N.take P.length=P
 par:∀x∈P,sc.names.lookup x=Z .local\/sc.names.lookup x=Z .cell
 Rj:∀y∈sc.names,y.2 ≠ .free
theorem vk{kindOf:Str->Option NameKind}{x:Str}:∀{binds:List (Str×B)}{m:Str->Option B},(∀v,(x,v) ∉ binds)->bindL kindOf binds m x=m x
 |[],_,_=>rfl
 | (n,v)::r,m,h=>by
  unfold bindL;rw[vk λw hw=>h w (jQ _ hw)]
  split
  ·have:x≠n:=by rintro rfl;exact h v lj
   simp[this]
  ·rfl
theorem vn{kindOf:Str->Option NameKind}{x:Str}:∀{binds:List (Str×B)}{m:Str->Option B},(∀v,(x,v) ∉ binds)->bindC kindOf binds m x=m x
 |[],_,_=>rfl
 | (n,v)::r,m,h=>by
  unfold bindC;rw[vn λw hw=>h w (jQ _ hw)]
  split
  ·rfl
  ·have:x≠n:=by rintro rfl;exact h v lj
   simp[this]
theorem vm{kindOf:Str->Option NameKind}{x:Str}{v:B}:∀{P:List Str}{vs:List B}{i:Nat}{m:Str->Option B},P.Nodup->P[i]?=Z x->vs[i]?=Z v->kindOf x=Z .local ->
  bindL kindOf (P.zip vs) m x=Z v
 |[],_,_,_,_,h,_,_=>by simp at h
 |_::_,[],_,_,_,_,h,_=>by simp at h
 |p::P,w::vs,0,m,nd,h1,h2,hk=>by
  simp at h1 h2;subst h1;subst h2;show bindL kindOf ((p,w)::P.zip vs) m p=_;unfold bindL;rw[vk λv hv=>(v3.mp nd).1 (Xt hv).1,if_pos hk]
  simp
 |p::P,w::vs,i+1,m,nd,h1,h2,hk=>by
  unfold bindL;exact vm (v3.mp nd).2 (h1:) (h2:) hk
theorem vo{kindOf:Str->Option NameKind}{x:Str}{v:B}:∀{P:List Str}{vs:List B}{i:Nat}{m:Str->Option B},P.Nodup->P[i]?=Z x->vs[i]?=Z v->kindOf x≠Z .local ->
  bindC kindOf (P.zip vs) m x=Z v
 |[],_,_,_,_,h,_,_=>by simp at h
 |_::_,[],_,_,_,_,h,_=>by simp at h
 |p::P,w::vs,0,m,nd,h1,h2,hk=>by
  simp at h1 h2;subst h1;subst h2;show bindC kindOf ((p,w)::P.zip vs) m p=_;unfold bindC;rw[vn λv hv=>(v3.mp nd).1 (Xt hv).1,if_neg hk]
  simp
 |p::P,w::vs,i+1,m,nd,h1,h2,hk=>by
  unfold bindC;exact vo (v3.mp nd).2 (h1:) (h2:) hk
def start(N:List Str)(vs:List V):St:=vs.map Z++uA (N.length-vs.length) Y
def nT(CX:CXT)(P:Da)(w:Cl)(K:BT)(mg:Str->Option B)(base:Do)(N:List Str)(qual:Str)(scope:Scope)(f:J)(cd:B)(A:Db)(outer:List Env)(s:ϋ)(H:Hp)(E:XK):Cx where
 prog:=P
 w:=w
 K:=K
 mg:=mg
 base:=base
 A:=A.deeper (envOfC qual scope s.heap.objs.size f cd)
 N:=N
 s₀:=s
 bd:=H
 env:=envOfC qual scope s.heap.objs.size f cd
 outer:=outer
 stack:=envOfC qual scope s.heap.objs.size f cd::outer
 ex:=[]
 calm:=O
 fn:=λ_=>O
 pn:=[]
 xe:=λe s'=>wpAny (model P w) (A.deeper (envOfC qual scope s.heap.objs.size f cd)) (leaving (envOfC qual scope s.heap.objs.size f cd) e) (λ_ g=>CX outer H s E e g) (λq g=>CX outer H s E q g) s'
variable{sc:Scope}
theorem zh(h:sc.names.lookup x=Z .cell):∃c,(cellsFrom n sc.names []).lookup x=Z c:=by
 have q:=W.cellsFrom_some sc.names n [] (.inl h);exact Yn.mp q
variable{qual:Str}{scope:Scope}{cd:B}{outer:List Env}
theorem EW{w:Cl}{K:BT}{f:J}{s s1:ϋ}{E:XK}{vs:List V}
  (S:aG N ps scope) (hd:A.handled=Y) (g:zx P w K mg base A outer s H) (hl:vs.length=ps.length) (r:Vals vs us)
  (x:InCallC s s.heap.objs.size (bindL (envOfC qual scope s.heap.objs.size f cd).kindOf (ps.zip us) λ_=>Y) (cellsFrom (s.heap.objs.size+1) scope.names []) (bindC (envOfC qual scope s.heap.objs.size f cd).kindOf (ps.zip us) λ_=>Y) s1):
  Inv (nT CX P w K mg base N qual scope f cd A outer s H E) [] (start N vs) H s1:=by
 have ar:ps.length<=N.length:=by have:=congrArg N9 S.pre;rw[sR]at this;lia
 let(h1,tk,U,hk):=x.done;have Q:∀b,b ∉ (nT CX P w K mg base N qual scope f cd A outer s H E).ex:=λb z=>absurd (show b∈([])from z) ad
 refine((g.mod,S.kind,U,U,ot _,λy z c h1 h2=>?_,λy hy=>?_,λy c _ h=>?_,λ_=>hd,Around.frames_deeper g.frames,.inr (U,U),λb z=>absurd z (Q b),g.bs,g.bsz,λb _ _=>Q b,λb z=>absurd z (Q b),g.kl,g.frf),
  rfl,g.bare,Un.kept hk,(_,x.toInCall.ns,λi y v h1 h2 h3=>?_),λy c h=>(_,x.cell y c h),g.hok.fresh (ot _),λy c h=>?_,λp hp=>absurd (show p∈([])from hp) ad,g.hok.kept hk,?_)
 ·exact name_of_addr x.apart (PySem.mem_of_lookup h1) (PySem.mem_of_lookup h2)
 ·obtain hy|hy:=hy
  ·exact zh hy
  ·exact absurd U (S.Rj _ (PySem.mem_of_lookup hy))
 ·exact vr (x.above y c (PySem.mem_of_lookup h))
 ·have hi:i<vs.length:=by
   unfold start at h2;by_cases hi:i<vs.length
   ·exact hi
   ·rw[M1 (hi:)]at h2
    rw[Yr]at h2
    split at h2 <;> cases h2
  have ha:vs[i]?=Z v:=by
   unfold start at h2;rw[Dr (hi:),gV]at h2
   cases e:vs[i]? with
   |none=>rw[e]at h2;cases h2
   |some a=>rw[e]at h2;cases h2;rfl
  let(u,hu,rv):=r.get ha;have hp:ps[i]?=Z y:=by
   rw[<- S.pre,Yo (by lia)];exact h1
  have ak:ps.Nodup:=by rw[<- S.pre];exact S.nd.sublist (W9 _ _)
  refine(u,rv,?_);obtain k|k:=S.par y (mu hp)
  ·exact .inl (k,vm ak hp hu k)
  ·let(c,e):=zh k;refine .inr (.inl k,c,e,?_);have q:=x.cell y c e;rw[vo ak hp hu (by show scope.names.lookup y≠_;rw[k];decide)]at q
   exact q
 ·exact g.hok.fresh (vr (x.above y c (PySem.mem_of_lookup h)))
 ·unfold start;show _=N.length;rw[jR,dN,X3]
  lia
variable{name:Str}{pm:B}{ct:B}{oc:B}{an:Option J}{od:Option J}
theorem O2{w:Cl}{K:BT}{k:Nat}{f:J}{params:Arguments}{dV kV doc cdv:B}
  {osl:Array (Option B)} {N ps:List Str} {sp:Sp} (lk:K.lookup f=Z (oc,od,.func (W.fnOf name qual params body scope dV kV doc pm an cdv ct),osl)) (ak:W.codeIn K cdv qual=O) (S:aG N ps scope)
  (len:∀vs H Q E,sp vs H Q E->vs.length=ps.length)
  (jK:∀(A:Db)(outer:List Env)(s:ϋ)(H:Hp)(vs:List V)(Q:VK)(E:XK),cN k (A.deeper (envOfC qual scope s.heap.objs.size f cdv))->sp vs H Q E ->
   ∃t,PSs (nT CX P w K mg base N qual scope f cdv A outer s H E) body t/\t {nx:=λ_ H'=>Q .non H',rt:=Q} (start N vs) H):
  bj P w K mg base CX (k+1) f (W.fnOf name qual params body scope dV kV doc pm an cdv ct) ps sp:=by
 refine(len,λA outer s H args us vs Q E hr e0 hb r z=>?_)
 have hl:=len _ _ _ _ z;have KX:=e0.mod.kin.keeps λb o e=>(e0.bs b o e).1
 have lim:=e0.mod.nolimit.keeps λb o e=>(e0.bs b o e).1
 have hV:∀y∈ps.zip us,scope.names.lookup y.1=Z .local\/(scope.names.lookup y.1=Z .cell/\((cellsFrom (s.heap.objs.size+1) scope.names []).lookup y.1).isSome=O):=λ(n,v) hy=>by
  obtain q|q:=S.par n (Xt hy).1
  ·exact .inl q
  ·exact .inr (q,W.cellsFrom_some _ _ _ (.inl q))
 refine codeAny_call_function hr.depth (KX _ _ lk) U S.co S.gen U (W.codeRec_of KX ak) (hb _ _ _ _ (wpAny_newFunctionEnv_cells S.kind hV λenv he s1 x=>?_))
 subst he;refine(lim.keeps x.toInCall.keep,codeAny_func ?_);let(t,ht,hq):=jK A outer s H vs Q E (hr.deeper _) z;have I:Inv (nT CX P w K mg base N qual scope f cdv A outer s H E) [] (start N vs) H s1:=EW S hr.hd e0 hl r x;refine SH (ht [] s1 (start N vs) H _ I hq) (λfl s' hs=>?_) λe s' hs=>hs
 have fin:∀{g:St}{H':Hp}{v:V}{u:B},Inv (nT CX P w K mg base N qual scope f cdv A outer s H E) [] g H' s'->RelV v u->Q v H'->CE outer P w H s Q u s':=
  λ{g H' v u} Zh rv q=>(v,H',Zh.os,Zh.bare,Zh.base,Zh.hok,rv,q)
 cases fl with
 |ret u =>
  let(v,g,H',Zh,rv,q):=hs;exact fin Zh rv q
 |next =>
  let(g,H',Zh,q):=hs;exact fin (v:=V.non) Zh U q
 |brk =>
  let(_,_,_,q):=hs;exact False.elim q
 |cont =>
  let(_,_,_,q):=hs;exact False.elim q
section
variable{p pos:Pos}{t:TA}{id T:String}{r:List V->Hp->VK->Prop}
def tCB(r:List V->Hp->VK->Prop)(t:TA):TE:=λσ H Q=>t σ H λvs H1=>r vs H1 Q
def gW(P:b8 X (.builtin id) r)(hg:Gl X x)(hm:X.mg x=Y)(hv:bootBuiltins x=Z (.builtin id))(ha:PA X (e::es) t)(hn:autoParam (x ≠ "__name__") zdc._auto_1)(q:autoParam (AS x) zdc._auto_1)
  (he:‹AC X e es›) (g:‹AM X pos es›):PE X (.Call (.Name x p) (e::es) [] pos) (tCB r t):=by
 left;exact WK (gK I hg hm hv (PyProof.Rows.callWith_builtin1 (thn (ha pos gd s σ H _ I h) λus s1 (vs,H1,V,z,K)=>P gd s1 σ H1 vs us Q V z K) he g) hn q)
def uR(P:b8 X (.type T) r)(hg:Gl X x)(hm:X.mg x=Y)(hv:bootBuiltins x=Z (.type T))(ha:PA X (e::es) t)(hn:autoParam (x ≠ "__name__") zdc._auto_1)(q:autoParam (AS x) zdc._auto_1)
  (he:‹AC X e es›) (g:‹AM X pos es›):PE X (.Call (.Name x p) (e::es) [] pos) (tCB r t):=by
 left;exact WK (gK I hg hm hv (PyProof.Rows.callWith_type1 (thn (ha pos gd s σ H _ I h) λus s1 (vs,H1,V,z,K)=>P gd s1 σ H1 vs us Q V z K) he g) hn q)
end
end L2
namespace HT
open PySem PyProof.Rows
section
variable{prog:Da}{w:Cl}{A:Db}{E:B->ϋ->Prop}{s:ϋ}
def NU{t b:J}{vs ws:List B}{Q:B->ϋ->Prop}(ht:IsTup s.heap t vs.toArray)(hb:IsTup s.heap b ws.toArray)(hv:vs ≠ [])
  (h1:ws=[]->Q (.ref t) s) (h2:ws ≠ []->Q (.ref s.heap.objs.size) {s with heap:=s.heap.push {cls:=.type "tuple",data:=.seq (vs++ws).toArray}})
  (hsz:vs.length+ws.length<=pY):wpAny (model prog w) A (binaryOp .Add (.ref t) (.ref b)) Q E s:=by
 let((cls,dd,data,sl),ho,V,n,hd):=id ht;let((Wr,K,data2,q),g,z,P,hd2):=id hb;simp only at V hd z hd2;subst V hd z hd2;have e:vs.toArray++ws.toArray=(vs++ws).toArray:=by simp
 by_cases hw:ws=[]
 ·exact concat_meets (_,ho,U) (_,g,U) noFill_tuple_add seq_tuple_add PySem.F.slot_tuple_add PySem.F.entry_tuple_add (PySem.F.args_tuple_add_2 _ _)
   (tuple_addW1 t b vs.toArray ws.toArray n P dd K sl q (hv:) (by simp[hw])) (ho,g,h1 hw)
 ·refine concat_meets (_,ho,U) (_,g,U) noFill_tuple_add seq_tuple_add PySem.F.slot_tuple_add PySem.F.entry_tuple_add (PySem.F.args_tuple_add_2 _ _)
   (tuple_addW2 t b vs.toArray ws.toArray n P dd K sl q (hv:) (hw:) (by exact hsz)) (ho,g,?_)
  rw[e];exact h2 hw
def sIx(n d:Nat):Option Int->Nat
 |none=>d
 |some v=>if v<0 then(v+(n:Int)).toNat else min v.toNat n
def xY(n d:Nat):sIx n d Y=d:=rfl
def Cd(n d k:Nat):sIx n d (Z (k:Int))=min k n:=by
 show(if(k)<0 then((k)+(n:Int)).toNat else min (k:Int).toNat n)=min k n
 rw[if_neg (by lia),W2]
def Vf(a:Int)(n:Nat)(h0:0<=a):min a (n:Int)=((min a.toNat n:Nat):Int):=by
 by_cases h:a<=n
 ·rw[Int.min_eq_left h,SM (YZ.mpr h),W3 h0]
 ·have h':=Int.le_of_lt (Int.not_le.mp h);rw[Int.min_eq_right h',Nat.min_eq_right ((Int.le_toNat h0).mpr h')]
def Gx(n:Nat)(i:Int)(h:i<0):max 0 (min (i+(n:Int)) n)=((i+n).toNat:Int):=by
 rw[Int.min_eq_left (Int.add_le_of_le_sub_right (by rw[Int.sub_self];exact Int.le_of_lt h)),Int.max_comm,Int.ofNat_toNat]
def Gw(n:Nat)(i:Int)(h:¬ i<0):max 0 (min i (n:Int))=((min i.toNat n:Nat):Int):=by
 rw[Vf i n (Int.not_lt.mp h),Int.max_eq_right (XT _)]
def Dg(v:Int)(n d:Nat):(if v<0 then max (v+(n:Int)) 0 else min v (n:Int))=((sIx n d (Z v):Nat):Int):=by
 show(if v<0 then max (v+(n)) 0 else min v (n))=(((if v<0 then(v+(n)).toNat else min v.toNat n)))
 by_cases hv:v<0
 ·rw[if_pos hv,if_pos hv];exact(Int.ofNat_toNat _).symm
 ·rw[if_neg hv,if_neg hv];exact Vf v n (Int.not_lt.mp hv)
def BM(lo hi:Option Int)(n:Nat):Builtin.Slice.sliceAdjust lo hi 1 (n:Int)=(((sIx n 0 lo:Nat):Int),((sIx n n hi:Nat):Int)):=by
 have h1:=by omega
 unfold Builtin.Slice.sliceAdjust;refine Prod.ext ?_ ?_
 ·cases lo with
  |none=>rfl
  |some v=>exact Dg v n 0
 ·cases hi with
  |none=>rfl
  |some v=>exact Dg v n n
def AJ(i j:Nat):Builtin.Slice.slicePlaces (i:Int) (j:Int) 1=j-i:=by
 unfold Builtin.Slice.slicePlaces;have h1:(1:Int) > 0:=by lia
 simp only[h1,if_true,Int.ediv_one]
 split <;> lia
def qD{v:B}{o:Option Int}{Q:Option Int->ϋ->Prop}(p:IsPart v o)(h:Q o s):wpAny (model prog w) A (Builtin.Slice.slicePartIndex v) Q E s:=by
 cases p with
 |none=>exact slicePart_none h
 |int i t=>exact slicePart_int h
def gP{sl:J}{K z:B}{lo hi:Option Int}{n:Nat}{Q:Int×Int×Nat->ϋ->Prop}(hs:s.heap.IsSliceOf sl K z .none)(P:IsPart K lo)(pu:IsPart z hi)
  (h:Q (((sIx n 0 lo:Nat):Int),1,sIx n n hi-sIx n 0 lo) s):wpAny (model prog w) A (Builtin.Slice.sliceApplied (.ref sl) (pure (n:Int))) Q E s:=by
 let(os,g,V,q):=id hs;refine fu (fu (wpAny_field g q (x:=K) U (fu (wpAny_field g q (x:=z) U (fu (wpAny_field g q U (mX ?_)))))));refine fu (slicePart_none ?_);refine fu (qD P (fu (qD pu (fu (mX ?_)))));show wpAny _ _ (match Builtin.Slice.sliceAdjust lo hi 1 (n)with|(lo,hi)=>pure (Prod.mk lo (Prod.mk (1:Int) (Builtin.Slice.slicePlaces lo hi 1)))) _ _ s
 rw[BM lo hi n];show wpAny _ _ (pure (Prod.mk ((sIx n 0 lo):Int) (Prod.mk (1) (Builtin.Slice.slicePlaces ((sIx n 0 lo)) ((sIx n n hi)) 1)))) _ _ s;rw[AJ];exact mX h
def Ik(xs:Array B)(i k:Nat):((N6 k).filterMap λ(m:Nat)=>xs[((i:Int)+(m:Int)*1).toNat]?).toArray=((xs.toList.drop i).take k).toArray:=by
 have e:(λ(m:Nat)=>xs[((i)+(m:Int)*1).toNat]?)=λm=>xs[i+m]?:=by
  funext m
  have:((i)+(m:Int)*1).toNat=i+m:=by lia
  rw[this]
 rw[e]
 have:=pick_run xs i k
 rw[List.filterMap_map]at this;have g:((λx=>xs[x]?) ∘ λx=>i+x)=λm=>xs[i+m]?:=rfl
 rw[g]at this;rw[this]
def mv{t sl:J}{items:Array B}{vl vu:B}{lo hi:Option Int}{Q:B->ϋ->Prop}(g:IsTup s.heap t items)(hs:s.heap.IsSliceOf sl vl vu .none)(pl:IsPart vl lo)(pu:IsPart vu hi)
  (hw:¬(sIx items.size 0 lo=0/\sIx items.size items.size hi=items.size))
  (h:Q (.ref s.heap.objs.size) {s with heap:=s.heap.push {cls:=.type "tuple",data:=.seq ((items.toList.drop (sIx items.size 0 lo)).take (sIx items.size items.size hi-sIx items.size 0 lo)).toArray}})
  (hsz:items.size<=pY):wpAny (model prog w) A (getItem (.ref t) (.ref sl)) Q E s:=by
 have UM:sizeOk (.seq ((items.toList.drop (sIx items.size 0 lo)).take (sIx items.size items.size hi-sIx items.size 0 lo)).toArray):=by
  show((items.toList.drop (sIx items.size 0 lo)).take (sIx items.size items.size hi-sIx items.size 0 lo)).toArray.size<=pY;rw[sQ,sR,WT,Xd];exact ui (ui (Ys _ _) (Zb _ _)) hsz
 let(os,z,P,ak):=id hs;have V:s.TypeIs (.ref sl) "slice":=(os,z,P);unfold getItem
 try with_reducible refine FH ?_
 refine fu (wpAny_sequenceKey g.typeIs ac ?_)
 refine fu (wpAny_callSpecial?_slot g.typeIs PyProof.Rows.slot_tuple_getitem
  (S9 PyProof.Rows.slot_tuple_getitem g.typeIs entry_tuple_getitem ?_ (args_tuple_getitem _ _)))
 show wpAny _ _ (Builtin.Tuple.tupleItemsOf (.ref t) >>= _) _ _ s;refine fu (tupleItemsOf_ g (fu (WV V ?_)));refine fu (gP hs pl pu ?_);have K:¬((((sIx items.size 0 lo):Int)==0&&(1:Int)==1&&(sIx items.size items.size hi-sIx items.size 0 lo)==items.size)=O):=by
  intro q;rw[u6,u6]at q;have q1:=eq_of_beq q.1.1;have q2:=eq_of_beq q.2;exact hw (by lia,by lia)
 show wpAny _ _ (if(((sIx items.size 0 lo):Int)==0&&(1)==1&&(sIx items.size items.size hi-sIx items.size 0 lo)==items.size)=O then _ else _) _ _ s
 rw[if_neg K,Ik];exact fu (m:=Builtin.Tuple.tupleExact _) (Xa (mX (_,U,mX h)) UM)
end
end HT
namespace L2
open PySem PySem.Spec PyProof.Rows
abbrev TO:=St->Hp->(Option Int->Hp->Prop)->Prop
def PO(X:Cx)(e:Option Ev)(t:TO):Prop:=
 ∀(gd:List (J×Obj))(s:ϋ)(σ:St)(H:Hp)(Q:Option Int->Hp->Prop),Inv X gd σ H s->t σ H Q ->
  Zk X (evalPart e X.env) (λu s'=>∃o H',Inv X gd σ H' s'/\IsPart u o/\Q o H') X.xe s
def B3:TO:=λ_ H Q=>Q Y H
def Oc(t:TE):TO:=λσ H Q=>t σ H λx H1=>∃i,x=.int i/\Q (Z i) H1
variable{us:List B}
section
variable{X:Cx}{e:Ev}{te:TE}{lo hi:Option Ev}{tl th:TO}{pos p2:Pos}
def MA:PO X Y B3:=by
 left;exact mX (Y,H,I,.none,h)
def wq(h:PE X e te):PO X (Z e) (Oc te):=by
 intro gd s σ H Q I hw;refine thn (h gd s σ H _ I hw) λu s1 g=>?_
 let(x,H1,P,z,K):=g;let(i,U,q):=K;let(t,U):=z;exact(Z i,H1,P,.int i t,q)
def SlR(X:Cx)(r:V->Option Int->Option Int->Hp->VK->Prop):Prop:=
 ∀(gd:List (J×Obj))(s:ϋ)(σ:St)(H:Hp)(x:V)(v q g:B)(lo hi:Option Int)(sl:J)(Q:VK),Inv X gd σ H s->RelV x v->s.heap.IsSliceOf sl q g .none->IsPart q lo->IsPart g hi->r x lo hi H Q ->
  ∃T id,typeLookup (.type T) "__getitem__"=pure (Z (.builtin id))/\s.TypeIs v T/\Zk X (getItem v (.ref sl)) (EP X gd σ Q) X.xe s
def SlR.or{r P:V->Option Int->Option Int->Hp->VK->Prop}(h:SlR X r)(h':SlR X P):SlR X (λx lo hi H Q=>r x lo hi H Q\/P x lo hi H Q):=by
 intro gd s σ H x v z g lo hi sl Q I K hs pl pu q;obtain q|q:=q
 ·exact h gd s σ H x v z g lo hi sl Q I K hs pl pu q
 ·exact h' gd s σ H x v z g lo hi sl Q I K hs pl pu q
def tSl(r:V->Option Int->Option Int->Hp->VK->Prop)(te:TE)(tl th:TO):TE:=λσ H Q=>te σ H λx H1=>tl σ H1 λl H2=>th σ H2 λu g=>r x l u g Q
def yj{r:V->Option Int->Option Int->Hp->VK->Prop}(hr:SlR X r)(he:PE X e te)(hl:PO X lo tl)(hu:PO X hi th):PE X (.Subscript e (.Slice lo hi Y p2) pos) (tSl r te tl th):=by
 left;refine Subscript_ (thn (he gd s σ H _ I h) λv s1 (x,H1,I1,r1,q1)=>(wpAny_Slice (thn (hl gd s1 σ H1 _ I1 q1) λz s2 (l,H2,I2,pl,q2)=>thn (hu gd s2 σ H2 _ I2 q2) λg s3 K=>?_)))
 let(u,P,I3,pu,q3):=K;refine mX ?_;have I4:Inv X gd σ P {s3 with heap:=s3.heap.push {cls:=.type "slice",data:=.fields #[z,g,.none]}}:=I3.kept λb ob q=>f9 _ q
 let(T,id,hT,ht,hg):=hr gd {s3 with heap:=s3.heap.push {cls:=.type "slice",data:=.fields #[z,g,.none]}} σ P x v z g l u s3.heap.objs.size Q I4 r1 (Heap.IsSliceOf.new ..) pl pu q3
 exact tail_any ht hT hg (by with_unfolding_all rfl)
def mM(xs:List V)(lo hi:Option Int):List V:=(xs.drop (HT.sIx xs.length 0 lo)).take (HT.sIx xs.length xs.length hi-HT.sIx xs.length 0 lo)
def oE(xs:List V)(lo hi:Option Int):(mM xs lo hi).length<=xs.length:=by
 unfold mM;rw[sR,WT];exact ui (Ys _ _) (Zb _ _)
inductive VG(K:BT)(x:V)(lo:Option Int)(hi:Option Int)(H:Hp)(Q:VK):Prop
 |mk(a xs:_)(h1:x=.ref a)(h2:SqT K H a xs)(h3:¬(HT.sIx xs.length 0 lo=0/\HT.sIx xs.length xs.length hi=xs.length))(h4:∀p,H p=Y->Q (.ref p) (upd H p (.tup (mM xs lo hi))))
def PX:SlR X (VG X.K):=by
 intro gd s σ H x v vl vu lo hi sl Q I P hs V pu h;let(a,xs,U,hx,hw,q):=h;cases P;let(its,r,z,g):=I.tuple hx;have hlen:its.toArray.size=xs.length:=by exact r.length.symm
 refine("tuple",_,PyProof.Rows.slot_tuple_getitem.lookup,z.typeIs,(HT.mv z hs V pu (by rw[hlen];exact hw) ?_ (by rw[hlen];exact g)))
 rw[hlen];refine(.ref s.heap.objs.size,_,I.laid (λb ob q=>f9 _ q) (ot _) ?_,U,q _ (I.hok.fresh (ot _)))
 exact(ui (oE xs lo hi) g,_,(r.drop (HT.sIx xs.length 0 lo)).take (HT.sIx xs.length xs.length hi-HT.sIx xs.length 0 lo),lg.new _ _)
inductive TC(K:BT)(x:V)(y:V)(H:Hp)(Q:VK):Prop
 |mk(a b xs ys:_)(h1:x=.ref a)(h2:y=.ref b)(h3:SqT K H a xs)(h4:SqT K H b ys)(h5:xs ≠ [])(h6:xs.length+ys.length<=pY)(h7:(ys=[]->Q (.ref a) H))(h8:(ys ≠ []->∀p,H p=Y->Q (.ref p) (upd H p (.tup (xs++ys)))))
def Vals.iJ{xs:List V}(r:Vals xs us):us=[] ↔ xs=[]:=by
 cases r with
 |nil=>simp
 |cons _ _=>simp
def MY:OpR X (binaryOp .Add) (TC X.K):=by
 intro gd s σ H x y v u Q I rx ry h;let(a,b,xs,ys,U,U,ha,hb,hx,V,q1,q2):=h;cases rx;cases ry;let(its,P,p1,_):=I.tuple ha;let(iL,g,p2,_):=I.tuple hb;exact HT.NU p1 p2 (λz=>hx (P.iJ.mp z)) (λz=>(.ref a,H,I,U,q1 (g.iJ.mp z))) (λz=>(.ref s.heap.objs.size,_,I.laid (t':=s.toks) (o:=.tup (xs++ys)) (λb ob q=>f9 _ q) (ot _) (by rw[jR];exact V,_,P.append g,lg.new _ _),U,q2 (λw=>z (g.iJ.mpr w)) _ (I.hok.fresh (ot _)))) (by rw[<- P.length,<- g.length];exact V)
end
def ixN(n:Nat)(i:Int):Option Nat:=if 0<=i then(if i<n then Z i.toNat else Y)else if -(n:Int)<=i then Z (i+n).toNat else Y
def atI{α:Type}(xs:List α)(i:Int):Option α:=(ixN xs.length i).bind λj=>xs[j]?
variable{n:Nat}{j:Nat}
def CO{i:Int}(h:ixN n i=Z j):seqIndex? i n=Z j/\j<n /\ -(n:Int)<=i/\i<n:=by
 unfold ixN at h;by_cases h0:0<=i
 ·rw[if_pos h0]at h;by_cases h1:i<n
  ·rw[if_pos h1]at h;have e:=Option.some.inj h;exact(by rw[seqIndex_of h0 h1,e],by lia,by lia,h1)
  ·rw[if_neg h1]at h;cases h
 ·rw[if_neg h0]at h;by_cases h1:-(n)<=i
  ·rw[if_pos h1]at h;have e:=Option.some.inj h;exact(by rw[seqIndex_neg (by lia) h1,e],by lia,h1,by lia)
  ·rw[if_neg h1]at h;cases h
def xq{α:Type}{xs:List α}{i:Int}{v:α}(h:atI xs i=Z v):∃j,seqIndex? i xs.length=Z j/\xs[j]?=Z v/\j<xs.length /\ -(xs.length:Int)<=i/\i<xs.length:=by
 unfold atI at h;cases e:ixN xs.length i with
 |none=>rw[e]at h;cases h
 |some j =>
  rw[e]at h;let(h1,h2,h3,h4):=CO e;exact(j,h1,h,h2,h3,h4)
def bu{α:Type}{xs:List α}{v:α}(h:xs[j]?=Z v):atI xs (j:Int)=Z v:=by
 have g:=(iY.mp h).1;have e:ixN xs.length (j)=Z j:=by
  unfold ixN;rw[if_pos (by lia),if_pos (by lia)];simp
 unfold atI;rw[e];exact h
def ke(b:Ev):Prop:=∀o i,subscripted b ϊ o i=operate [o,i] (getItem o i)
def IxR(X:Cx)(r:R2):Prop:=
 ∀(value slice:Ev)(gd:List (J×Obj))(s:ϋ)(σ:St)(H:Hp)(x y:V)(v u:B)(Q:VK),Inv X gd σ H s->RelV x v->RelV y u->r x y H Q ->
  subscripted slice ϊ v u=operate [v,u] (getItem v u)->Zk X (subscriptTail value slice v u) (EP X gd σ Q) X.xe s
def MtR(X:Cx)(id:String)(r:V->List V->Hp->VK->Prop):Prop:=
 ∀(gd:List (J×Obj))(s:ϋ)(σ:St)(H:Hp)(x:V)(xs:List V)(v:B)(us:List B)(Q:VK),Inv X gd σ H s->RelV x v->Vals xs us->r x xs H Q ->
  Zk X (call (.builtin id) (v::us)) (EP X gd σ Q) X.xe s
variable{gd:List (J×Obj)}{H:Hp}{its:List B}{A:Db}{y:V}{u:B}{r:List V->Hp->VK->Prop}
section
variable{X:Cx}{a b:Ev}{ta tb:TE}{pos:Pos}
def IxR.or{r K:R2}(h:IxR X r)(h':IxR X K):IxR X (λx y H Q=>r x y H Q\/K x y H Q):=by
 intro value slice gd s σ H x y v u Q I z g q hs;obtain q|q:=q
 ·exact h value slice gd s σ H x y v u Q I z g q hs
 ·exact h' value slice gd s σ H x y v u Q I z g q hs
def uQ{r:R2}(hr:IxR X r)(ha:PE X a ta)(K:PE X b tb)(hs:ke b):PE X (.Subscript a b pos) (tOp r ta tb):=by
 left;exact Subscript_ (Sg ha K I h λv u s2 x y H2 P z g q=>hr a b gd s2 σ H2 x y v u Q P z g q (hs _ _))
inductive Tx(K:BT)(x:V)(y:V)(H:Hp)(Q:VK):Prop
 |mk(p xs i v:_)(h1:x=.ref p)(h2:y=.int i)(h3:SqL K H p xs)(h4:atI xs i=Z v)(h5:Q v H)
inductive Tv(K:BT)(x:V)(y:V)(H:Hp)(Q:VK):Prop
 |mk(p xs i v:_)(h1:x=.ref p)(h2:y=.int i)(h3:SqT K H p xs)(h4:atI xs i=Z v)(h5:Q v H)
inductive Tw(x:V)(y:V)(H:Hp)(Q:VK):Prop
 |mk(z i c:_)(h1:x=.str z)(h2:y=.int i)(h3:z.length<=pY)(h4:atI z.cps.toList i=Z c)(h5:Q (.str ⟨#[c]⟩) H)
def Nt:IxR X (Tx X.K):=by
 intro value slice gd s σ H x y v u Q I rx ry h hs;let(p,xs,i,z,U,U,hq,he,q):=h;cases rx;let(t,U):=ry;let(its,r,P,hz):=I.list hq;let(j,h1,h2,h3,h4,h5):=xq he;let(w,ew,g):=r.get h2;have hl:=r.length;have hn:=kR;have fin:EP X gd σ Q w s:=(z,H,I,g,q);by_cases h0:0<=i
 ·have V:=by
   rw[seqIndex_of h0 h5]at h1;exact Option.some.inj h1
  exact item_listR P.isList h0 (by lia) (by rw[V];simpa using ew) fin hs
 ·have V:(i+(its.toArray.size)).toNat=j:=by
   rw[seqIndex_neg ap h4]at h1
   rw[sQ,<- hl];exact Option.some.inj h1
  exact subscriptTail_builtinR P.isList.typeIs slot_list_getitem.lookup
   (wpAny_getItem_list_neg P.isList ap (by rw[sQ] <;> lia) (by lia) (by rw[V];simpa using ew) (U,fin)) hs
def RI:IxR X (Tv X.K):=by
 intro value slice gd s σ H x y v u Q I rx V h hs;let(p,xs,i,z,U,U,hq,he,q):=h;cases rx;let(t,U):=V;let(its,r,P,hz):=I.tuple hq;let(j,h1,h2,h3,h4,h5):=xq he;let(w,ew,g):=r.get h2;have hl:=r.length;have hn:=kR;have fin:EP X gd σ Q w s:=(z,H,I,g,q);exact subscriptTail_builtinR P.typeIs slot_tuple_getitem.lookup
  (getItem_tuple P (by lia) (by lia) (by rw[sQ,<- hl];exact h1) (ew:) (U,fin)) hs
def RJ:IxR X Tw:=by
 intro value slice gd s σ H x y v u Q I K g h hs;let(z,i,c,U,U,hz,he,q):=h;let(t,U):=K;let(t',U):=g;let(j,h1,h2,h3,h4,h5):=xq he;have hl:z.cps.toList.length=z.length:=by simp[Str.length]
 rw[hl]at h1 h4 h5;have hn:=kR;exact tail_any (typeIs_str s z t) slot_str_getitem.lookup (getItem_str (by
  have V:decide (i < -(2 ^ 63))=false:=decide_eq_false (by lia)
  have P:decide (i ≥ 2 ^ 63)=false:=decide_eq_false (by lia)
  rw[V,P,Bool.or_false]) (by rw[h1];simpa using h2) (.str ⟨#[c]⟩,H,I.tok _,(_,U),q)) hs
def rIx(K:BT):R2:=λx y H Q=>Tx K x y H Q\/Tv K x y H Q\/Tw x y H Q
theorem Bh:IxR X (rIx X.K):=Nt.or (RI.or RJ)
def A4(its:List B)(n j:Nat)(u:B):Wb (·.setIfInBounds j u) (its.toArray^^^n)=((its.set j u).toArray^^^n):=by
 simp[Wb]
theorem Inv.lst{gd:List (J×Obj)}{σ:St}{H:Hp}{s:ϋ}{p:J}{xs:List V}(I:Inv X gd σ H s)(h:H p=Z (.lst xs)):
  ∃(its:List B)(n:Nat),Vals xs its/\s.heap.get? p=Z (its.toArray^^^n)/\xs.length<=pY:=by
 let(z,its,n,r,e):=I.hok p _ h;exact(its,n,r,e,z)
def Inv.Rm{σ:St}{s:ϋ}{p:J}{xs ys:List V}{g:List B}{z:Nat}{f:Obj->Obj}(I:Inv X gd σ H s)(h:H p=Z (.lst xs))
  (ho:s.heap.get? p=Z (its.toArray^^^n)) (hf:f (its.toArray^^^n)=(g.toArray^^^z)) (r:Vals ys g) (K:ys.length<=pY) (t:Nat):
  Inv X gd σ (upd H p (.lst ys)) {s with heap:=s.heap.update p f,toks:=t}:=by
 have e:(s.heap.update p f).get? p=Z (g.toArray^^^z):=by
  rw[v5 f ho (by rw[hf] <;> rfl),hf]
 exact I.write (x:=p) (e:=p) (by rw[h];trivial) (.inl U) (λb u P q=>(uk _ _ (Ne.symm P)).trans q) (_,e) (K,g,z,r,e)
inductive Hb(o:V)(i:V)(v:V)(H:Hp)(Q:(Hp->Prop)):Prop
 |mk(p xs k j:_)(h1:o=.ref p)(h2:i=.int k)(h3:H p=Z (.lst xs))(h4:ixN xs.length k=Z j)(h5:Q (upd H p (.lst (xs.set j v))))
theorem set_list:SI X Hb:=by
 intro gd s σ H o i v ov iv u Q I K P z h;let(p,xs,k,j,U,U,hp,hj,q):=h;cases K;let(t,U):=P;let(its,n,r,ho,V):=I.lst hp;let(h1,h2,h3,h4):=CO hj;have hl:=r.length;have hn:=kR;have g:=
  I.Rm hp ho (A4 its n j u) (r.set z j) (by rw[SO];exact V) s.toks
 by_cases h0:0<=k
 ·have hk:=by
   rw[seqIndex_of h0 h4]at h1;exact Option.some.inj h1
  exact W.ki_setAt ho h0 (by lia) (by rw[sQ,<- hl];exact h4) (by rw[hk];exact(_,g,q))
 ·have hk:(k+(its.toArray.size)).toNat=j:=by
   rw[seqIndex_neg ap h3]at h1
   rw[sQ,<- hl];exact Option.some.inj h1
  exact W.ki_setBack ho ap (by rw[sQ,<- hl];exact h3) (by lia) (by rw[hk];exact(_,g,q))
def vO(lo hi:Option Int)(n:Nat):(sliceBounds lo hi Y n).1=((HT.sIx n 0 lo:Nat):Int)/\(sliceBounds lo hi Y n).2.1=((HT.sIx n n hi:Nat):Int)/\(sliceBounds lo hi Y n).2.2=1:=by
 refine(?_,?_,U)
 ·cases lo with
  |none=>simp[sliceBounds,HT.sIx]
  |some i =>
   simp only[sliceBounds,HT.sIx,Y5,show(1:Int) > 0 by decide,if_true]
   by_cases h:i<0
   ·simp only[h,if_true] <;> first|exact HT.Gx _ _ h|omega
   ·simp only[h,if_false] <;> first|exact HT.Gw _ _ h|omega
 ·cases hi with
  |none=>simp[sliceBounds,HT.sIx]
  |some i =>
   simp only[sliceBounds,HT.sIx,Y5,show(1:Int) > 0 by decide,if_true]
   by_cases h:i<0
   ·simp only[h,if_true] <;> first|exact HT.Gx _ _ h|omega
   ·simp only[h,if_false] <;> first|exact HT.Gw _ _ h|omega
def tR(its:List B)(lo hi:Option Int):slicePick its.toArray lo hi Y=((its.drop (HT.sIx its.length 0 lo)).take (HT.sIx its.length its.length hi-HT.sIx its.length 0 lo)).toArray:=by
 let(h1,h2,h3):=vO lo hi its.toArray.size;unfold slicePick;rw[h1,h2,h3];simp only[sliceRange_one,pick_run] <;> rfl
inductive Ts(K:BT)(x:V)(lo:Option Int)(hi:Option Int)(H:Hp)(Q:VK):Prop
 |mk(a xs:_)(h1:x=.ref a)(h2:SqL K H a xs)(h3:∀p,H p=Y->Q (.ref p) (upd H p (.lst (mM xs lo hi))))
def B7:SlR X (Ts X.K):=by
 intro gd s σ H x v vl vu lo hi sl Q I z hs P pu h;let(a,xs,U,hx,q):=h;cases z;let(its,r,g,V):=I.list hx;have hlen:=r.length;refine("list",_,slot_list_getitem.lookup,g.isList.typeIs,(wpAny_getItem_list_slice g.isList hs P pu .none ad ?_ (by rw[sQ] <;> omega)))
 rw[tR,<- hlen];refine(.ref s.heap.objs.size,_,I.laid (λb ob q=>f9 _ q) (ot _) ?_,U,q _ (I.hok.fresh (ot _)))
 exact(ui (oE xs lo hi) V,_,0,(r.drop (HT.sIx xs.length 0 lo)).take (HT.sIx xs.length xs.length hi-HT.sIx xs.length 0 lo),px _ U)
def gq:V->Bool
 |.non=>O
 |.bl _=>O
 |.int _=>O
 |.str _=>O
 |_=>ϊ
def eqV:V->V->Bool
 |.non,.non=>O
 |.bl a,.bl b=>a==b
 |.bl a,.int b=>(if a then 1 else 0)==b
 |.int a,.bl b=>a ==(if b then 1 else 0)
 |.int a,.int b=>a==b
 |.str a,.str b=>a==b
 |_,_=>ϊ
def Bz{s:ϋ}{x:V}{v:B}(q:RelV y u)(g:RelV x v)(z:gq y=O)(fx:gq x=O):SeqAt.EqAt A s u v (eqV y x):=by
 cases y with
 |non =>
  cases q;cases x with
  |non=>cases g;exact SeqAt.EqAt.same _
  |bl b=>cases g;exact SeqAt.EqAt.none_bool b
  |int b=>let(t,U):=g;exact SeqAt.EqAt.none_int b t
  |str b=>let(t,U):=g;exact SeqAt.EqAt.none_str b t
  |_=>exact absurd (fx) sU
 |bl a =>
  cases q;cases x with
  |non=>cases g;exact SeqAt.EqAt.bool_none a
  |bl b=>cases g;exact SeqAt.EqAt.bool_bool a b
  |int b=>let(t,U):=g;exact SeqAt.EqAt.bool_int a b t
  |str b=>let(t,U):=g;exact SeqAt.EqAt.bool_str a b t
  |_=>exact absurd (fx) sU
 |int a =>
  let(t',U):=q;cases x with
  |non=>cases g;exact SeqAt.EqAt.int_none a t'
  |bl b=>cases g;exact SeqAt.EqAt.int_bool a t' b
  |int b=>let(t,U):=g;exact SeqAt.EqAt.int_int a t' b t
  |str b=>let(t,U):=g;exact SeqAt.EqAt.int_str a t' b t
  |_=>exact absurd (fx) sU
 |str a =>
  let(t',U):=q;cases x with
  |non=>cases g;exact SeqAt.EqAt.str_none a t'
  |bl b=>cases g;exact SeqAt.EqAt.str_bool a t' b
  |int b=>let(t,U):=g;exact SeqAt.EqAt.str_int a t' b t
  |str b=>let(t,U):=g;exact SeqAt.EqAt.str_str a t' b t
  |_=>exact absurd (fx) sU
 |_=>exact absurd (z) sU
def eqU(x:V)(u:B):Bool:=match u with
 |.none=>eqV .non x
 |.bool b=>eqV (.bl b) x
 |.int i _=>eqV (.int i) x
 |.str z _=>eqV (.str z) x
 |_=>ϊ
def JO{x:V}(r:RelV y u)(f:gq y=O):eqU x u=eqV y x:=by
 cases y with
 |non=>cases r;rfl
 |bl b=>cases r;rfl
 |int i=>let(t,U):=r;rfl
 |str z=>let(t,U):=r;rfl
 |_=>exact absurd (f) sU
theorem mT{x:V}:∀{xs:List V}{us:List B},Vals xs us->xs.all gq=O->us.any (eqU x)=xs.any λy=>eqV y x
 |_,_,.nil,_=>rfl
 |y::xs,u::us,.cons r t,f=>by
  rw[List.all_cons,u6]at f;rw[Xn,Xn,JO r f.1,mT t f.2]
theorem jC{A:Db}{s:ϋ}{x:V}{v:B}(q:RelV x v)(fx:gq x=O):∀{xs:List V}{us:List B},Vals xs us->xs.all gq=O->∀u∈us,SeqAt.EqAt A s u v (eqU x u)
 |_,_,.nil,_=>λu g=>by cases g
 |y::xs,u::us,.cons r t,f=>λu' g=>by
  rw[List.all_cons,u6]at f;obtain rfl|g:=pj.mp g
  ·rw[JO r f.1];exact Bz r q f.1 fx
  ·exact jC q fx t f.2 u' g
def inV(x:V)(xs:List V):Bool:=xs.any λy=>eqV y x
inductive rIn(K:BT)(neg:Bool)(x:V)(y:V)(H:Hp)(Q:VK):Prop
 |mk(p xs:_)(h1:y=.ref p)(h2:(SqL K H p xs\/SqT K H p xs))(h3:gq x=O)(h4:xs.all gq=O)(h5:Q (.bl (if neg then !inV x xs else inV x xs)) H)
def Ey:OpR X (compareOp .In) (rIn X.K ϊ):=by
 intro gd s σ H x y v u Q I z P h;let(p,xs,U,hq,fx,fs,q):=h;cases P;obtain hq|hq:=hq
 ·let(its,r,g,V):=I.list hq;refine SeqAt.in_listAt (eqU x) g.isList (λw hw=>jC z fx r fs w (hw:)) (.bl _,H,I,U,?_)
  rw[show its.toArray.any (eqU x)=its.any (eqU x)by simp,mT r fs]
  exact q
 ·let(its,r,g,V):=I.tuple hq;refine SeqAt.in_tupleAt (eqU x) g (λw hw=>jC z fx r fs w (hw:)) (.bl _,H,I,U,?_)
  rw[show its.toArray.any (eqU x)=its.any (eqU x)by simp,mT r fs]
  exact q
def wA:OpR X (compareOp .NotIn) (rIn X.K O):=by
 intro gd s σ H x y v u Q I z P h;let(p,xs,U,hq,fx,fs,q):=h;cases P;obtain hq|hq:=hq
 ·let(its,r,g,V):=I.list hq;refine SeqAt.notIn_listAt (eqU x) g.isList (λw hw=>jC z fx r fs w (hw:)) (.bl _,H,I,U,?_)
  rw[show its.toArray.any (eqU x)=its.any (eqU x)by simp,mT r fs]
  exact q
 ·let(its,r,g,V):=I.tuple hq;refine SeqAt.notIn_tupleAt (eqU x) g (λw hw=>jC z fx r fs w (hw:)) (.bl _,H,I,U,?_)
  rw[show its.toArray.any (eqU x)=its.any (eqU x)by simp,mT r fs]
  exact q
def mQ:b8 X (.builtin "len") (λxs H Q=>∃p ys,xs=[.ref p]/\(SqL X.K H p ys\/SqT X.K H p ys)/\Q (.int ys.length) H):=by
 intro gd s σ H xs us Q I r h;let(p,ys,U,hq,q):=h;let(u,U,P):=vals1 r;cases P;have hn:=kR;obtain hq|hq:=hq
 ·let(its,g,z,V):=I.list hq;have hlen:=g.length;exact Calls.call_len_list z.isList (by rw[sQ,<- hlen];exact yV (by assumption)) (.int ys.length,H,I.tok _,(s.toks+1,by rw[sQ,hlen]),q)
 ·let(its,g,z,V):=I.tuple hq;have hlen:=g.length;exact len_tuple z (by rw[sQ,<- hlen];exact yV (by assumption)) (.int ys.length,H,I.tok _,(s.toks+1,by rw[sQ,hlen]),q)
def xn:b8 X (.builtin "len") (λxs H Q=>∃z,xs=[.str z]/\z.length<=pY/\Q (.int z.length) H):=by
 intro gd s σ H xs us Q I r h;let(z,U,g,q):=h;let(u,U,t,U):=vals1 r;have hn:=kR;exact len_str (by lia) (.int z.length,H,I.tok _,(_,U),q)
def b8.or{f:B}{g:List V->Hp->VK->Prop}(h:b8 X f r)(h':b8 X f g):b8 X f (λxs H Q=>r xs H Q\/g xs H Q):=by
 intro gd s σ H xs us Q I rs q;obtain q|q:=q
 ·exact h gd s σ H xs us Q I rs q
 ·exact h' gd s σ H xs us Q I rs q
def xm:b8 X (.type "list") (λxs H Q=>∃p ys,xs=[.ref p]/\(SqL X.K H p ys\/SqT X.K H p ys)/\∀l,H l=Y->Q (.ref l) (upd H l (.lst ys))):=by
 intro gd s σ H xs us Q I r h;let(p,ys,U,hq,q):=h;let(u,U,rx):=vals1 r;cases rx;have fin:∀its,Vals ys its->ys.length<=pY->∀h' P,(∀b o',s.heap.get? b=Z o'->h'.get? b=Z o') ->
   h'.get? s.heap.objs.size=Z {cls:=.type "list",dict:=Y,data:=.seq its.toArray P,slots:=#[]}->EP X gd σ Q (.ref s.heap.objs.size) {s with heap:=h'}:=λits g z h' P kp e =>
  (.ref s.heap.objs.size,_,I.laid kp (ot _) (show bH X.prog X.w _ h' _ (.lst ys)from(z,its,P,g,e)),U,q _ (I.hok.fresh (ot _)))
 obtain hq|hq:=hq
 ·let(its,g,V,z):=I.list hq;have hlen:=g.length;let(o,ho,hc,n,hd):=V.isList;exact call_list_seq p (.inl U) ho hc hd (λh' P kp e=>fin its g z h' P kp e) (by rw[sQ,<- hlen];exact z)
 ·let(its,g,V,z):=I.tuple hq;have hlen:=g.length;let(o,ho,hc,n,hd):=V;exact call_list_seq p (.inr U) ho hc hd (λh' P kp e=>fin its g z h' P kp e) (by rw[sQ,<- hlen];exact z)
def uu:b8 X (.type "tuple") (λxs H Q=>∃p ys,xs=[.ref p]/\((SqL X.K H p ys/\∀l,H l=Y->Q (.ref l) (upd H l (.tup ys)))\/(SqT X.K H p ys/\Q (.ref p) H))):=by
 intro gd s σ H xs us Q I r h;let(p,ys,U,h):=h;let(u,U,rx):=vals1 r;cases rx;obtain⟨hq,q⟩|⟨hq,q⟩:=h
 ·let(its,g,z,P):=I.list hq;have hlen:=g.length;refine call_tuple_list z.isList (λh' kp=>?_) (by rw[sQ,<- hlen];exact P)
  have V:=I.kept (t':=s.toks) kp;have I2:=
   V.laid (t':=s.toks) (λb o e=>f9 _ e) (ot _) (show bH X.prog X.w _ _ _ (.tup ys)from(P,its,g,lg.new _ _))
  exact(.ref h'.objs.size,_,I2,U,q _ (V.hok.fresh (ot _)))
 ·let(its,g,z,P):=I.tuple hq;exact call_tuple_same z (.ref p,H,I,U,q)
def tyV(K:BT)(T:String)(x:V)(H:Hp):Prop:=match x with
 |.str _=>T="str"
 |.int _=>T="int"
 |.ref p=>(T="list" /\ ∃xs,SqL K H p xs)\/(T="tuple" /\ ∃o,K.lookup p=Z o/\o.cls=.type "tuple" /\ o.dict=Y) \/
   (T="dict" /\ ((∃kvs,H p=Z (.dK kvs))\/∃kvs,H p=Z (.dT kvs)))\/(T="set" /\ ∃S n,H p=Z (.set S n))
 |_=>False
def Gb{σ:St}{s:ϋ}{T:String}{x:V}{v:B}(I:Inv X gd σ H s)(r:RelV x v)(ty:tyV X.K T x H):
  s.TypeIs v T/\∀a,v=.ref a->∃ob,s.heap.get? a=Z ob/\ob.dict=none:=by
 cases x with
 |str z =>
  let(t,U):=r
  cases(ty)
  exact(typeIs_str s z t,λ_ e=>nomatch e)
 |int i =>
  let(t,U):=r
  cases(ty)
  exact(typeIs_int s i t,λ_ e=>nomatch e)
 |ref p =>
  cases r;obtain⟨rfl,xs,hq⟩|⟨rfl,o,hk,P,hd⟩|⟨rfl,hk⟩|⟨rfl,S,n,hk⟩:=ty
  ·let(its,_,q,_):=I.list hq;refine(q.isList.typeIs,λa e=>?_)
   cases e;let(o,n,e,c,hd,_):=q;exact(o,e,hd)
  ·refine((o,I.kIn p o hk,P),λa e=>?_)
   cases e;exact(o,I.kIn _ o hk,hd)
  ·have z:∃o,s.heap.get? p=Z o/\o.ExactDict:=by
    obtain⟨kvs,hk⟩|⟨kvs,hk⟩:=hk
    ·let(_,_,_,_,o,_,_,e,ex,_):=I.hok p _ hk;exact(o,e,ex)
    ·let(_,_,_,_,o,_,_,e,ex,_):=I.hok p _ hk;exact(o,e,ex)
   let(o,e,ex):=z;refine((o,e,ex.1),λa g=>?_)
   cases g;exact(o,e,ex.2.1)
  ·let(o,_,_,_,e,ex,_):=I.hok p _ hk;refine((o,e,ex.1),λa g=>?_)
   cases g;exact(o,e,ex.2.1)
 |_=>exact False.elim ty
def PF(K:BT)(T:String)(r:V->List V->Hp->VK->Prop)(to:TE):TE:=λσ H Q=>to σ H λx H1=>tyV K T x H1/\r x [] H1 Q
def tBM(K:BT)(T:String)(r:V->List V->Hp->VK->Prop)(to:TE)(t:TA):TE:=λσ H Q=>to σ H λx H1=>tyV K T x H1/\t σ H1 λxs H2=>r x xs H2 Q
variable{o e:Ev}{es:List Ev}{to:TE}{t:TA}{name:Str}{apos aW:Pos}{T id:String}{r:V->List V->Hp->VK->Prop}
def IA(pa:PlainAttrs T)(slot:Slot T name id)(g:typeOf (.builtin id)=pure (.type "method_descriptor"))(hm:MtR X id r)(ho:PE X o to)
  (cH:‹attributeBase o name X.env (eval o X.env)=eval o X.env›) (cG:‹(apos.endLine==aW.line)=true›):PE X (.Call (.Attribute o name apos) [] [] aW) (PF X.K T r to):=by
 left;refine wpAny_Call_method0_late cH cG (thn (ho gd s σ H _ I h) λv s1 q=>?_)
 let(x,H1,P,z,ty,V):=q;let(h1,h2):=Gb P z ty;exact(T,id,pa,slot,g,h1,h2,Calls.callWith_builtin U (PySem.evalArgs_none (hm gd s1 σ H1 x [] v [] Q P z .nil V)))
def Cz(pa:PlainAttrs T)(slot:Slot T name id)(g:typeOf (.builtin id)=pure (.type "method_descriptor"))(hm:MtR X id r)(ho:PE X o to)(ha:PA X (e::es) t)
  (cH:‹attributeBase o name X.env (eval o X.env)=eval o X.env›)
  (nR:‹((backTo aW (pq (e::es) X.env)).all (λx=>!x.1)&&(backToKw aW (keywordEach [] X.env)).all (λx=>x.1.isSome)
   && decide ((e::es).length+([]:List Keyword).length+(if([]:List Keyword).isEmpty then 0 else 1)<30))=true›)
  (cG:‹(apos.endLine==aW.line)=true›) (hs:‹AC X e es›) (eO:‹AM X aW es›):
  PE X (.Call (.Attribute o name apos) (e::es) [] aW) (tBM X.K T r to t):=by
 left;refine wpAny_Call_method_late cH nR cG U (thn (ho gd s σ H _ I h) λv s1 q=>?_)
 let(x,H1,V,z,ty,q1):=q;let(h1,h2):=Gb V z ty;refine(T,id,pa,slot,g,h1,h2,?_);have P:=ha aW gd s1 σ H1 _ V q1;rw[hs]at P ⊢;exact Calls.callWith_builtin (by show(ϊ ||(backTo aW (pq es X.env)).any (·.1))=ϊ;rw[eO] <;> rfl) (Calls.evalArgs_plain (thn P λus s2 (vs,H2,I2,r2,q2)=>hm gd s2 σ H2 x vs v us Q I2 z r2 q2))
end
def MtM(X:Cx)(id:String)(r:V->List V->Hp->VK->Prop):Prop:=
 ∀(gd:List (J×Obj))(s:ϋ)(σ:St)(H:Hp)(x:V)(xs:List V)(v:B)(us:List B)(Q:VK),Inv X gd σ H s->RelV x v->Vals xs us->r x xs H Q ->
  Zk X (call (.builtin id) (v::us)) (EP X gd σ Q) X.xe s
def Vals.one:∀{x:V}{us:List B},Vals [x] us->∃u,us=[u]/\RelV x u:=by
 intro x us h;cases h with
 |cons r t=>cases t;exact(_,U,r)
theorem Vals.zero:∀{us:List B},Vals [] us->us=[]
 |_,.nil=>rfl
theorem Vals.dropLast{xs:List V}{us:List B}(h:Vals xs us):Vals xs.dropLast us.dropLast:=by
 induction h with
 |nil=>exact .nil
 |cons r t g =>
  cases t with
  |nil=>exact .nil
  |cons q t'=>exact .cons r g
theorem Vals.reverse{xs:List V}{us:List B}(h:Vals xs us):Vals xs.reverse us.reverse:=by
 induction h with
 |nil=>exact .nil
 |cons r t g=>rw[XW,XW];exact Vals.append g (.cons r .nil)
def By{α:Type}(l:List α):l.eraseIdx (l.length-1)=l.dropLast:=by
 induction l with
 |nil=>rfl
 |cons a r g =>
  cases r with
  |nil=>rfl
  |cons b r =>
   have e:(a::b::r).length-1=((b::r).length-1)+1:=by
    rfl
   rw[e,List.eraseIdx_cons_succ,g]
   all_goals rfl
variable{t':Nat}
section
variable{X:Cx}{σ:St}{s:ϋ}{l:J}{xs ys:List V}
def Inv.Rn{g:List B}{f:Array B->Array B}{t':Nat}(I:Inv X gd σ H s)(Q:H l=Z (.lst xs))
  (e:s.heap.get? l=Z (its.toArray^^^n)) (hf:f its.toArray=g.toArray) (hv:Vals ys g) (z:ys.length<=pY):
  Inv X gd σ (upd H l (.lst ys)) {s with heap:=s.heap.update l (Wb f),toks:=t'}:=by
 have q:=PySem.IsL.update e f;rw[hf]at q;exact I.write (x:=l) (e:=l) (by rw[Q];exact trivial) (.inl U) (λb' u P K=>(uk s.heap (Wb f) (Ne.symm P)).trans K) (_,q) (z,g,_,hv,q)
def Inv.VY(I:Inv X gd σ H s)(hv:Vals ys its)(g:ys.length<=pY):
  Inv X gd σ (upd H s.heap.objs.size (.lst ys)) {s with heap:=s.heap.push (~~~its.toArray),toks:=t'}:=
 I.laid (λ_ _ q=>f9 _ q) (ot _) (g,its,0,hv,px _ U)
theorem Inv.fresh(I:Inv X gd σ H s):H s.heap.objs.size=none:=I.hok.fresh (ot _)
def Inv.EL(I:Inv X gd σ H s)(g:H l=Z (.lst xs)):xs.length<=pY/\∃(its:List B)(n:Nat),Vals xs its/\xs.length=its.length/\s.heap.get? l=Z (its.toArray^^^n):=by
 let(z,its,n,r,e):=I.hok l _ g;exact(z,its,n,r,r.length,e)
def IQ(h:n<=pY):Builtin.List.listTooLong n=false:=by
 exact decide_eq_false (by lia)
end
section
variable{X:Cx}
inductive pH(x:V)(vs:List V)(H:Hp)(Q:VK):Prop
 |mk(l xs y:_)(h1:x=.ref l)(h2:vs=[y])(h3:H l=Z (.lst xs))(h4:xs.length<pY)(h5:Q .non (upd H l (.lst (xs++[y]))))
theorem EJ:MtM X "list.append" pH:=by
 intro gd s σ H x vs v us Q I K P h;let(l,xs,y,U,U,g,V,q):=h;cases K;let(u,U,ru):=P.one;let(z,its,n,r,hl,e):=I.EL g;refine call_meets F.slot_list_append (_,e,U) F.entry_list_append (F.args_list_append_2 _ _) (PySem.list_append l its.toArray n u (by rw[sQ];lia)) (e,?_)
 refine(.non,_,I.Rn g e ad (r.append (.cons ru .nil)) ?_,U,q)
 rw[jR,vb]
 lia
inductive pF(x:V)(vs:List V)(H:Hp)(Q:VK):Prop
 |mk(l b xs zs:_)(h1:x=.ref l)(h2:vs=[.ref b])(h3:H l=Z (.lst xs))(h4:H b=Z (.lst zs))(h5:xs.length+zs.length<=pY)(h6:Q .non (upd H l (.lst (xs++zs))))
theorem EI:MtM X "list.extend" pF:=by
 intro gd s σ H x vs v us Q I P V h;let(l,b,xs,zs,U,U,K,hB,hz,q):=h;cases P;let(u,U,ru):=V.one;cases ru;let(z,its,n,r,hl,e):=I.EL K;let(z2,g,n2,r2,ak,e2):=I.EL hB;have hsz:its.toArray.size+g.toArray.size<=pY:=by rw[sQ,sQ];lia
 have US:¬(!its.toArray.isEmpty&&Builtin.List.listTooLong (its.toArray.size+g.toArray.size))=true:=by
  rw[IQ hsz,YE];exact sU
 refine call_meets F.slot_list_extend (_,e,U) F.entry_list_extend (F.args_list_extend_2 _ _)
  (AutoSeq1.list_extend_list_list_0 l its.toArray n b g.toArray n2 US (by rw[sQ];lia) (by lia)) (e,e2,?_)
 refine(.non,_,I.Rn K e ad (r.append r2) ?_,U,q)
 rw[jR];omega
inductive P7(x:V)(vs:List V)(H:Hp)(Q:VK):Prop
 |mk(l xs y:_)(h1:x=.ref l)(h2:vs=[])(h3:H l=Z (.lst xs))(h4:xs[xs.length-1]?=Z y)(h5:Q y (upd H l (.lst xs.dropLast)))
theorem IY:MtM X "list.pop" P7:=by
 intro gd s σ H x vs v us Q I V rv h;let(l,xs,y,U,U,P,hy,q):=h;cases V;have K:=rv.zero;subst K;let(z,its,n,r,hl,e):=I.EL P;let(u,hu,ru):=r.get hy;have g:=by
  show its.toArray[its.length-1]?=Z u;rw[<- X4,<- hl];exact hu
 refine call_meets F.slot_list_pop (_,e,U) F.entry_list_pop (F.args_list_pop_1 _) (MeetsSeq.list_pop_last l its.toArray n u g (by rw[sQ];lia)) (e,?_)
 refine(y,_,I.Rn P e ?_ r.dropLast ?_,ru,q)
 ·rw[sQ,List.eraseIdxIfInBounds_toArray,By]
 ·rw[List.length_dropLast]
  lia
inductive TJ(x:V)(y:V)(H:Hp)(Q:VK):Prop
 |mk(l b xs zs:_)(h1:x=.ref l)(h2:y=.ref b)(h3:H l=Z (.lst xs))(h4:H b=Z (.lst zs))(h5:xs.length+zs.length<=pY)(h6:∀p,H p=Y->Q (.ref p) (upd H p (.lst (xs++zs))))
def Rc:OpR X (binaryOp .Add) TJ:=by
 intro gd s σ H x y v u Q I V K h;let(l,b,xs,zs,U,U,hH,hB,hz,q):=h;cases V;cases K;let(z,its,n,r,hl,e):=I.EL hH;let(z2,g,n2,r2,ak,e2):=I.EL hB;refine PySem.P.add_list e e2 ?_ (by rw[sQ,sQ];omega)
 have ea:its.toArray++g.toArray=(its++g).toArray:=by simp
 rw[ea];exact(.ref _,_,I.VY (r.append r2) (by rw[jR];omega),U,q _ I.fresh)
end
end L2
namespace Att
open PySem PySem.W PySem.Calls PyProof.Rows
def oV{P:Params}{h:Do}:∀(ns:List Int)(vs:List B),WellAll P h vs (ns.map WData.int)->IntsAre vs ns:=by
 intro ns
 induction ns with
 |nil =>
  intro vs w;cases w;exact .nil
 |cons n ns g =>
  intro vs w;cases w with
  |cons a b =>
   cases a;exact .cons _ _ (g _ b)
def Ea{l:OpenLaw}{n:Nat}(hn:l.most=Z n){P:Params}{h:Do}{args:List WData}{vals:List B}
  (hpre:l.row.toRowW.claim.pre args=O) (g:WellAll P h vals args):
  ∃a vs ns,vals=[B.ref a]/\args=[WData.list (ns.map WData.int)]/\h.get? a=Z (~~~vs.toArray)/\IntsAre vs ns/\ns.length<=n:=by
 have q:WShape.hasAll [] args [.list .int]=true:=(pre_splitW hpre).1;have Q:l.pre.holds [] {args:=args}=true:=(pre_splitW hpre).2;let(d,r,U,h1,h2):=hasAllW_cons q;obtain rfl:=hasAllW_nil h2;let(xs,U,h3):=hasW_list h1;let(ns,U):=items_int h3;have hlen:=by
  have h4:=by
   have h4:=(holds_andW Q).1;rw[hn]at h4;exact h4
  have h5:=condW_of h4 (w_not (w_lt w_lit (w_len_list (w_arg U))))
  first
   | (exact absurd h5 ac)
   | (simp at h5;omega)
 cases g with
 |cons K z =>
  cases z;cases K with
  |list ho V=>exact(_,_,ns,U,U,ho,oV ns _ V,hlen)
def Ep(l:OpenLaw)(args:List WData):l.row.toRowW.claim.post args (.bool O) args=true:=
 postW_of
  ba
  (w_eq_bool (w_res U) w_lit) U
def zm{l:OpenLaw}{n:Nat}{q:Da}{loose:List Str}{XP:(Str->Option B)->Do->Prop}{V:Cl->Do->Prop}{d:DefRec}
  (hn:l.most=Z n) (K:d.params.defaults=[])
  (call:∀(w:Cl)(s₀ g:ϋ)(mg mb:Str->Option B)(fa:J)(o:Obj)(pm cd doc:B)(a:J)(vs:List B)(ns:List Int),
   Ground q loose [] XP w s₀ mg mb g.heap->V w g.heap ->
   g.heap.get? fa=Z o->o.data=.func (docDef d.name d.params d.body d.scope pm cd doc)->g.heap.CodeRec cd d.name->mg d.name=Z (.ref fa) ->
   g.heap.get? a=Z (~~~vs.toArray)->IntsAre vs ns->ns.length<=n->g.gens=#[] ->
   codeAny (model l.prog w) callerA (.call (.ref fa) ([.ref a],[])) (λr s'=>r=.ok (.ret (.bool O))/\OldK g.heap s'.heap/\s'.os=g.os/\AllBare s'.gens) g):
  WalkO q loose XP V l.row.toRowW d [] (λf vs=>PySem.call f vs):=by
 intro w s₀ g mg mb G Zf fa o pm cd doc dV kV ho hd P Q hmg hg args vals as hpre WM ak z ar;obtain rfl:=Dflts.none Q K;obtain rfl:=Dflts.noKw Q;let(a,vs,ns,U,U,RY,hints,hlen):=Ea hn hpre z;refine enter_call (codeAny_mono (call w s₀ g mg mb fa o pm cd doc a vs ns G Zf ho (fd_plain hd) P hmg RY hints hlen hg) λr s' hq=>?_)
 let(U,h2,h3,h4):=hq;exact(.inl (.bool O,.bool O,[],U,λ_=>rfl,.bool O,Ep l _,λ_=>(List.Pairwise.nil,λ_ hm=>(nomatch hm))),h2,h3,h4)
section
def ledger(h:Do)(L d:J):List (J×Obj):=(N6 h.objs.size).filterMap λa=>if a=L\/a=d then Y else(h.get? a).map λo=>(a,o)
end
end Att
namespace L2
open PySem PySem.Spec PyProof.Rows
variable{ns:List Int}
def uD{vs:List B}(h:IntsAre vs ns):Vals (ns.map V.int) vs:=by
 induction h with
 |nil=>exact .nil
 |cons n t _ g=>exact .cons (t,U) g
def N7(H:Hp):Prop:=∀b,H b=Y\/∃o xs,H b=Z (.frz o (.lst xs))
variable{mg:Str->Option B}{a:J}{x:Str}
theorem Jf{P:Da}{w:Cl}{K:BT}{mb:Str->Option B}{CX:CXT}{k:Nat}{fa:J}{fd:Ch}{sp:Sp}{g:ϋ}{vs:List B}
  (KX:K.In g.heap) (ar:g.heap.Ns mainGlobals mg) (Q:g.heap.Ns builtinsNs mb) (aR:∀x:Str,x ≠ "__name__"->mb x=bootBuiltins x) (Wg:g.heap.NoLimit) (hg:g.gens=#[])
  (ha:g.heap.get? a=Z (~~~vs.toArray)) (hi:IntsAre vs ns) (hl:ns.length<=pY) (hr:cN k callerA)
  (F:∀base:Do,K.In base->base.Ns mainGlobals mg->bj P w K mg base CX k fa fd [x] sp) (U3:∀(s:ϋ)(u:B),BindsTo s fd ([u],[]) [(x,u)])
  (aN:∀H:Hp,N7 H->SqL K H a (ns.map V.int)->sp [.ref a] H (λv _=>v=.bl O) λ_ _ _=>False)
  (aW:∀H e s',CX [] H g (λ_ _ _=>False) e s'->False):
  codeAny (model P w) callerA (.call (.ref fa) ([.ref a],[])) (λr s'=>r=.ok (.ret (.bool O))/\OldK g.heap s'.heap/\s'.os=g.os/\AllBare s'.gens) g:=by
 have rv:=uD hi;have V0:=hi.length;have core:∀H,N7 H->SqL K H a (ns.map V.int)->HOk P w H g.heap->(∀b,H b≠Y->b=a)->(H a≠Y->K.lookup a=Y) ->
   codeAny (model P w) callerA (.call (.ref fa) ([.ref a],[])) (λr s'=>r=.ok (.ret (.bool O))/\OldK g.heap s'.heap/\s'.os=g.os/\AllBare s'.gens) g:=by
  intro H hO hS hok hA hK;have Di:∀{b:J}{o:Obj},g.heap.get? b=Z o->H b=Y->(yP g.heap H).get? b=Z o:=λe n=>JD e n
  have aM:∀{b:J}{o:Obj}{es:Array Y8}{ep:Nat},g.heap.get? b=Z o->o.data=.dict es ep->H b=none:=λ{b o es ep} e d=>by
   cases q:H b with
   |none=>rfl
   |some u =>
    have e':=hA b (by rw[q];simp)
    subst e';rw[ha]at e;cases e;have d':=d;cases d'
  have ak:∀{b:J}{m:Str->Option B},g.heap.Ns b m->(yP g.heap H).Ns b m:=λ{b m} (o,es,ep,e,d,r)=>(o,es,ep,Di e (aM e d),d,r)
  have ay:=λb o e=>Di (KX b o e) (by
   cases q:H b with
   |none=>rfl
   |some u =>
    have e':=hA b (by rw[q];simp)
    subst e';rw[hK (by rw[q];simp)]at e;cases e)
  have hM:Mod K mg (yP g.heap H):=(ay,ak ar,(mb,ak Q,aR),let(mc,h1,h2):=Wg;(mc,ak h1,h2))
  have e0:zx P w K mg (yP g.heap H) callerA [] g H:=(U,hM,λb o e=>M8 e,Yx (E1 _ _),trivial,λb Q=>absurd (show b∈([])from Q) ad,hok,.of_eq hg)
  refine codeAny_mono ((F _ ay (ak ar)).run callerA [] g H ([.ref a],[]) [.ref a] [.ref a] _ _ hr e0 (U3 g (.ref a)) (.cons U .nil) (aN H hO hS)) λr s' h=>?_
  cases r with
  |error e=>exact(aW H e s' h).elim
  |ok fl =>
   cases fl with
   |next=>exact False.elim h
   |brk=>exact False.elim h
   |cont=>exact False.elim h
   |ret u =>
    let(v,H',os,bare,un,Wc,r',q):=h;have q':=q;subst q';obtain rfl:=r';refine(U,OldK.of_keep λb o e=>?_,os,bare)
    cases q:H b with
    |none=>exact un.keep b o e q (by intro z;exact absurd (show b∈([])from z) ad) ad
    |some u =>
     obtain z |⟨ob,xs,z⟩:=hO b
     ·rw[q]at z;cases z
     ·have z2:=un.jl b ob _ z;let(e1,_):=hok b _ z;let(e2,_):=Wc b _ z2;rw[e]at e1;cases e1;exact e2
 cases hk:K.lookup a with
 |some o =>
  have e:=KX a o hk;rw[ha]at e;cases e;refine core (λ_=>Y) (λ_=>.inl U) (.inr (_,vs.toArray,_,hk,U,U,U,by rw[sQ,V0];exact hl,(rv:))) (λb u z=>by have z':=z;cases z') (λb z=>absurd U z) λz=>absurd U z
 |none =>
  refine core (λb=>if b=a then Z (.frz (~~~vs.toArray) (.lst (ns.map V.int)))else Y) (λb=>?_) (.inl (.inr ((~~~vs.toArray),if_pos U))) (λb u z=>?_) (λb z=>?_) λ_=>hk
  ·by_cases Q:b=a
   ·exact .inr (_,_,if_pos Q)
   ·exact .inl (if_neg Q)
  ·by_cases Q:b=a
   ·have z':=(if_pos Q).symm.trans z;cases z';subst Q;exact(ha,by rw[dN];exact hl,vs,_,rv,ha)
   ·have z':=(if_neg Q).symm.trans z;cases z'
  ·by_cases Q:b=a
   ·exact Q
   ·exact absurd (if_neg Q) z
variable{n:Nat}
theorem Lj{l:W.OpenLaw}{k:Nat}{q:Da}{loose:List Str}{XP:(Str->Option B)->Do->Prop}{YP:Cl->Do->Prop}{d:DefRec}{K:Params->BT}{CX:Cl->CXT}{sp:Cl->Sp}
  (hn:l.most=Z n) (Q:n<=pY) (ak:d.params.defaults=[]) (hr:cN k callerA)
  (hY:∀(w:Cl)(h:Do),YP w h->(K w.params).In h)
  (F:∀(w:Cl)(mg:Str->Option B)(fa:J)(h:Do),(K w.params).In h->h.Ns mainGlobals mg->mg d.name=Z (.ref fa) ->
   ∃fd:Ch,(∀(s:ϋ)(u:B),BindsTo s fd ([u],[]) [(x,u)]) /\
    ∀base:Do,(K w.params).In base->base.Ns mainGlobals mg->bj l.prog w (K w.params) mg base (CX w) k fa fd [x] (sp w))
  (P:∀(w:Cl)(H:Hp)(a:J)(ns:List Int),ns.length<=n->N7 H->SqL (K w.params) H a (ns.map V.int)->sp w [.ref a] H (λv _=>v=.bl O) λ_ _ _=>False)
  (ar:∀(w:Cl)(H:Hp)(s:ϋ)(e:B)(s':ϋ),CX w [] H s (λ_ _ _=>False) e s'->False):
  W.WalkO q loose XP YP l.row.toRowW d [] (λf vs=>PySem.call f vs):=by
 refine Att.zm hn ak λw s₀ z mg mb fa o pm cd doc a vs ns G Zf ho hd ay hmg RY hints hlen hg=>?_
 have KX:=hY w _ Zf;let(fd,hb,hF):=F w mg fa _ KX G.T.g hmg;exact Jf KX G.T.g G.T.b G.T.builtins G.T.nolimit hg RY hints (ui hlen Q) hr hF hb (λH hO hS=>P w H a ns hlen hO hS) λH e s'=>ar w H z e s'
def inClass(s:EQ)(j:Nat):EQ:=match s with
 |.ClassDef _ _ _ body _ _ _ _ _ _ _=>body.getD j (.Pass (0,0,0,0))
 |_=>.Pass (0,0,0,0)
def dF(s:EQ):Arguments:=match s with
 |.FunctionDef _ a _ _ _ _ _ _ _ _=>a
 |_=>{posonlyargs:=[],args:=[],vararg:=Y,kwonlyargs:=[],kw_defaults:=[],kwarg:=Y,defaults:=[]}
def bQ(s:EQ):List EQ:=match s with
 |.FunctionDef _ _ b _ _ _ _ _ _ _=>b
 |_=>[]
def aw(s:EQ):Scope:=match s with
 |.FunctionDef _ _ _ _ _ _ sc _ _ _=>sc
 |_=>{kind:=.function,names:=[],isGenerator:=ϊ,isCoroutine:=ϊ}
abbrev CX0:CXT:=λ_ _ _ _ _ _=>False
abbrev E0:XK:=λ_ _ _=>False
variable{X:Cx}
def IB:Passes CX0 X E0:=λ_ _ _ _ _ _ _ h=>h.elim
structure Fun(K:BT)(x qual:Str)(st:EQ)(f:J)(fd:Ch):Prop where
 ex:∃(oc:B)(od:Option J)(kV doc pm:B)(an:Option J)(cdv ct:B)(osl:Array (Option B)),
  fd=W.fnOf x qual (dF st) (bQ st) (aw st) .none kV doc pm an cdv ct/\K.lookup f=Z (oc,od,.func fd,osl)/\W.codeIn K cdv qual=O
 kp:W.keepIn K (.ref f)=O
variable{qual:Str}{st:EQ}{fd:Ch}{N:List Str}{ps:List Str}{sp:Sp}{oc:B}{od:Option J}{an:Option J}{pm:B}{ct:B}
section
variable{P:Da}{w:Cl}{K:BT}{base:Do}
theorem Fun.ok{f:J}{k:Nat}(F:Fun K x qual st f fd)(S:aG N ps (aw st))(len:∀vs H Q E,sp vs H Q E->vs.length=ps.length)
  (jK:∀(cdv:B)(A:Db)(outer:List Env)(s:ϋ)(H:Hp)(vs:List V)(Q:VK)(E:XK),cN k (A.deeper (envOfC qual (aw st) s.heap.objs.size f cdv))->sp vs H Q E ->
   ∃t,PSs (nT CX0 P w K mg base N qual (aw st) f cdv A outer s H E).nox (bQ st) t/\t {nx:=λ_ H'=>Q .non H',rt:=Q} (start N vs) H):bj P w K mg base CX0 (k+1) f fd ps sp:=by
 let(oc,od,kV,doc,pm,an,cdv,ct,osl,U,lk,z):=F.ex;refine O2 lk z S len λA outer s H vs Q E hr g=>?_
 let(t,h,q):=jK cdv A outer s H vs Q E hr g;exact(t,h.nox,q)
theorem Fun.binds{f:J}(F:Fun K x qual st f fd)
  (h:∀(kV doc pm:B)(an:Option J)(cdv ct:B)(us:List B),us.length=ps.length->bindArgs (W.fnOf x qual (dF st) (bQ st) (aw st) .none kV doc pm an cdv ct) (us,[])=pure (ps.zip us)):Binds K fd ps []:=by
 let(oc,od,kV,doc,pm,an,cdv,ct,osl,U,lk,g):=F.ex;exact .all (h kV doc pm an cdv ct)
theorem kY{f:J}{osl:Array (Option B)}{kV doc cdv:B}(l:K.lookup f=Z (oc,od,.func (W.fnOf x qual (dF st) (bQ st) (aw st) .none kV doc pm an cdv ct),osl))
  (c:W.codeIn K cdv qual=O) (k:W.keepIn K (.ref f)=O):Fun K x qual st f (W.fnOf x qual (dF st) (bQ st) (aw st) .none kV doc pm an cdv ct):=((oc,od,kV,doc,pm,an,cdv,ct,osl,U,l,c),k)
end
variable{A:Db}
def bD{k:Nat}(hr:cN k A):A.units+1<cLine:=Xg (Yc ac _) hr.units
def aF(h:n<=1000):n<pY:=Xg h ac
section
def pv(i:Nat){pos:Pos}(q:‹X.N[i]?=Z x›)(hv:Vis X.env.scope x:=by first|exact Or.inl rfl|exact Or.inr (Or.inl U)|exact Or.inr (Or.inr U))(hd:autoParam (AS x) zdc._auto_1)
  (g:autoParam ((x ==("__classdict__":Str))=false) zdc._auto_1):PE X (.Name x pos) (bZ i):=Ip q hv hd g
end
def V7{A Zg:Prop}(h:Zg):if ϊ=O then A else Zg:=by
 exact h
def aI{c A Zg:Prop}[Decidable c](h1:c->A)(h2:¬ c->Zg):if c then A else Zg:=by
 by_cases h:c
 ·rw[if_pos h];exact h1 h
 ·rw[if_neg h];exact h2 h
def aa{c A Zg:Prop}[Decidable c](h2:Zg)(h:¬ c:=by decide +kernel):if c then A else Zg:=aI (λz=>absurd z h) λ_=>h2
def lb(H H':Hp):Prop:=∀b o,H b=Z o->H' b=Z o
def lb.refl(H:Hp):lb H H:=λ_ _ h=>h
variable{H:Hp}{H':Hp}{l:J}
def lb.free(e:lb H H')(h:H' l=Option.none):H l=Option.none:=by
 cases q:H l with
 |none=>rfl
 |some o =>
  rw[e l o q]at h;cases h
variable{y:V}{u:B}
section
variable{κ:Type}[DecidableEq κ]
def cC(kvs:List (κ×V))(k:κ):Option V:=(kvs.find? λkv=>decide (kv.1=k)).map (·.2)
def putK(kvs:List (κ×V))(k:κ)(v:V):List (κ×V):=
 if(kvs.any λkv=>decide (kv.1=k))=O then kvs.map (λkv=>if kv.1=k then(kv.1,v)else kv)else kvs++[(k,v)]
def cU{p:κ×V}{r:List (κ×V)}{k:κ}(e:p.1=k):cC (p::r) k=Z p.2:=by simp[cC,e]
def cV{p:κ×V}{r:List (κ×V)}{k:κ}(e:¬ p.1=k):cC (p::r) k=cC r k:=by simp[cC,e]
theorem lC(k:κ):∀kvs:List (κ×V),(kvs.any λkv=>decide (kv.1=k))=(cC kvs k).isSome
 |[]=>rfl
 |p::r=>by
  rw[Xn];by_cases e:p.1=k
  ·simp only[cU e,decide_eq_true e,Yy,Option.isSome_some]
  ·rw[cV e,decide_eq_false e];exact lC k r
theorem xK(k j:κ)(y:V):∀kvs:List (κ×V),cC (kvs.map λkv=>if kv.1=k then(kv.1,y)else kv) j=(cC kvs j).map λx=>if j=k then y else x
 |[]=>rfl
 |p::r=>by
  have g:=xK k j y r;rw[x2];by_cases h:p.1=k
  ·rw[if_pos h];by_cases e:p.1=j
   ·rw[cU (p:=(p.1,y)) e,cU e,Ya,if_pos (e.symm.trans h)]
   ·rw[cV (p:=(p.1,y)) e,cV e,g]
  ·rw[if_neg h];by_cases e:p.1=j
   ·rw[cU (p:=p) e,cU e,Ya,if_neg (λz=>h (e.trans z))]
   ·rw[cV (p:=p) e,cV e,g]
theorem uE(k j:κ)(y:V):∀kvs:List (κ×V),cC kvs k=Y->cC (kvs++[(k,y)]) j=if j=k then Z y else cC kvs j
 |[],_=>by
  by_cases e:k=j
  ·rw[if_pos e.symm];exact cU (p:=(k,y)) e
  ·rw[if_neg (λz=>e z.symm)];exact cV (p:=(k,y)) e
 |p::r,hn=>by
  rw[Yt];have hk:¬ p.1=k:=λz=>by rw[cU z]at hn;cases hn
  rw[cV hk]at hn;have g:=uE k j y r hn;by_cases e:p.1=j
  ·rw[cU e,cU e,if_neg (λz=>hk (e.trans z))]
  ·rw[cV e,cV e,g]
def F5(kvs:List (κ×V))(k j:κ)(y:V):cC (putK kvs k y) j=if j=k then Z y else cC kvs j:=by
 unfold putK;by_cases a:(kvs.any λkv=>decide (kv.1=k))=O
 ·rw[if_pos a,xK];rw[lC]at a;by_cases e:j=k
  ·let(x,hx):=Yn.mp a;rw[if_pos e,e,hx,Ya,if_pos rfl]
  ·rw[if_neg e];cases cC kvs j with
   |none=>rfl
   |some x=>rw[Ya,if_neg e]
 ·rw[if_neg a];refine uE k j y kvs ?_;rw[lC]at a;cases q:cC kvs k with
  |none=>rfl
  |some x=>rw[q]at a;exact(a U).elim
def gp(kvs:List (κ×V))(k:κ)(v:V):(putK kvs k v).length<=kvs.length+1:=by
 unfold putK
 split
 ·rw[dN];lia
 ·rw[jR,ri,Xb];lia
def iW.hJ{o:Option V}{u:Option B}(r:iW o u):o.isSome=u.isSome:=by
 cases o with
 |none=>cases u with
  |none=>rfl
  |some _=>exact(r).elim
 |some _=>cases u with
  |none=>exact(r).elim
  |some _=>rfl
theorem iW.getD{o:Option V}{u:Option B}{d:V}{g:B}(r:iW o u)(rd:RelV d g):RelV (o.getD d) (u.getD g):=by
 cases o with
 |none=>cases u with
  |none=>exact rd
  |some _=>exact(r).elim
 |some _=>cases u with
  |none=>exact(r).elim
  |some _=>exact r
def KV.val{kvs:List (κ×V)}{vs:List (κ×B)}(r:KV kvs vs)(k:κ):iW (cC kvs k) (valueAt vs k):=by
 induction r with
 |nil=>exact True.intro
 |@cons p q ps qs h t K =>
  let(h1,h2):=h;by_cases e:p.1=k
  ·have g:=h1.symm.trans e;have b:valueAt (q::qs) k=Z q.2:=by simp[valueAt,g]
   rw[cU e,b];exact h2
  ·have g:¬ q.1=k:=λz=>e (h1.trans z)
   have b:valueAt (q::qs) k=valueAt qs k:=by simp[valueAt,g]
   rw[cV e,b];exact K
theorem KV.any{kvs:List (κ×V)}{vs:List (κ×B)}(r:KV kvs vs)(k:κ):(kvs.any λkv=>decide (kv.1=k))=vs.any λkv=>decide (kv.1=k):=by
 induction r with
 |nil=>rfl
 |cons h t g=>rw[Xn,Xn,g,h.1]
def KV.P5{kvs:List (κ×V)}{vs:List (κ×B)}(r:KV kvs vs)(k:κ)(g:RelV y u):
  KV (kvs.map λkv=>if kv.1=k then(kv.1,y)else kv) (vs.map λkv=>if kv.1=k then(kv.1,u)else kv):=by
 induction r with
 |nil=>exact .nil
 |@cons p q ps qs h t K =>
  rw[x2,x2];refine .cons ?_ K;let(h1,h2):=h;by_cases e:p.1=k
  ·rw[if_pos e,if_pos (h1.symm.trans e)];exact(h1,g)
  ·rw[if_neg e,if_neg (λz=>e (h1.trans z))];exact(h1,h2)
def KV.put{kvs:List (κ×V)}{vs:List (κ×B)}(r:KV kvs vs)(k:κ)(g:RelV y u):KV (putK kvs k y) (stored vs k u):=by
 unfold putK stored;rw[r.any k];by_cases e:(vs.any λkv=>decide (kv.1=k))=O
 ·rw[if_pos e,if_pos e];exact r.P5 k g
 ·rw[if_neg e,if_neg e];exact Paired.snoc r (U,g)
theorem KV.length{kvs:List (κ×V)}{vs:List (κ×B)}(r:KV kvs vs):kvs.length=vs.length:=Paired.length r
end
variable{P:Da}
def mh{w:Cl}{k:Key}(r:RelV (kV k) u):(bf P w).is k u=true:=by
 cases k with
 |inl i=>let(t,e):=(r);subst e;exact yA P w i t
 |inr x=>let(t,e):=(r);subst e;exact yz P w x t
theorem uY{P:Da}{w:Cl}:∀{ks:List Key}{us:List B},Vals (ks.map kV) us->ItemsAre (bf P w) ks us
 |[],_,r=>by cases r;exact .nil
 |k::ks,_,r=>by
  cases r with
  |cons h t=>exact .cons (mh h) (uY t)
abbrev KT(H:Hp):List (List Key×V)->List (List Key×J×B)->Prop:=Paired λp q=>p.1=q.1/\H q.2.1=Z (.tup (p.1.map kV))/\RelV p.2 q.2.2
def KT.val{kvs:List (List Key×V)}{xs:List (List Key×J×B)}(r:KT H kvs xs)(k:List Key):iW (cC kvs k) ((atKey xs k).map (·.2)):=by
 induction r with
 |nil=>exact True.intro
 |@cons p q ps qs h t K =>
  let(h1,_,h2):=h;by_cases e:p.1=k
  ·have g:=h1.symm.trans e;have b:atKey (q::qs) k=Z q.2:=by simp[atKey,g]
   rw[cU e,b];exact h2
  ·have g:¬ q.1=k:=λz=>e (h1.trans z)
   have b:atKey (q::qs) k=atKey qs k:=by simp[atKey,g]
   rw[cV e,b];exact K
def KT.P5{kvs:List (List Key×V)}{xs:List (List Key×J×B)}(r:KT H kvs xs)(k:List Key)(g:RelV y u):
  KT H (kvs.map λkv=>if kv.1=k then(kv.1,y)else kv) (xs.map (putAt k u)):=by
 induction r with
 |nil=>exact .nil
 |@cons p q ps qs h t K =>
  rw[x2];refine .cons ?_ K;let(h1,h2,h3):=h;unfold putAt;by_cases e:p.1=k
  ·rw[if_pos e,if_pos (h1.symm.trans e)];exact(h1,h2,g)
  ·rw[if_neg e,if_neg (λz=>e (h1.trans z))];exact(h1,h2,h3)
def KT.put{kvs:List (List Key×V)}{xs:List (List Key×J×B)}(r:KT H kvs xs)(k:List Key){b:J}(z:H b=Z (.tup (k.map kV)))(g:RelV y u):
  KT H (putK kvs k y) (storedH xs k b u):=by
 have e:(kvs.any λkv=>decide (kv.1=k))=(atKey xs k).isSome:=by
  rw[lC,(r.val k).hJ,Xz]
 unfold putK storedH;rw[e];by_cases q:(atKey xs k).isSome=O
 ·rw[if_pos q,if_pos q];exact r.P5 k g
 ·rw[if_neg q,if_neg q];exact Paired.snoc r (U,z,g)
def KT.keeps{kvs:List (List Key×V)}{xs:List (List Key×J×B)}(r:KT H kvs xs)(g:∀b ys,H b=Z (.tup ys)->H' b=Z (.tup ys)):KT H' kvs xs:=
 Paired.Uv r λ_ _ z=>(z.1,g _ _ z.2.1,z.2.2)
variable{kvs:List (Key×V)}
section
variable{w:Cl}{h:Do}
def Ol{u:HO}(ok:HOk P w H h)(e:Rd H a u):bH P w H h a u:=e.ok ok
def i9(ok:HOk P w H h)(e:Rd H a (.dK kvs)):kvs.length<=pY/\(a==sysModules)=ϊ/\∃vs,KV kvs vs/\h.DictOf (bf P w) a vs:=
 Ol ok e
def JR(ok:HOk P w H h)(e:H a=Z (.dK kvs)):kvs.length<=pY/\(a==sysModules)=ϊ/\∃vs,KV kvs vs/\h.DictOf (bf P w) a vs:=i9 ok (.inl e)
def kS{ks:List Key}(ok:HOk P w H h)(e:H a=Z (.tup (ks.map kV))):(tupleKind (bf P w)).is h ks a:=by
 let(_,its,r,(o,h1,h2,n,h3),_):=(ok a _ e);exact(o,its.toArray,n,h1,h2,h3,(uY r:))
def sg{kvs:List (List Key×V)}(ok:HOk P w H h)(e:Rd H a (.dT kvs)):kvs.length<=pY/\(a==sysModules)=ϊ /\
  ∃xs,KT H kvs xs/\h.DictOfH (tupleKind (bf P w)) a xs:=by
 let(z,y,xs,r,o,es,ep,h1,h2,h3,h4,h5):=(Ol ok e);refine(z,y,xs,r,o,es,ep,h1,h2,h3,h4,λx hx=>?_,h5)
 have all:∀{l:List (List Key×V)}{m:List (List Key×J×B)},KT H l m->∀x∈m,(tupleKind (bf P w)).is h x.1 x.2.1:=by
  intro l m q
  induction q with
  |nil=>intro x hx;exact nomatch hx
  |@cons p q ps qs hq t g =>
   intro x hx;obtain e|hx:=pj.mp hx
   ·subst e;exact kS ok (by rw[<- hq.1];exact hq.2.1)
   ·exact g x hx
 exact all r x hx
def Va{kvs:List (List Key×V)}(ok:HOk P w H h)(e:H a=Z (.dT kvs)):kvs.length<=pY/\(a==sysModules)=ϊ /\
  ∃xs,KT H kvs xs/\h.DictOfH (tupleKind (bf P w)) a xs:=sg ok (.inl e)
end
def iu(H:Hp)(a:J)(y:V)(r:Option V):Prop:=
 (∃kvs k,Rd H a (.dK kvs)/\y=kV k/\r=cC kvs k)\/∃kvs k b,Rd H a (.dT kvs)/\y=.ref b/\H b=Z (.tup (k.map kV))/\r=cC kvs k
def xD(H:Hp)(a:J)(y v:V)(H':Hp):Prop:=
 (∃kvs k,H a=Z (.dK kvs)/\y=kV k/\kvs.length<pY/\H'=upd H a (.dK (putK kvs k v))) \/
 ∃kvs k b,H a=Z (.dT kvs)/\y=.ref b/\H b=Z (.tup (k.map kV))/\kvs.length<pY/\H'=upd H a (.dT (putK kvs k v))
theorem iu.k{H:Hp}{a:J}{kvs:List (Key×V)}{k:Key}(e:H a=Z (.dK kvs)):iu H a (kV k) (cC kvs k):=.inl (kvs,k,.inl e,U,U)
theorem xD.k{H:Hp}{a:J}{kvs:List (Key×V)}{k:Key}{v:V}(e:H a=Z (.dK kvs))(hl:kvs.length<pY):xD H a (kV k) v (upd H a (.dK (putK kvs k v))):=.inl (kvs,k,e,U,hl,U)
variable{Q:B->ϋ->Prop}{h':Do}{t':Nat}
section
variable{gd:List (J×Obj)}{σ:St}{s:ϋ}{v:V}{r:B}{o:Option V}{E:B->ϋ->Prop}
def Inv.big(I:Inv X gd σ H s):sysModules<s.heap.objs.size:=by
 have h:=(I.mod.glob.keeps I.bk).lt;exact XG ac h
def Fd(hu:A.units+1<cLine)(I:Inv X gd σ H s)(g:iu H a y (Z v))(ry:RelV y u)(h:∀K s',Inv X gd σ H s'->RelV v K->Q K s'):
  wpAny (model X.prog X.w) A (getItem (.ref a) u) Q E s:=by
 obtain⟨kvs,k,e,V,l⟩|⟨kvs,k,b,e,V,eb,l⟩:=g
 ·subst V;let(z,hd,vs,rel,dd):=i9 I.hok e;let(K,hw,q):=iW.some_of (by rw[l];exact rel.val k)
  exact wpAny_getItem_of (mh ry) dd.mapOf hw (h K _ (I.tok _) q)
 ·subst V
  cases(ry)
  let(z,hd,xs,rel,dd):=sg I.hok e;let(K,hw,q):=iW.some_of (by rw[l];exact rel.val k)
  let(p,hp,P):=g5.mp hw;refine wpAny_getItem_heap (tupleKind_room_in1 hu) (kS I.hok eb) dd hp ?_;rw[P];exact h K _ (I.tok _) q
def Wo(V:A.units+1<cLine)(I:Inv X gd σ H s)(g:iu H a y o)(P:RelV y u)(h:∀s',Inv X gd σ H s'->Q (.bool o.isSome) s'):
  wpAny (model X.prog X.w) A (compareOp .In u (.ref a)) Q E s:=by
 obtain⟨kvs,k,e,K,l⟩|⟨kvs,k,b,e,K,eb,l⟩:=g
 ·subst K;let(z,hd,vs,rel,dd):=i9 I.hok e;refine wpAny_in_of (mh P) hd dd.mapOf ?_;rw[<- (rel.val k).hJ,<- l];exact h _ (I.tok _)
 ·subst K
  cases(P)
  let(z,hd,xs,rel,dd):=sg I.hok e;refine wpAny_in_heap (tupleKind_room_in1 V) (kS I.hok eb) hd dd ?_;have q:=(rel.val k).hJ;rw[Xz]at q;rw[<- q,<- l];exact h _ (I.tok _)
def NS(V:A.units+1<cLine)(I:Inv X gd σ H s)(g:iu H a y o)(P:RelV y u)(h:∀s',Inv X gd σ H s'->Q (.bool (!o.isSome)) s'):
  wpAny (model X.prog X.w) A (compareOp .NotIn u (.ref a)) Q E s:=by
 obtain⟨kvs,k,e,K,l⟩|⟨kvs,k,b,e,K,eb,l⟩:=g
 ·subst K;let(z,hd,vs,rel,dd):=i9 I.hok e;refine wpAny_notIn_of (mh P) hd dd.mapOf ?_;rw[<- (rel.val k).hJ,<- l];exact h _ (I.tok _)
 ·subst K
  cases(P)
  let(z,hd,xs,rel,dd):=sg I.hok e;refine wpAny_notIn_heap (tupleKind_room_in1 V) (kS I.hok eb) hd dd ?_;have q:=(rel.val k).hJ;rw[Xz]at q;rw[<- q,<- l];exact h _ (I.tok _)
def xj{ob:HO}(I:Inv X gd σ H s)(g:Mut (H a))(hs:XF a s.heap h')(he:∃q,h'.get? a=Z q)(new:bH X.prog X.w (upd H a ob) h' a ob):
  Inv X gd σ (upd H a ob) {s with heap:=h',toks:=t'}:=
 I.write g (.inl U) (λb q K z=>(hs.2 b K).trans z) he new
def si{w:Cl}{vs:List (Key×B)}(z:kvs.length<=pY)(hd:(a==sysModules)=ϊ)(rel:KV kvs vs)(dd:h'.DictOf (bf P w) a vs):
  bH P w H' h' a (.dK kvs):=(z,hd,vs,rel,dd)
def Fc{Q:Unit->ϋ->Prop}(hu:A.units+1<cLine)(I:Inv X gd σ H s)(g:xD H a y v H')(V:RelV y u)(rv:RelV v r)(h:∀s',Inv X gd σ H' s'->Q () s'):
  wpAny (model X.prog X.w) A (setItem (.ref a) u r) Q E s:=by
 obtain⟨kvs,k,e,K,l,P⟩|⟨kvs,k,b,e,K,eb,l,P⟩:=g
 ·subst K P;let(z,hd,vs,rel,dd):=JR I.hok e;have hz:vs.length<=pY:=by rw[<- rel.length];exact z
  have hl:(putK kvs k v).length<=pY:=by have:=gp kvs k v;omega
  refine wpAny_setItem_pairs (mh V) dd λh' dd' hs=>h _ ?_
  have he:∃q,h'.get? a=Z q:=let(q,_,_,hq,_):=dd';(q,hq)
  exact xj I (by rw[e];exact True.intro) hs he (si hl hd (rel.put k rv) dd')
 ·subst K P
  cases(V)
  let(z,hd,xs,rel,dd):=Va I.hok e;have hz:xs.length<=pY:=by rw[<- Paired.length rel];exact z
  have hl:(putK kvs k v).length<=pY:=by have:=gp kvs k v;lia
  refine wpAny_setItem_heap (hsz:=hz) (tupleKind_room_in1 hu) (kS I.hok eb) dd λh' dd' hs=>h _ ?_
  let(q,es,ep,hq,h2,h3,h4,_,h5):=dd';refine xj I (by rw[e];exact True.intro) hs (q,hq) (hl,hd,_,(rel.put k eb rv).keeps λc ys ec=>?_,q,es,ep,hq,h2,h3,h4,h5)
  rw[ao (gZ ec e (λz=>nomatch z))]
  exact ec
end
section
variable{gd:List (J×Obj)}{σ:St}{s:ϋ}{E:B->ϋ->Prop}
def Vc(I:Inv X gd σ H s)(e:Rd H a (.dK kvs))(h:∀t s',Inv X gd σ H s'->Q (.int kvs.length t) s'):wpAny (model X.prog X.w) A (call (.builtin "len") [.ref a]) Q E s:=by
 let(z,hd,vs,rel,dd):=i9 I.hok e;refine call_len_dict hd dd (by rw[<- rel.length];rw[Xe]at z;lia) ?_
 rw[<- rel.length];exact h _ _ (I.tok _)
end
def SJ(i:Ev):Prop:=∀g iv,subscripted i ϊ g iv=operate [g,iv] (getItem g iv)
variable{prog:Da}{E:B->ϋ->Prop}{env:Env}{value:Ev}
def Lv{w:Cl}{s:ϋ}{slice:Ev}{pos:Pos}{T id:String}
  (hl:typeLookup (.type T) "__getitem__"=pure (Z (.builtin id))) (hs:SJ slice)
  (h:wpAny (model prog w) A (eval value env) (λo z=>wpAny (model prog w) A (eval slice env) (λi s₂=>s₂.TypeIs o T/\wpAny (model prog w) A (getItem o i) Q E s₂) E z) E s):
  wpAny (model prog w) A (eval (.Subscript value slice pos) env) Q E s:=by
 refine Subscript_ (SH h (λo z h₁=>SH h₁ (λi s₂ g=>?_) λ_ _ x=>x) λ_ _ x=>x)
 let(hT,g):=g;refine fu ?_;refine fu (Xv hT hl ?_);have fin:wpAny (model prog w) A (subscripted slice ϊ o i) (λr q=>wpAny (model prog w) A (letTemporaryGo value o r >>= λ_=>pure r) Q E q) E s₂:=by
  rw[hs o i];exact wpAny_operating (SH g (λr q K=>fu (wpAny_letTemporaryGo (mX K))) λ_ _ x=>x)
 exact mX (fu fin)
variable{gd:List (J×Obj)}
def y2{σ:St}{s:ϋ}{o:Option V}(I:Inv X gd σ H s)(g:iu H a y o):s.TypeIs (.ref a) "dict":=by
 obtain⟨kvs,k,e,_,_⟩|⟨kvs,k,b,e,_,_,_⟩:=g
 ·let(_,_,vs,_,dd):=i9 I.hok e;exact dd.typeIs
 ·let(_,_,xs,_,dd):=sg I.hok e;exact dd.typeIs
def Oj(td ty:TE):TE:=λσ H Q=>td σ H λx H1=>ty σ H1 λy H2=>∃a v,x=.ref a/\iu H2 a y (Z v)/\Q v H2
def GY(td ty tv:TE):TS:=λD σ H=>tv σ H λv H1=>td σ H1 λx H2=>ty σ H2 λy q=>∃a g,x=.ref a/\xD q a y v g/\D.nx σ g
section
variable{o i:Ev}{pos pos':Pos}{td ty tv:TE}
def gm(hu:X.A.units+1<cLine)(ho:PE X o td)(hi:PE X i ty)(hs:SJ i):PE X (.Subscript o i pos) (Oj td ty):=by
 left;refine Lv PySem.F.slot_dict_getitem.lookup hs (thn (ho gd s σ H _ I h) λu s1 (x,H1,I1,V,q1)=>thn (hi gd s1 σ H1 _ I1 q1) λiv s2 z=>?_)
 let(y,H2,K,P,a,v,ex,g,q2):=z;subst ex;obtain rfl:=V;exact(y2 K g,Fd hu K g P λw' s3 I3 q=>(v,H2,I3,q,q2))
def pL(hu:X.A.units+1<cLine)(ho:PE X o td)(hi:PE X i ty)(hv:PE X value tv)(hs:swapsWith value (Z (.Subscript o i pos')) pos.line X.env=pure ϊ):
  PS X (.Assign [.Subscript o i pos'] value pos) (GY td ty tv):=by
 right;refine wpAny_Assign_Subscript (thn (hv gd s σ H _ I h) λr s1 (v,H1,I1,P,q1)=>thn (ho gd s1 σ H1 _ I1 q1) λu s2 (x,H2,I2,K,V)=>thn (hi gd s2 σ H2 _ I2 V) λiv s3 q=>?_) hs
 let(y,H3,I3,z,a,H4,ex,g,Q):=q;subst ex;obtain rfl:=K;exact Fc hu I3 g z P λs4 I4=>(σ,H4,I4,Q)
end
def yZ{w:Cl}(h:Do)(g:sysModules<h.objs.size):bH P w H (h.push {cls:=.type "dict",data:=.dict #[]}) h.objs.size (.dK []):=
 (FI _,beq_eq_false_iff_ne.mpr (Ne.symm (sT g)),[],.nil,Heap.DictOf.new h)
def Gm:TE:=λ_ H Q=>∀p,H p=Y->Q (.ref p) (upd H p (.dK []))
section
variable{pos:Pos}
def Iw:PE X (.Dict [] [] pos) Gm:=λgd s σ H Q I h =>
 wpAny_Dict_empty (.ref s.heap.objs.size,_,I.laid (λ_ _ q=>f9 _ q) (ot _) (yZ s.heap I.big),U,h _ (I.hok.fresh (ot _)))
end
def z9:List (TE×TE)->St->Hp->(List (V×V)->Hp->Prop)->Prop
 |[],_,H,Q=>Q [] H
 | (tk,tv)::r,σ,H,Q=>tk σ H λx H1=>tv σ H1 λy H2=>z9 r σ H2 λps g=>Q ((x,y)::ps) g
abbrev VV:List (V×V)->List (B×B)->Prop:=Paired λp q=>RelV p.1 q.1/\RelV p.2 q.2
def PPs(X:Cx)(pos:Pos)(keys:List (Option Ev))(values:List Ev)(g:List (TE×TE)):Prop:=
 ∀(gd:List (J×Obj))(s:ϋ)(σ:St)(H:Hp)(Q:List (V×V)->Hp->Prop),Inv X gd σ H s->z9 g σ H Q ->
  Zk X (evalPairs (pairTrees keys values X.env pos)) (λvs s'=>∃ps H',Inv X gd σ H' s'/\VV ps vs/\Q ps H') X.xe s
def Cu{pos:Pos}:PPs X pos [] [] []:=λgd s σ H Q I h=>pairTrees_nil_walk ([],H,I,.nil,h)
variable{tk:TE}{tv:TE}
def lQ{pos:Pos}{k v:Ev}{ks:List (Option Ev)}{vs:List Ev}{g:List (TE×TE)}(hk:PE X k tk)(hv:PE X v tv)(hr:PPs X pos ks vs g):
  PPs X pos (Z k::ks) (v::vs) ((tk,tv)::g):=λgd s σ H Q I h =>
 pairTrees_cons_walk (thn (hk gd s σ H _ I h) λu s1 (x,H1,I1,z,V)=>thn (hv gd s1 σ H1 _ I1 V) λw2 s2 (y,H2,I2,q,P) =>
  thn (hr gd s2 σ H2 _ I2 P) λws s3 (ps,H3,I3,rel,K)=>((x,y)::ps,H3,I3,.cons (z,q) rel,K))
def iK(kvs more:List (Key×V)):List (Key×V):=more.foldl (λacc kv=>putK acc kv.1 kv.2) kvs
def KV.merge:∀{more:List (Key×V)}{rs:List (Key×B)}{kvs:List (Key×V)}{vs:List (Key×B)},KV more rs->KV kvs vs->KV (iK kvs more) (merged vs rs):=by
 intro more rs kvs vs r
 induction r generalizing kvs vs with
 |nil=>intro q;exact q
 |@cons p q ps qs h t z =>
  intro g;have e:KV (putK kvs p.1 p.2) (stored vs q.1 q.2):=by
   have:=g.put p.1 h.2
   rw[<- h.1];exact this
  exact z e
theorem eV:∀(more kvs:List (Key×V)),(iK kvs more).length<=kvs.length+more.length
 |[],kvs=>by show kvs.length<=kvs.length+0;lia
 |p::r,kvs=>by
  have h1:=eV r (putK kvs p.1 p.2);have h2:=gp kvs p.1 p.2;show(iK (putK kvs p.1 p.2) r).length<=_;rw[ri];lia
theorem sF{P:Da}{w:Cl}:∀{kvs:List (Key×V)}{ws:List (B×B)},VV (kvs.map λkv=>(kV kv.1,kv.2)) ws->∃rs,Carries (bf P w) ws rs/\KV kvs rs
 |[],_,r=>by cases r;exact([],True.intro,.nil)
 |p::kvs,_,r=>by
  cases r with
  |@cons a b as bs h t =>
   let(rs,c,q):=sF t;let(b1,b2):=b;exact((p.1,b2)::rs,(mh h.1,U,c),.cons (U,h.2) q)
def Oi(g:List (TE×TE)):TE:=λσ H Q=>∀p,H p=Y->z9 g σ (upd H p (.dK [])) λps H2=>H2 p=Z (.dK [])/\∃kvs:List (Key×V),ps=kvs.map (λkv=>(kV kv.1,kv.2))/\kvs.length<=15/\Q (.ref p) (upd H2 p (.dK (iK [] kvs)))
def Cv{pos:Pos}{keys:List (Option Ev)}{values:List Ev}{g:List (TE×TE)}(h:PPs X pos keys values g)(R4:keys.all (·.isSome)=O)(hl:keys.length=values.length)(h0:keys ≠ [])
  (P:keys.length<=15):PE X (.Dict keys values pos) (Oi g):=by
 intro gd s σ H Q I q;have hn:=I.hok.fresh (ot s.heap.objs.size);have I1:=I.laid (t':=s.toks) (λ_ _ q=>f9 _ q) (ot _) (yZ s.heap I.big)
 refine wpAny_Dict_walk (knd:=bf X.prog X.w) R4 hl h0 P (thn (h gd _ σ _ _ I1 (q _ hn)) λws s2 K=>?_)
 let(ps,H2,V,rel,e,kvs,ep,lk,q2):=K;subst ep;let(rs,c,rk):=sF rel;let(z,hd,ak,r0,dd):=JR V.hok e;cases r0;refine(rs,c,dd,λh' dd' hs=>(.ref s.heap.objs.size,_,?_,U,q2))
 have hz:(iK [] kvs).length<=pY:=by
  have h1:=eV kvs [];rw[Xb]at h1;rw[Xe];lia
 have he:∃q,h'.get? s.heap.objs.size=Z q:=let(q,_,_,hq,_):=dd';(q,hq)
 exact xj V (by rw[e];exact True.intro) hs he (si hz hd (rk.merge .nil) dd')
structure M2(X:Cx)(o:Ev)(m:Str)(apos:Pos)(e f:Ev)(aW:Pos):Prop where
 base:attributeBase o m X.env (eval o X.env)=eval o X.env
 few:((backTo aW (pq [e,f] X.env)).all (λx=>!x.1)&&(backToKw aW (keywordEach [] X.env)).all (λx=>x.1.isSome)
  && decide (([e,f]:List Ev).length+([]:List Keyword).length+(if([]:List Keyword).isEmpty then 0 else 1)<30))=O
 line:(apos.endLine==aW.line)=O
 trees:backTo aW (pq [e,f] X.env)=[(ϊ,eval e X.env),(ϊ,eval f X.env)]
def IsD(H:Hp)(a:J):Prop:=(∃kvs,Rd H a (.dK kvs))\/∃kvs,Rd H a (.dT kvs)
def RM{σ:St}{s:ϋ}(I:Inv X gd σ H s)(d:IsD H a):
  s.TypeIs (.ref a) "dict" /\ (∀b,B.ref a=.ref b->∃ob,s.heap.get? b=Z ob/\ob.dict=Y)/\(a==sysModules)=false:=by
 obtain⟨kvs,e⟩|⟨kvs,e⟩:=d
 ·let(_,hd,vs,_,dd):=i9 I.hok e;refine(dd.typeIs,λb q=>?_,hd)
  cases q;let(ob,_,_,h1,h2,_):=dd;exact(ob,h1,h2.2.1)
 ·let(_,hd,xs,_,dd):=sg I.hok e;refine(dd.typeIs,λb q=>?_,hd)
  cases q;let(ob,_,_,h1,h2,_):=dd;exact(ob,h1,h2.2.1)
section
variable{σ:St}{s:ϋ}{d:V}{r:B}{o:Option V}
def Sb(V:A.units+1<cLine)(I:Inv X gd σ H s)(g:iu H a y o)(P:RelV y u)(rd:RelV d r)(h:∀K s',Inv X gd σ H s'->RelV (o.getD d) K->Q K s'):
  wpAny (model X.prog X.w) A (call (.builtin "dict.get") [.ref a,u,r]) Q E s:=by
 obtain⟨kvs,k,e,q,l⟩|⟨kvs,k,b,e,q,eb,l⟩:=g
 ·subst q;let(z,hd,vs,rel,dd):=i9 I.hok e;refine call_meetsIn PySem.F.slot_dict_get dd.typeIs PySem.F.entry_dict_get (PySem.F.args_dict_get_3 _ _ _) (meets_dict_get_default (bf X.prog X.w) a (mh P) hd r) (_,dd.mapOf,h _ _ (I.tok _) ?_);rw[l];exact(rel.val k).getD rd
 ·subst q
  cases(P)
  let(z,hd,xs,rel,dd):=sg I.hok e;refine call_meetsIn PySem.F.slot_dict_get dd.typeIs PySem.F.entry_dict_get (PySem.F.args_dict_get_3 _ _ _) (meetsH_dict_get_default (tupleKind (bf X.prog X.w)) a b hd r) (tupleKind_room_in1 V,k,xs,kS I.hok eb,dd,h _ _ (I.tok _) ?_);rw[l];exact(rel.val k).getD rd
end
def Gn(td ty tx:TE):TE:=λσ H Q=>td σ H λx H1=>∃a,x=.ref a/\IsD H1 a/\ty σ H1 λy H2=>tx σ H2 λz g=>∃o,iu g a y o/\Q (o.getD z) g
section
variable{o e f:Ev}{apos aW:Pos}{td ty tx:TE}
def Iy(hu:X.A.units+1<cLine)(ho:PE X o td)(he:PE X e ty)(hf:PE X f tx)(m:M2 X o "get" apos e f aW):PE X (.Call (.Attribute o "get" apos) [e,f] [] aW) (Gn td ty tx):=by
 left;refine wpAny_Call_method m.base m.few m.line PySem.F.plainAttrs_dict PySem.F.slot_dict_get PySem.F.type_dict_get (thn (ho gd s σ H _ I h) λu s1 K=>?_)
 let(x,H1,P,rx,a,ex,d,q1):=K;subst ex;obtain rfl:=rx;let(t1,t2,_):=RM P d;refine(t1,t2,?_);rw[m.trees];refine Calls.callWith_builtin U (Calls.evalArgs_plain (Calls.spliced_cons (thn (he gd s1 σ H1 _ P q1) λiv s2 (y,H2,I2,ry,q2) =>
  Calls.spliced_cons (thn (hf gd s2 σ H2 _ I2 q2) λfv s3 (z,H3,I3,V,ov,g,q3)=>Calls.spliced_nil ?_))))
 exact Sb hu I3 g ry V λw' s4 I4 q=>(_,H3,I4,q,q3)
end
section
def Fv:b8 X (.builtin "len") (λxs H Q=>∃a kvs,xs=[V.ref a]/\H a=Z (.dK kvs)/\Q (.int kvs.length) H):=by
 intro gd s σ H xs us Q I r h;let(a,kvs,U,ha,q):=h;let(u,U,ru):=vals1 r;cases ru;exact Vc I (.inl ha) λt s' g=>(.int kvs.length,H,g,(t,U),q)
end
end L2
set_option maxHeartbeats 4000000
namespace L2
open PySem PySem.Spec PyProof.Rows
def OC{h:Do}{a:Nat}{o:Obj}(e:h.get? a=Z o):@LT.lt Nat _ a h.objs.size:=kn e
def Dh{h:Do}{a:Nat}{v:Option B}(e:h.IsCell a v):@LT.lt Nat _ a h.objs.size:=e.lt
def l9{a b:Nat}(h:a<b):@Ne J a b:=sT h
def Ut{a b:Nat}(h:b<a):@Ne J a b:=E3 h
variable{env:Env}
def ze{body:Str×NameKind->List (Str×J)->Sem (ForInStep (List (Str×J)))}
  (V:∀n k c,body (n,k) c=if(k==NameKind.free)=O then(cellOf env n >>= λa=>pure (.yield ((n,a)::c)))else pure (.yield c))
  (l:List (Str×NameKind)):∀(cs:List (Str×J)),(∀p∈l,p.2=NameKind.free->∃c,env.cells.lookup p.1=Z c) ->
   ∃cl,forIn l cs body=pure cl/\(∀x c,cl.lookup x=Z c->env.cells.lookup x=Z c\/cs.lookup x=Z c)/\(∀x,(x,NameKind.free)∈l->∃c,cl.lookup x=Z c)/\∀x c,cs.lookup x=Z c->∃q,cl.lookup x=Z q:=by
 induction l with
 |nil=>exact λcs _=>(cs,U,λ_ _ h=>.inr h,λ_ h=>(nomatch h),λ_ c h=>(c,h))
 |cons p r P =>
  let(n,k):=p;intro cs h;have hr:=λp hp=>h p (jQ _ hp)
  rw[XS,V];by_cases hk:(k==NameKind.free)=O
  ·rw[if_pos hk];have K:=(hk:)
   let(c,Q):=h (n,k) lj K;have e1:cellOf env n=pure c:=by unfold cellOf;rw[Q]
   rw[e1];let(cl,e,h1,h2,h3):=P ((n,c)::cs) hr;refine(cl,e,λx q hx=>?_,λx hx=>?_,λx q hx=>?_)
   ·obtain z|z:=h1 x q hx
    ·exact .inl z
    ·by_cases g:(x==n)=O
     ·have e3:=(g:)
      subst e3;rw[wh,g]at z;cases z;exact .inl Q
     ·rw[wh,Yl.mpr g]at z;exact .inr z
   ·obtain z|z:=pj.mp hx
    ·have g:x=n:=congrArg Prod.fst z;exact h3 x c (by rw[wh,g,beq_self_eq_true])
    ·exact h2 x z
   ·by_cases g:(x==n)=O
    ·exact h3 x c (by rw[wh,g])
    ·exact h3 x q (by rw[wh,Yl.mpr g];exact hx)
  ·rw[if_neg hk];let(cl,e,h1,h2,h3):=P cs hr;refine(cl,e,h1,λx hx=>?_,h3)
   obtain z|z:=pj.mp hx
   ·cases z;exact absurd U hk
   ·exact h2 x z
variable{scope:Scope}
def BE(h:∀p∈scope.names,p.2=NameKind.free->∃c,env.cells.lookup p.1=Z c):
  ∃cl:List (Str×J),closureFor scope env=pure cl/\(∀x c,cl.lookup x=Z c->env.cells.lookup x=Z c)/\∀x,(x,NameKind.free)∈scope.names->∃c,cl.lookup x=Z c:=by
 let(cl,e,h1,h2,_):=ze (body:=λx c=>if(x.2==NameKind.free)=O then(cellOf env x.1 >>= λa=>pure (.yield ((x.1,a)::c)))else pure (.yield c)) (λ_ _ _=>rfl) scope.names [] h
 refine(cl,?_,λx c hx=>(h1 x c hx).elim id λz=>by simp at z,h2)
 have g:closureFor scope env=(forIn scope.names ([]) (λx c=>if(x.2==NameKind.free)=O then(cellOf env x.1 >>= λa=>pure (.yield ((x.1,a)::c)))else pure (.yield c)) >>= λr=>pure r):=by
  simp only[closureFor]
 rw[g,e];rfl
theorem gH{env:Env}:∀{names:List (Str×NameKind)}{x:Str}{k:NameKind},
  (names.map λ(n,k)=>if(k==NameKind.free&&env.scope.kind == .function&&env.kindOf n==Z .cell)then(n,NameKind.cell)else(n,k)).lookup x=Z k ->
   names.lookup x=Z k\/(names.lookup x=Z .free/\k=.cell)
 |[],_,_,h=>by simp at h
 | (n,k0)::r,x,k,h=>by
  have q:=@gH env r x k
  replace h:Xj x ((if(k0==NameKind.free&&env.scope.kind == .function&&env.kindOf n==Z .cell)=O then(n,NameKind.cell)else(n,k0)) ::(r.map λ(n,k)=>if(k==NameKind.free&&env.scope.kind == .function&&env.kindOf n==Z .cell)then(n,NameKind.cell)else(n,k)))=Z k:=h
  cases hx:x==n with
  |true =>
   by_cases g:(k0==NameKind.free&&env.scope.kind == .function&&env.kindOf n==Z .cell)=O
   ·rw[if_pos g]at h;simp only[wh,hx]at h;cases h
    have:=by
     simp only[u6]at g;simpa using g.1.1
    subst this;exact .inr (by simp only[wh,hx],U)
   ·rw[if_neg g]at h;simp only[wh,hx]at h;exact .inl (by simp only[wh,hx];exact h)
  |false =>
   have h':(r.map λ(n,k)=>if(k==NameKind.free&&env.scope.kind == .function&&env.kindOf n==Z .cell)then(n,NameKind.cell)else(n,k)).lookup x=Z k:=by
    by_cases g:(k0==NameKind.free&&env.scope.kind == .function&&env.kindOf n==Z .cell)=O
    ·rw[if_pos g]at h;simpa only[wh,hx]using h
    ·rw[if_neg g]at h;simpa only[wh,hx]using h
   obtain z|z:=q h'
   ·exact .inl (by simp only[wh,hx];exact z)
   ·exact .inr (by simp only[wh,hx];exact z)
theorem lL{env:Env}:∀{names:List (Str×NameKind)}{x:Str},names.lookup x=Z .free ->
  (names.map λ(n,k)=>if(k==NameKind.free&&env.scope.kind == .function&&env.kindOf n==Z .cell)then(n,NameKind.cell)else(n,k)).lookup x=Z .free \/
  (names.map λ(n,k)=>if(k==NameKind.free&&env.scope.kind == .function&&env.kindOf n==Z .cell)then(n,NameKind.cell)else(n,k)).lookup x=Z .cell
 |[],_,h=>by simp at h
 | (n,k0)::r,x,h=>by
  have q:=@lL env r x;show Xj x ((if(k0==NameKind.free&&env.scope.kind == .function&&env.kindOf n==Z .cell)=O then(n,NameKind.cell)else(n,k0))::_)=_\/Xj x ((if(k0==NameKind.free&&env.scope.kind == .function&&env.kindOf n==Z .cell)=O then(n,NameKind.cell)else(n,k0))::_)=_
  cases hx:x==n with
  |true =>
   simp only[wh,hx]at h;cases h;by_cases g:(NameKind.free==NameKind.free&&env.scope.kind == .function&&env.kindOf n==Z .cell)=O
   ·rw[if_pos g];simp only[wh,hx];exact .inr trivial
   ·rw[if_neg g];simp only[wh,hx];exact .inl trivial
  |false =>
   simp only[wh,hx]at h;by_cases g:(k0==NameKind.free&&env.scope.kind == .function&&env.kindOf n==Z .cell)=O
   ·rw[if_pos g];simp only[wh,hx];exact q h
   ·rw[if_neg g];simp only[wh,hx];exact q h
inductive m6(X:Cx)(sc:Scope):List Str->List (Option Nat)->Prop
 |nil:m6 X sc [] []
 |own{x:Str}{N:List Str}{c:List (Option Nat)}:sc.names.lookup x=Z .local->m6 X sc N c->m6 X sc (x::N) (Y::c)
 |got{x:Str}{i:Nat}{N:List Str}{c:List (Option Nat)}:X.N[i]?=Z x->sc.names.lookup x=Z .free->(X.env.kindOf x=Z .cell\/X.env.kindOf x=Z .free)->m6 X sc N c->m6 X sc (x::N) (Z i::c)
def mP(c:List (Option Nat))(σ:St):St:=c.map λo=>o.bind λ(i:Nat)=>(σ[i]?).join
variable{X:Cx}{sc:Scope}{N:List Str}
def m6.len{c:List (Option Nat)}{σ:St}(h:m6 X sc N c):(mP c σ).length=N.length:=by
 unfold mP;rw[dN]
 induction h with
 |nil=>rfl
 |own _ _ g=>simp[g]
 |got _ _ _ _ g=>simp[g]
theorem m6.at{X:Cx}{sc:Scope}{N:List Str}{c:List (Option Nat)}{σ:St}(h:m6 X sc N c):∀{j:Nat}{x:Str}{v:V},N[j]?=Z x->(mP c σ)[j]?=Z (Z v) ->
  ∃i:Nat,X.N[i]?=Z x/\σ[i]?=Z (Z v)/\sc.names.lookup x=Z .free/\(X.env.kindOf x=Z .cell\/X.env.kindOf x=Z .free):=by
 induction h with
 |nil=>intro j x v h1;simp at h1
 |own _ _ z =>
  intro j x v h1 h2;cases j with
  |zero=>simp[mP]at h2
  |succ j=>exact z (h1:) (by simpa [mP]using h2)
 |@got y i N c g1 g2 g3 _ z =>
  intro j x v h1 h2;cases j with
  |zero =>
   have e:=(h1:)
   subst e;refine(i,g1,?_,g2,g3);have g:=by simpa [mP]using h2
   cases q:σ[i]? with
   |none=>rw[q]at g;cases g
   |some o =>
    rw[q]at g
    have:o=Z v:=g
    rw[this]
  |succ j=>exact z (h1:) (by simpa [mP]using h2)
def blk(X:Cx)(N':List Str)(sc:Scope)(cl:List (Str×J))(C:J)(s₂:ϋ)(H₂:Hp)(fp:List J):Cx:=
 {X with N:=N',s₀:=s₂,bd:=H₂,env:=compEnvC sc cl C X.env,outer:=X.stack,ex:=fp,fn:=λ_=>ϊ,pn:=[],xe:=λ_ _=>False}
def PTs(X:Cx)(ifs:List Ev)(t:TT):Prop:=
 ∀(gd:List (J×Obj))(s:ϋ)(σ:St)(H:Hp)(Q:Bool->Hp->Prop),Inv X gd σ H s->t σ H Q ->
  Zk X (forIn ifs O λc r=>if r=O then do let ok <- isTrue c X.env (eval c X.env);pure (ForInStep.yield ok)else pure (ForInStep.yield r)) (TP X gd σ Q) X.xe s
def B1:TT:=λ_ H Q=>Q O H
def Cr:PTs X [] B1:=λ_ _ _ H _ I h=>wpAny_tests_nil (H,I,h)
def Cq{c:Ev}{t:TT}(h:PT X c t):PTs X [c] t:=λgd s σ H Q I q=>wpAny_tests_one (h gd s σ H Q I q)
def O9(g:TG)(tst:TT)(te:TE)(P:St)(Q:VK)(Zh:It)(H1:Hp):Prop:=
 ∃W:Nat->Nat->List V->St->Hp->Prop,(∃m,W 0 m [] P H1)/\∀i m ys z H',W i m ys z H' ->
  (Zh.stop i H'/\ys.length<=pY/\∀D,H' D=Y->Q (.ref D) (upd H' D (.lst ys))) \/
  (Zh.go i H'/\ys.length<pY/\∃N:List V->St->Hp->Prop,(∀K q H2,N K q H2->∃m',m'<m/\W (i+1) m' K q H2)/\∀x H2,Zh.yld i H' x H2->g x z H2 λq H3=>tst q H3 λb H4 =>
   if b=O then te q H4 λy H5=>N (ys++[y]) q H5 else N ys q H4)
def uH(cap:List (Option Nat))(wi:TI)(g:TG)(tst:TT)(te:TE):TE:=λσ H Q=>wi σ H (O9 g tst te (mP cap σ) Q)
variable{prog:Da}{A:Db}{R:Result->ϋ->Prop}{elt:Ev}{iter:Ev}{ifs:List Ev}
def Fh{w:Cl}{s:ϋ}{target:Ev}{pos:Pos}{it acc:B}(I:Nat->ϋ->Prop)
  (turn:∀n s,I n s->wpAny (model prog w) A (pyNext it) (λr z=>match r with
   |none=>R (.ok .next) z
   |some v=>wpAny (model prog w) A (letOwnedTupleGo target it v) (λ_ q=>wpAny (model prog w) A (assign target env v) (λ_ s₂ =>
     wpAny (model prog w) A (forIn ifs O λc r=>if r=O then do let ok <- isTrue c env (eval c env);pure (ForInStep.yield ok)else pure (ForInStep.yield r)) (λok g =>
      if ok=O then wpAny (model prog w) A (eval elt env) (λx P =>
       wpAny (model prog w) A (call (.builtin "list.append") [acc,x]) (λ_ K=>∃m,m<n/\I m K) (λ_ _=>False) P) (λ_ _=>False) g
      else ∃m,m<n/\I m g) (λ_ _=>False) s₂) (λ_ _=>False) q) (λ_ _=>False) z) (λ_ _=>False) s)
  (n:Nat) (h:I n s):
  codeAny (model prog w) A (.compLoop (.ListComp elt [(target,iter,ifs,0)] scope pos) 0 it acc env) R s:=by
 refine codeAny_loop U I (λn s hI=>?_) n h
 show wpAny _ A ((compTurn (.ListComp elt [(target,iter,ifs,0)] scope pos) 0 it acc env).onRaise (λx=>do noteFrame x env;theTreesLotGoes x)) _ _ s
 refine wpAny_noted ?_;rw[compTurn_list];refine fu (wpAny_standAt (fu (SH (turn n s hI) (λr z h₁=>?_) λ_ _ h'=>h'.elim)))
 cases r with
 |none=>exact mX h₁
 |some v =>
  refine fu (SH h₁ (λ_ q V=>(fu (SH V (λ_ s₂ ay=>fu (SH ay (λok g Q=>?_) λ_ _ h'=>h'.elim)) λ_ _ h'=>h'.elim))) λ_ _ h'=>h'.elim)
  cases ok with
  |false=>exact mX (U,Q)
  |true =>
   exact fu (fu (SH Q (λx P ar=>fu (SH ar (λ_ K ak=>mX (mX (U,ak))) λ_ _ h'=>h'.elim)) λ_ _ h'=>h'.elim))
variable{gd:List (J×Obj)}{H:Hp}{tg:Ev}{N':List Str}{cap:List (Option Nat)}{tst:TT}{te:TE}
def zd{σ:St}{s:ϋ}{Q:VK}{p pos:Pos}{wi:TI}{g:TG}{use:Option (B->Sem Unit)}{Q':B->ϋ->Prop}
  (hc:X.calm=O) (hi:PI X tg iter wi) (hV:sc.kind=.function) (hW:∀y∈sc.names,y.2 ≠ .cell) (iM:∀y∈sc.names,y.2=.local->sc.names.lookup y.1=Z .local)
  (i8:∀y∈sc.names,y.2=.free->X.env.kindOf y.1=Z .cell\/X.env.kindOf y.1=Z .free) (uq:m6 X sc N' cap)
  (P:∀cl C s₂ H₂ fp,PG (blk X N' sc cl C s₂ H₂ fp) tg g/\PTs (blk X N' sc cl C s₂ H₂ fp) ifs tst/\PE (blk X N' sc cl C s₂ H₂ fp) elt te)
  (I:Inv X gd σ H s) (h:uH cap wi g tst te σ H Q)
  (fin:∀D C m H' s',Inv X gd σ H' s'->sV X gd H' C->s'.heap.Ns C m->Q (.ref D) H'->compPost (model X.prog X.w) X.A X.xe use Q' (.ref D) C (.ok .next) s')
  (hs:∀x,foldedSetIterable iter X.env x=pure x):
  Zk X (comprehension (.ListComp elt [(tg,iter,ifs,0)] sc pos) sc X.env p (newList []) ϊ (eval iter X.env) use) Q' X.xe s:=by
 let(cl,U1,yS,U2):=BE (scope:=sc) (env:=X.env) λq hq e=>I.ok.has q.1 (i8 q hq e)
 refine wpAny_comprehension_free U hs U1 hV iM (thn (hi gd s σ H _ I h) λv s1 h1=>thn h1 λdg s2 h2=>?_)
 let(it,fp,tn,Zh,H2,e,I2,T,aR,f2,W,(m0,w0),turn):=h2;subst e;refine Xa (wpAny_newFunctionEnv hW (by intro y hy;simp at hy) (λh₁ Nx Jy=>?_) hV)
 dsimp only at Nx Jy ⊢
 generalize bh:s2.heap.push {cls:=.type "list",dict:=Y,data:=.seq ([]:List B).toArray}=HP at Nx Jy ⊢
 have hC:HP.objs.size=s2.heap.objs.size+1:=by rw[<- bh,BS]
 obtain⟨D,ak⟩:∃D:Nat,s2.heap.objs.size=D:=(_,U)
 obtain⟨C,dc⟩:∃C:Nat,HP.objs.size=C:=(_,U)
 rw[ak]at hC;rw[dc]at hC Nx Jy ⊢;rw[ak];have DC:D<C:=hC▸W7 D;have aW:∀{b:Nat}{o:Obj},s2.heap.get? b=Z o->b<D:=λe=>ak▸OC e
 have bg:∀{b:Nat}{o:Obj},s2.heap.get? b=Z o->b<C:=λe=>XG (aW e) DC
 have a0:@Ne J D C:=l9 DC;have old:∀b o,s2.heap.get? b=Z o->h₁.get? b=Z o:=λb o e =>
  Jy.extBut b o (l9 (bg e)) (f9 _ (bh▸f9 _ e))
 have gL:h₁.get? D=Z (([]:List B).toArray^^^0):=
  Jy.extBut _ _ a0 (f9 _ (by rw[<- bh,<- ak];exact px _ U))
 have ck:(blk X N' sc cl C s2 H2 fp).Ok:=by
  refine(I.ok.mod,hV,I.ok.glob,I.ok.blt,(by show s2.heap.objs.size<=C;rw[ak];exact vr DC),λx y c h1 h2=>I.ok.inj x y c (yS x c h1) (yS y c h2),λx hx=>?_,λx c hx=>(nomatch hx),I.ok.hd,I.ok.frames,.inl U,λb P=>?_,
   λb o e=>I2.bs b o e,ui I2.ok.bsz I2.sz,λb o e P=>?_,λb P=>?_,I2.stack,I2.jV)
  ·have c1:sc.names.lookup x=Z .free:=by
    obtain hx|hx:=hx
    ·obtain z|z:=gH hx
     ·exact absurd U (hW _ (PySem.mem_of_lookup z))
     ·exact z.1
    ·obtain z|z:=gH hx
     ·exact z
     ·exact z.1
   exact U2 x (PySem.mem_of_lookup c1)
  ·let(o,ho,_):=T.obj _ _ aR b P;refine(?_,λx c e=>(f2 b P).2.2.2.2.1 x c (yS x c e))
   show @Ne J b C;exact l9 (bg ho)
  ·let(_,_,_,z,_):=f2 b P;obtain z|z:=z
   ·exact I2.ok.AZ b o e z
   ·exact absurd (sS (OC (show X.base.get? b=Z o from e)) (ui I2.ok.bsz z)) (Kt _)
  ·intro c7;obtain z|z:=pj.mp (I2.nq b c7)
   ·exact(f2 b P).2.1 z
   ·exact(f2 b P).2.2.1 z
 have nD:H2 D=none:=I2.hok.fresh (by rw[ak];exact ot _)
 have cH:=P cl C s2 H2 fp
 generalize V:blk X N' sc cl C s2 H2 fp=XB at ck cH
 have eP:XB.prog=X.prog:=by rw[<- V];rfl
 have eW:XB.w=X.w:=by rw[<- V];rfl
 have eK:XB.K=X.K:=by rw[<- V];rfl
 have eA:XB.A=X.A:=by rw[<- V];rfl
 have eE:XB.env=compEnvC sc cl C X.env:=by rw[<- V];rfl
 have eX:XB.xe=λ_ _=>False:=by rw[<- V];rfl
 have a3:XB.fs=frs X.stack:=by rw[<- V];rfl
 have bI:XB.ex=fp:=by rw[<- V];rfl
 have eS:XB.s₀=s2:=by rw[<- V];rfl
 have eH:XB.bd=H2:=by rw[<- V];rfl
 have bz:XB.pn=[]:=by rw[<- V];rfl
 have cQ:XB.calm=true:=by rw[<- V];exact hc
 have eN:XB.N=N':=by rw[<- V];rfl
 have eL:XB.env.locals=C:=by rw[eE];rfl
 have aM:XB.env.cells=cl:=by rw[eE];rfl
 have Ws:∀(x:Str)(c:Nat),cl.lookup x=Z c->c<D:=λx c e=>by
  let(v,z):=I2.cell x c (yS x c e);exact ak▸Dh z
 have cS:∀(b:Nat),D<=b->b ∉ XB.fs:=λb P z=>by
  rw[a3]at z;let(_,o,ho,_):=I2.stack.mem z;exact Kt _ (sS (aW ho) P)
 have bt:∀(b:Nat),b∈fp->b<D:=λb P=>by
  let(o,ho,_):=T.obj _ _ aR b P;exact aW ho
 have loop:∀s3:ϋ,s3={s2 with heap:=h₁,toks:=s2.toks+([]:List (Str×B)).length} ->
   codeAny (model X.prog X.w) X.A (.compLoop (.ListComp elt [(tg,iter,ifs,0)] sc pos) 0 (.ref it) (.ref D) (compEnvC sc cl C X.env)) (compPost (model X.prog X.w) X.A X.xe use Q' (.ref D) C) s3:=by
  rintro s3 rfl
  refine Fh (λn s'=>∃i ys cg H' its k,Inv XB [] cg H' s'/\tn i s'.heap/\(∀b∈fp,H' b=Y)/\H' D=Y/\s'.heap.get? D=Z ((its:List B).toArray^^^k)/\Vals ys its/\W i n ys cg H') ?_ m0
   (0,[],mP cap σ,H2,[],0,?_,T.keep _ _ _ aR λb P o e=>old b o e,λb P=>(f2 b P).1,nD,gL,.nil,w0)
  ·rintro n s4 ⟨i,ys,ay,H4,its,k,I4,cj,cL,d4,o4,v4,w4⟩
   have br:∀{H':Hp}{pl:List (J×Obj)},(∀b∈fp,H' b=Y)->(∀q∈pl,q.1 ∉ fp)->∀b∈fp,sV XB pl H' b:=λ{H' pl} hn c3 b P=>by
    refine(hn b P,?_,?_,.inl (by rw[bI];exact P),λx c e=>?_,λq hq=>?_)
    ·rw[eL];exact l9 (XG (bt b P) DC)
    ·rw[a3];intro z;obtain z|z:=pj.mp (I2.nq b z)
     ·exact(f2 b P).2.1 z
     ·exact(f2 b P).2.2.1 z
    ·rw[aM]at e;exact(f2 b P).2.2.2.2.1 x c (yS x c e)
    ·rw[bz]at hq;intro z;exact c3 q (hq:) (z▸P)
   have pD:∀q ∈ [(Prod.mk D ((its.toArray^^^k):Obj))],q.1 ∉ fp:=λq hq=>by
    have e:q=_:=fy.mp hq;subst e;intro z;exact Kt _ (bt _ z)
   have bK:Inv XB [(D,(its.toArray^^^k))] ay H4 s4:=I4.lR λq hq=>by
    have e:q=_:=fy.mp hq;subst e;refine(o4,d4,?_,cS _ (ot _),λv=>by simp)
    rw[eL];exact a0
   have WS:=bK;rw[<- eA,<- eP,<- eW];obtain⟨stop,hz,qn⟩|⟨go,hz,N,hN,step⟩:=turn i n ys ay H4 w4
   ·rw[<- eP,<- eW,<- eK]at T;refine SH (T.done XB U U U cQ i _ s4 ay H4 (λ_ _=>False) bK (br cL pD) cj stop) (λr s5 (hr,I5)=>?_) λ_ _ z=>z
    subst hr;rw[eP,eW,eA];let(o5,n5,_):=I5.pin (D,(its.toArray^^^k)) (qg _ (fy.mpr U));have u5:Un (frs X.stack) fp H2 H4 s2.heap s5.heap:=by
     have z:=I5.base;rw[a3,bI,eH,eS]at z;exact z
    have c0:∀b o,s2.heap.get? b=Z o->@Ne J b D:=λb o e=>l9 (aW e)
    have ne5:∀b u,H4 b=Z u->b≠D:=λb u e z=>by rw[z,d4]at e;cases e
    have c4:HOk X.prog X.w H4 s5.heap:=by
     have z:=I5.hok;rw[eP,eW]at z;exact z
    have Wn:=fin D C;let(mC,cK,_):=id I5.loc;rw[eL]at cK;have IX:Inv X gd σ (upd H4 D (.lst ys)) s5:=by
     refine I2.zk (s':=s5) (ch:=fp) ?_ (u5.keep,u5.slot,λb o e n hx=>?_,u5.there,λb xs e=>?_,λb o u e=>?_,λb ps e=>?_) ?_ I5.bare λb P=>((f2 b P).2.2.2.1,(f2 b P).2.1,(f2 b P).2.2.2.2.1,(f2 b P).2.2.2.2.2)
     ·have z:=I5.os;rw[eS]at z;exact z
     ·rw[ao (c0 b o e)];exact u5.free b o e n hx
     ·have z:=u5.lG b xs e;rw[ao (ne5 b _ z)];exact z
     ·have z:=u5.jl b o u e;rw[ao (ne5 b _ z)];exact z
     ·let(more,z):=u5.lH b ps e;exact(more,by rw[ao (ne5 b _ z)];exact z)
     ·intro a o e;by_cases ha:a=D
      ·subst ha;rw[au]at e;cases e;exact(hz,its,k,v4,o5)
      ·rw[ao ha]at e;exact(c4 a o e).dq (λ_ _ _ q=>q) (λb q=>by rw[ao (ne5 b _ q)];exact q) λb xs q=>by rw[ao (ne5 b _ q)];exact q
    refine Wn mC _ s5 IX ?_ cK (qn D d4);have dd:H4 C=none:=by
     have z:=I5.free;rw[eL]at z;exact z
    refine(by rw[ao (Ne.symm a0)];exact dd,?_,?_,.inr ?_,λx c e=>?_,λq hq=>?_)
    ·have:@LT.lt Nat _ X.env.locals s2.heap.objs.size:=I2.lt
     exact Ut (XG (ak▸this) DC)
    ·exact I2.Us (by rw[ak];exact vr DC)
    ·exact ui I2.sz (by rw[ak];exact vr DC)
    ·let(v,z):=I2.cell x c e;exact l9 (XG (ak▸Dh z) DC)
    ·exact l9 (bg (I2.pin q hq).1)
   ·have T':=T;rw[<- eP,<- eW,<- eK]at T';refine SH (T'.item XB U U U cQ i _ s4 ay H4 (λ_ _=>False) bK (br cL pD) cj go) (λr s5 (u,hr,h5)=>?_) λ_ _ z=>z
    subst hr;refine thn h5 λ_ s6 ar=>?_
    let(x,H6,I6,r6,y6,bb,de):=ar;have df:=I6.pinned (br de pD) (T.obj _ _ bb);let(c5,c2,c6):=cH;rw[<- eE];have cz:=c5 _ s6 ay H6 x u _ df r6 (step x H6 y6);rw[eX]at cz;refine thn cz λ_ s7 ar=>?_
    let(aN,H7,I7,q7):=ar;have ct:=c2 _ s7 aN H7 _ I7 q7;rw[eX]at ct;refine thn ct λb s8 ar=>?_
    let(H8,I8,q8):=ar;have back:∀{b0:St}{H9:Hp}{s9:ϋ},Inv XB ([(D,(its.toArray^^^k))]++qY fp s6.heap) b0 H9 s9->tn (i+1) s9.heap/\(∀b∈fp,H9 b=Y)/\H9 D=Y/\s9.heap.get? D=Z (its.toArray^^^k):=λ{b0 H9 s9} I9=>by
     have z:=I9.pin (D,(its.toArray^^^k)) (qg _ (qp _ (fy.mpr U)));refine(T.keep _ _ _ bb λb P o e=>(I9.pin (b,o) (qg _ (qg _ (fT P e)))).1,λb P=>?_,z.2.1,z.1)
     let(o,e,_):=T.obj _ _ bb b P;exact(I9.pin (b,o) (qg _ (qg _ (fT P e)))).2.1
    cases b with
    |false =>
     rw[if_neg sU]at q8 ⊢;let(m',hm,w8):=hN _ _ _ q8;let(t1,t2,t3,t4):=back I8;exact(m',hm,i+1,ys,aN,H8,its,k,I8.lR (λq hq=>nomatch hq),t1,t2,t3,t4,v4,w8)
    |true =>
     rw[if_pos rfl]at q8 ⊢;have cG:=c6 _ s8 aN H8 _ I8 q8;rw[eX]at cG;refine thn cG λyv s9 ar=>?_
     let(y,H9,I9,r9,n9):=ar;let(m',hm,w9):=hN _ _ _ n9;let(t1,t2,t3,t4):=back I9;have hsz:its.toArray.size<=pY:=by
      have e:=v4.length;have e2:its.toArray.size=its.length:=by simp
      omega
     refine append_at (hsz:=hsz) t4 λh' cx da=>?_
     ·refine(m',hm,i+1,ys++[y],aN,H9,its++[yv],k+1,?_,T.keep _ _ _ t1 λb P o e=>cx.extBut b o (l9 (bt b P)) e,t2,t3,?_,v4.append (.cons r9 .nil),w9)
      ·refine(I9.lR (pins':=[]) (λq hq=>nomatch hq)).turned (t':=s9.toks) (it:=D) (λb o P e=>cx.extBut b o P e) t3 ?_ (.inr ?_) (λx c e=>?_) λq hq=>?_
       ·rw[eL];exact a0
       ·rw[eS,ak];exact ot _
       ·rw[aM]at e;exact l9 (Ws x c e)
       ·rw[bz]at hq;exact nomatch hq
      ·rw[da];simp
  ·
   refine(ck,by rw[eS],I2.bare,by rw[a3,bI,eH,eS];exact Un.kept old,(_,by rw[eL];exact Nx,λj x v h1 h2 h3=>?_),λx c e=>?_,?_,λx c e=>?_,λq hq=>?_,by rw[eP,eW];exact I2.hok.kept old,by rw[eN];exact uq.len)
   ·rw[eN]at h1;let(i,g1,g2,g3,g4):=uq.at h1 h2;let(m,hn,hl):=I2.loc;have hv:Vis X.env.scope x:=by
     obtain z|z:=g4
     ·exact .inr (.inl z)
     ·exact .inr (.inr z)
    let(u,r,l):=hl i x v g1 g2 hv;refine(u,r,.inr (?_,?_))
    ·rw[eE];exact(lL g3).symm
    ·obtain⟨hk,_⟩|⟨_,c,e,z⟩:=l
     ·obtain y|y:=g4
      ·rw[y]at hk;cases hk
      ·rw[y]at hk;cases hk
     ·let(c',e'):=U2 x (PySem.mem_of_lookup g3)
      have:=yS x c' e'
      rw[e]at this;cases this;let(o,ho,hd):=z;exact(c,by rw[aM];exact e',o,old c o ho,hd)
   ·rw[aM]at e;let(v,o,ho,hd):=I2.cell x c (yS x c e);exact(v,o,old c o ho,hd)
   ·rw[eL];exact I2.hok.fresh (by rw[ak];exact vr DC)
   ·rw[aM]at e;exact I2.dM x c (yS x c e)
   ·rw[bz]at hq;exact nomatch hq
 exact codeAny_compStart_list (loop _ U) (T.self X.A 0 _ _ _ (T.keep _ _ _ aR λb P o e=>old b o e) (loop _ U))
def CZ(h:(sc.names.all λy=>y.2 != .free ||(X.env.kindOf y.1==Z .cell||X.env.kindOf y.1==Z .free))=O):
  ∀y∈sc.names,y.2=.free->X.env.kindOf y.1=Z .cell\/X.env.kindOf y.1=Z .free:=λy g e=>by
 have z:=WU.mp h y g;rw[e]at z;simpa using z
def Cw{pos:Pos}{wi:TI}{g:TG}
  (hc:X.calm=O) (hi:PI X tg iter wi) (V:m6 X sc N' cap)
  (P:∀cl C s₂ H₂ fp,PG (blk X N' sc cl C s₂ H₂ fp) tg g/\PTs (blk X N' sc cl C s₂ H₂ fp) ifs tst/\PE (blk X N' sc cl C s₂ H₂ fp) elt te)
  (hV:‹sc.kind=.function›) (hW:autoParam (∀y∈sc.names,y.2 ≠ .cell) zdc._auto_1) (iM:autoParam (∀y∈sc.names,y.2=.local->sc.names.lookup y.1=Z .local) zdc._auto_1)
  (i8:‹(sc.names.all λy=>y.2 != .free ||(X.env.kindOf y.1==Z .cell||X.env.kindOf y.1==Z .free))=true›)
  (hs:∀x,foldedSetIterable iter X.env x=pure x:=by intro _;rfl):PE X (.ListComp elt [(tg,iter,ifs,0)] sc pos) (uH cap wi g tst te):=by
 left;exact zd (use:=Y) hc hi hV hW iM (CZ i8) V P I h (λD C m H' s' I' z hn q=>((m,hn,λh' K=>(.ref D,H',(I'.turned (t':=s'.toks) (it:=C) (λb o P e=>K.extBut b o P e) z.1 z.2.1.symm.symm z.2.2.2.1 z.2.2.2.2.1 z.2.2.2.2.2),U,q)))) hs
variable{e9:Pos}{py:Pos}
def Ct{i:Nat}{y:Str}{pos:Pos}{wi:TI}{g:TG}
  (hN:X.N.Nodup) (ak:X.N[i]?=Z y) (hy:Loc X.env.scope y)
  (hc:X.calm=O) (hi:PI X tg iter wi) (uq:m6 X sc N' cap)
  (K:∀cl C s₂ H₂ fp,PG (blk X N' sc cl C s₂ H₂ fp) tg g/\PTs (blk X N' sc cl C s₂ H₂ fp) ifs tst/\PE (blk X N' sc cl C s₂ H₂ fp) elt te)
  (Q:‹swapsWith (.ListComp elt [(tg,iter,ifs,0)] sc pos) (Z (.Name y py)) e9.line X.env=pure true›)
  (hf:AT X y:=by first|exact .inl rfl|exact .inr rfl|assumption)
  (hV:‹sc.kind=.function›) (hW:autoParam (∀y∈sc.names,y.2 ≠ .cell) zdc._auto_1) (iM:autoParam (∀y∈sc.names,y.2=.local->sc.names.lookup y.1=Z .local) zdc._auto_1)
  (i8:‹(sc.names.all λy=>y.2 != .free ||(X.env.kindOf y.1==Z .cell||X.env.kindOf y.1==Z .free))=true›)
  (hs:∀x,foldedSetIterable iter X.env x=pure x:=by intro _;rfl):PS X (.Assign [.Name y py] (.ListComp elt [(tg,iter,ifs,0)] sc pos) e9) (ix (uH cap wi g tst te) (fB i)):=by
 intro gd s σ H Dn I h;rw[exec_Assign_Name_used _ _ _ _ Q];refine fu (wpAny_standAt (fu ?_));refine fu (SH (zd hc hi hV hW iM (CZ i8) uq K I h (λD C m H' s' I' P hn q=>?_) hs)
  (λ_ s' hq=>mX (mX hq)) λ_ _ e=>e)
 let(o,es,ep,ho,hd,hr):=id hn;have I2:=I'.pinned (λb K=>by rw[fy.mp K];exact P) λb K=>by
  rw[fy.mp K];exact(o,ho,λv=>by rw[hd];simp)
 refine wpAny_assign_Name (gO I2 hN ak hy (v:=.ref D) U (λs2 I3=>?_) hf)
 have z:=(I3.pin (C,o) (qg _ (qg _ (fT (fy.mpr U) ho)))).1;refine(m,(o,es,ep,z,hd,hr),λh' V=>(_,H',?_,q))
 exact I3.lF.turned (λb o K e=>V.extBut b o K e) P.1 P.2.1 P.2.2.2.1 P.2.2.2.2.1 P.2.2.2.2.2
variable{a:J}
section
theorem vf{K:BT}{xs:List V}{g:TG}{σ:St}{Q:VK}(Pv:Nat->List V->St->Hp->Prop)(h0:Pv 0 [] σ H)
  (hl:∀i ys σ H,i<=xs.length->Pv i ys σ H->SqL K H a xs/\ys.length<pY)
  (hs:∀i x ys σ H,xs[i]?=Z x->Pv i ys σ H->g x σ H λz H3=>tst z H3 λb H4=>if b=O then te z H4 λy H5=>Pv (i+1) (ys++[y]) z H5 else Pv (i+1) ys z H4)
  (hd:∀ys σ H,Pv xs.length ys σ H->∀D,H D=Y->Q (.ref D) (upd H D (.lst ys))):
  O9 g tst te σ Q (Itl K a) H:=by
 refine(λi m ys σ H=>m=xs.length-i/\i<=xs.length/\Pv i ys σ H,(xs.length,by simp,FI _,h0),?_)
 rintro i m ys σ H ⟨rfl,hi,p⟩
 let(q,hz):=hl i ys σ H hi p;by_cases P:i<xs.length
 ·refine .inr ((xs,xs[i],q,by simp[P]),hz,Pv (i+1),λar ak H' p'=>(xs.length-(i+1),by lia,U,P,p'),λx H' y=>?_)
  let(e,y):=y;subst e;exact hs i x ys σ _ (y xs q) p
 ·have e:i=xs.length:=by omega
  subst e;exact .inl ((xs,q,ot _),vr hz,hd ys σ H p)
inductive Tr(x:V)(lo:Option Int)(hi:Option Int)(H:Hp)(Q:VK):Prop
 |mk(z:_)(h1:x=.str z)(h2:z.length<=pY)(h3:Q (.str (Txt.slice z lo hi)) H)
def PY:SlR X Tr:=by
 intro gd s σ H x v vl vu lo hi sl Q I V hs pl pu h;let(z,U,g,q):=h;let(t,U):=V;refine("str",_,PySem.F.slot_str_getitem.lookup,typeIs_str s z t,?_);let(o,h1,h2,h3):=hs;have fin:∀y t' k,y=Txt.slice z lo hi->EP X gd σ Q (.str y t') {s with toks:=k}:=λy t' k e=>by subst e;exact(.str _,H,I.tok k,(_,U),q)
 cases pl with
 |none =>
  cases pu with
  |none=>exact wpAny_getItem_str_slice (l:=Y) (u:=Y) (st:=Y) (o,h1,h2,h3) U (post_val_or_str (ui (Txt.slice_le z _ _) g,λt' k=>fin _ t' k U))
  |int j K=>exact wpAny_getItem_str_slice (l:=Y) (u:=Z (j,K)) (st:=Y) (o,h1,h2,h3) U (post_val_or_str (ui (Txt.slice_le z _ _) g,λt' k=>fin _ t' k U))
 |int i P =>
  cases pu with
  |none=>exact wpAny_getItem_str_slice (l:=Z (i,P)) (u:=Y) (st:=Y) (o,h1,h2,h3) U (post_val_or_str (ui (Txt.slice_le z _ _) g,λt' k=>fin _ t' k U))
  |int j K=>exact wpAny_getItem_str_slice (l:=Z (i,P)) (u:=Z (j,K)) (st:=Y) (o,h1,h2,h3) U (post_val_or_str (ui (Txt.slice_le z _ _) g,λt' k=>fin _ t' k U))
def Ad{ys:List Str}:∀{us:List B},Vals (ys.map V.str) us->StrsAre us ys:=by
 induction ys with
 |nil=>intro us r;cases r;exact .nil
 |cons n ns z =>
  intro us r;cases r with
  |cons q g =>
   let(t,e):=q;subst e;exact .cons n t (z g)
inductive rJoin(K:BT)(x:V)(xs:List V)(H:Hp)(Q:VK):Prop
 |mk(sep l ys:_)(h1:x=.str sep)(h2:xs=[.ref l])(h3:SqL K H l (ys.map V.str))(h4:(ys.map (·.length)).sum+ys.length*sep.length<=16777216)(h5:Q (.str (Txt.join sep ys)) H)
def M9:MtR X "str.join" (rJoin X.K):=by
 intro gd s σ H x xs v us Q I g rs h;let(sep,l,ys,U,U,hl,hw,q):=h;let(t,U):=g;let(u,U,ru):=Vals.one rs;cases ru;let(its,r,z,P):=I.list hl;exact join_list z.isList (Ad r:) hw λt' k=>(.str _,H,I.tok k,(_,U),q)
theorem J9:b8 X (.builtin "isinstance") (λxs H Q=>∃x T t b,xs=[x,.ty T]/\km X.K H x t/\W.kitOne X.K t (.type T)=Z b/\Q (.bl b) H):=by
 intro gd s σ H xs us Q I r h;let(x,T,t,b,U,ty,e,q):=h;let(u,z,U,ru,g):=vals2 r;cases g;exact EV I ru ty e λtk=>(.bl b,H,I.tok tk,U,q)
end
variable{I:J}{fp:List J}{n:Nat}{ty:String}{Q:B->ϋ->Prop}
section
variable{w:Cl}{E:B->ϋ->Prop}{s:ϋ}
def EE:typeLookup (.type "list_reverseiterator") "__len__"=pure none:=by kernel_rfl
def JC:typeLookup (.type "list_reverseiterator") "__length_hint__"=pure (Z (.builtin "list_reverseiterator.__length_hint__")):=by kernel_rfl
def Jd{Q:Bool->ϋ->Prop}(hT:s.TypeIs (.ref I) "list_reverseiterator")(z:∀b tk,s.toks<=tk->Q b {s with toks:=tk}):wpAny (model prog w) A (Builtin.List.listLengthHint (.ref I)) Q E s:=by
 refine fu (Xv hT EE ?_);refine fu (Xv hT JC ?_)
 generalize g:("list_reverseiterator.__length_hint__")=q
 wp_delta
 rw[show splitId q=Z ("list_reverseiterator","__length_hint__")from by subst g;decide +kernel]
 subst g;refine fu (XJ (b:=O) hT (by kernel_rfl) ?_)
 exact mX (z _ _ (ot _))
theorem yX{R:Result->ϋ->Prop}{wr:List J}{P:Nat->B->Prop}{St:Nat->Do->Prop}(W:Walks prog w A.in1 I fp wr n P St)(hT:∀i (s:ϋ),St i s.heap->s.TypeIs (.ref I) ty)
  (aM:(B.type ty == .type "list" || Value.type ty == .type "tuple")=ϊ) (ay:∀x ∈ ["set","frozenset","dict","dict_keys","dict_values","dict_items"],(B.type ty == .type x)=ϊ)
  (hint:∀(s:ϋ)(Q:Bool->ϋ->Prop)(E:B->ϋ->Prop),St 0 s.heap->(∀b tk,s.toks<=tk->Q b {s with toks:=tk})->wpAny (model prog w) A.in1 (Builtin.List.listLengthHint (.ref I)) Q E s)
  (S:J) (res:B) (c₀:Nat) (q:St 0 s.heap) (ak:S ∉ fp) (hI:I∈fp) (hS:s.heap.get? S=Z (#[]^^^c₀))
  (hR:∀s' oY K,Moved (S::wr) (λg g'=>g'=g) s s'->s'.heap.get? S=Z {cls:=.type "list",dict:=Y,data:=.seq oY K,slots:=#[]}->ItemsOf P oY n->R (.ok (.ret res)) s') (hn:n<=pY):
  wpAny (model prog w) A.in1 (Builtin.List.listExtendWith (.ref S) (.ref I) res)
   (λfin s'=>match fin with|.done f=>R (.ok f) s' |.again K=>K.quiet=O/\codeAny (model prog w) A K R s') (λe s'=>R (.error e) s') s:=by
 have aN:S≠I:=λe=>ak (e▸hI)
 have h1:Builtin.List.listSameRef (.ref S) (.ref I)=false:=by simp[Builtin.List.listSameRef,aN]
 refine fu (WV (hT 0 _ q) ?_);rw[if_neg (by rw[Bool.or_assoc,h1,aM];decide)]
 refine fu (W.self 0 _ _ _ q (fu (FH (hint _ _ _ q λb tk htk=>?_))))
 have tail:∀h' V c,s.toks<=V->(∀b o,b≠S->s.heap.get? b=Z o->h'.get? b=Z o)->h'.get? S=Z {cls:=.type "list",dict:=Y,data:=.seq #[] c,slots:=#[]} ->
   wpAny (model prog w) A.in1 (again (.builtin "list.extend.loop" ([.ref S,.ref I,res],[]))) (λfin s'=>match fin with|.done f=>R (.ok f) s' |.again K=>K.quiet=O/\codeAny (model prog w) A K R s') (λe s'=>R (.error e) s') {s with heap:=h',toks:=V}:=by
  intro h' V c ht hk aW;exact mX (UY F.plain_extend_loop _,codeAny_extend_loopS W.toS hn _ ak _ n 0 _ _ _ U (FI _) (W.frame 0 s.heap _ q λb hb o e=>hk b o (λz=>ak (z▸hb)) e) aW (ItemsOf.nil P) λs' oY K hm Bv gL=>hR s' oY K (λb o hb e=>hm.heap b o hb (hk b o (λz=>hb (by rw[z];exact lj)) e),hm.gens,hm.drawn,hm.os,ui ht hm.toks) Bv gL)
 cases b with
 |false =>
  rw[if_neg ?_]
  ·exact tail _ _ _ htk (λ_ _ _ e=>e) hS
  ·intro z;rw[YR,WX]at z;let(x,hx,hz):=z;rw[ay x hx]at hz;cases hz
 |true =>
  refine fu (Xc (fu ?_));refine fu (WW hS U ?_);have ar:=v5 (Wb (·.push B.none)) hS U;refine WW ar U ?_;have aR:=v5 (Wb (·.pop)) ar U;exact tail _ _ _ htk (λb o hb e=>(uk _ _ (Ne.symm hb)).trans ((uk _ _ (Ne.symm hb)).trans e)) aR
theorem sG{wr:List J}{P:Nat->B->Prop}{St:Nat->Do->Prop}(W:Walks prog w A.in1.in1 I fp wr n P St)(hT:∀i (s:ϋ),St i s.heap->s.TypeIs (.ref I) ty)
  (ar:(B.type ty == .type "list" || Value.type ty == .type "tuple")=ϊ) (ak:∀x ∈ ["set","frozenset","dict","dict_keys","dict_values","dict_items"],(B.type ty == .type x)=ϊ)
  (hint:∀(s:ϋ)(Q:Bool->ϋ->Prop)(E:B->ϋ->Prop),St 0 s.heap->(∀b tk,s.toks<=tk->Q b {s with toks:=tk})->wpAny (model prog w) A.in1.in1 (Builtin.List.listLengthHint (.ref I)) Q E s)
  (ay:St 0 s.heap) (aM:∀b∈fp,b<s.heap.objs.size) (hI:I∈fp)
  (hQ:∀s' oY c',Moved (s.heap.objs.size::wr) (λg g'=>g'=g) {s with heap:=s.heap.push (~~~#[])} s' ->
   s'.heap.get? s.heap.objs.size=Z {cls:=.type "list",dict:=Y,data:=.seq oY c',slots:=#[]}->ItemsOf P oY n->Q (.ref s.heap.objs.size) s') (hn:n<=pY):
  wpAny (model prog w) A (call (.type "list") [.ref I]) Q E s:=by
 have V:=λhm=>Kt _ (aM _ hm)
 refine callType_codes (Q₁:=λobj q=>obj=.ref s.heap.objs.size/\q={s with heap:=s.heap.push (~~~#[])}) F.called_list (F.typeCall_list_1 _) F.entry_list_init (code_list_new _ (U,U)) λobj q h₁=>?_
 let(U,U):=h₁;have hS:(s.heap.push (~~~#[])).get? s.heap.objs.size=Z (~~~#[]):=px _ U;refine((_,hS,U),F.args_list_init_2 _ _,?_);refine fu ?_;refine fu (wpAny_seqItems hS U (mX ?_));refine fu (WW hS U ?_);have aN:=v5 (Wb (λ_=>(#[]))) hS U
 have oth:∀b o,b≠s.heap.objs.size->(s.heap.push (~~~#[])).get? b=Z o->((s.heap.push (~~~#[])).update s.heap.objs.size (Wb (λ_=>(#[])))).get? b=Z o:=
  λb o K e=>(uk _ _ (Ne.symm K)).trans e
 exact yX (hn:=hn) W hT ar ak hint s.heap.objs.size .none _ (W.frame 0 s.heap _ ay λb K o e=>oth b o (λz=>V (z▸K)) (f9 _ e)) V hI aN λs' oY c' hm aR gL=>((U,hQ s' oY c' (λb o K e=>hm.heap b o K (oth b o (λz=>K (by rw[z];exact lj)) e),hm.gens,hm.drawn,hm.os,hm.toks) aR gL))
end
def qm(K:BT)(te:TE):TE:=λσ H Q=>te σ H λx H1=>∃l ys,x=.ref l/\SqL K H1 l ys/\∀q,H1 q=Y->Q (.ref q) (upd H1 q (.lst ys.reverse))
def FZ{its:Array B}{acc:Array B}{ys:List V}(r:Vals ys its.toList)(h:ItemsOf (λi v=>its[its.size-1-i]?=Z v) acc its.size):Vals ys.reverse acc.toList:=by
 have e:acc.toList=its.toList.reverse:=by
  apply Y0
  intro i;by_cases hi:i<its.size
  ·have h1:i<acc.size:=by rw[h.1];exact hi
   have h2:=h.2 i acc[i] (by simp[h1])
   rw[List.getElem?_reverse (hi:)]
   simp only[Xd,X4];rw[h2];simp[h1]
  ·have h1:¬ i<acc.size:=by rw[h.1];exact hi
   rw[UZ (h1:),UZ (hi:)]
 rw[e];exact Vals.reverse r
variable{l:J}
def EN{σ:St}{s:ϋ}{Q:VK}{ob:Obj}{tk:Nat}{P:Nat->B->Prop}{St:Nat->Do->Prop}{ys:List V}(I:Inv X gd σ H s)(ay:l<s.heap.objs.size)(W:Walks X.prog X.w X.A.in1.in1 s.heap.objs.size [s.heap.objs.size,l] [s.heap.objs.size] n P St)(hT:∀i (s':ϋ),St i s'.heap->s'.TypeIs (.ref s.heap.objs.size) ty)
  (ak:(B.type ty == .type "list" || Value.type ty == .type "tuple")=ϊ) (K:∀x ∈ ["set","frozenset","dict","dict_keys","dict_values","dict_items"],(B.type ty == .type x)=ϊ)
  (hint:∀(s':ϋ)(Q:Bool->ϋ->Prop)(E:B->ϋ->Prop),St 0 s'.heap->(∀b tk,s'.toks<=tk->Q b {s' with toks:=tk})->wpAny (model X.prog X.w) X.A.in1.in1 (Builtin.List.listLengthHint (.ref s.heap.objs.size)) Q E s')
  (ar:St 0 (s.heap.push ob)) (hv:∀acc,ItemsOf P acc n->Vals ys acc.toList) (hz:ys.length<=pY) (hn:n<=pY) (q:∀p,H p=Y->Q (.ref p) (upd H p (.lst ys))):
  Zk X (call (.type "list") [.ref s.heap.objs.size]) (EP X gd σ Q) X.xe {s with heap:=s.heap.push ob,toks:=tk}:=by
 refine sG W hT ak K hint ar (λb g=>?_) ad (λs' oY c' hm aM gL=>?_) hn
 ·rw[BS];obtain z|z:=pj.mp g
  ·rw[z];exact W7 _
  ·rw[fy.mp z];exact Xk ay
 ·rw[Moved.eq_with hm];have kp:=λb o e=>hm.heap b o (λz=>by
   have g:@LT.lt Nat _ b s.heap.objs.size:=kn e;obtain z|z:=pj.mp z
   ·rw[z]at g;simp only[BS]at g
    lia
   ·rw[fy.mp z]at g
    lia) (f9 _ (f9 _ e))
  have hf:H ((s.heap.push ob).objs.size)=none:=I.hok.fresh (by rw[BS];omega)
  exact(.ref _,_,I.laid (o:=.lst ys) kp (by rw[BS];omega) (hz,oY.toList,c',hv oY gL,(aM:)),U,q _ hf)
variable{e:Ev}
def q9{p1 p2 fq pos:Pos}(hc:X.calm=O)(aM:Gl X "list")(ar:X.mg "list"=Y)(ay:Gl X "reversed")(ak:X.mg "reversed"=Y)(he:PE X e te)
  (g:‹AD X e›) (V:‹pq [.Call (.Name "reversed" p2) [e] [] fq] X.env=[(ϊ,eval (.Call (.Name "reversed" p2) [e] [] fq) X.env)]›):
  PE X (.Call (.Name "list" p1) [.Call (.Name "reversed" p2) [e] [] fq] [] pos) (qm X.K te):=by
 left;refine WK (gK I aM ar boot_list (PyProof.Rows.callWith_type1 ?_ V U));show wpAny _ _ (spliced ((ϊ,eval (.Call (.Name "reversed" p2) [e] [] fq) X.env)::backTo pos (pq [] X.env))) _ _ s;refine Calls.spliced_cons (WK (gK I ay ak boot_reversed (PyProof.Rows.callWith_type1 ?_ g U)));rw[g];refine Calls.spliced_cons (thn (he gd s σ H _ I h) λu s1 aN=>?_)
 let(x,H1,I1,r1,l,ys,ex,hl,q):=aN;subst ex;cases r1;refine Calls.spliced_nil ?_;let(its,rv,P,hz):=I1.list hl;have z:l<s1.heap.objs.size:=by let(_,e,_):=P.isList;exact kn e
 refine call_reversed_list P.isList (Calls.spliced_nil ?_);have W:=Walks.listRev (prog:=X.prog) (w:=X.w) (A:=X.A.in1.in1) (I.ok.hd hc) s1.heap.objs.size l (sT z) its.toArray;exact EN I1 z W (λi s' st=>st.2.1.typeIs) ac ac (λs' Q' E' st hq=>Jd st.2.1.typeIs hq) (FI _,(_,px _ U,U,by simp[revObj]),P.isList.push _) (λacc h=>FZ (rv:) h) (by rw[YM];exact hz) (by rw[sQ,<- rv.length];exact hz) q
variable{x:Str}
section
def rg{y:J}{pos:Pos}(hg:Gl X x)(hm:X.mg x=Z (.ref y))(hd:autoParam (AS x) zdc._auto_1):PE X (.Name x pos) (tC (.ref y)):=MG hg hm U hd
def KP(_ j:Int):Prop:=0<j/\j<18446744073709551616
def yq:OpR X (binaryOp .FloorDiv) (rI KP λi j=>.int (i / j)):=opI λi j _ _ _ _ _ g q=>by
 let(h1,h2):=g;have e:i.fdiv j=i / j:=Int.fdiv_eq_ediv_of_nonneg _ (by lia)
 refine floordiv_int (by lia) (by rw[e];exact q) (.inl (PyProof.noPylong_of_log2 ?_))
 have h3:j.natAbs<2 ^ 64:=by omega
 have h4:j.natAbs≠0:=by lia
 exact XG ((Nat.log2_lt h4).mpr h3) ac
def D5{ys:List Str}{its:Array B}(v:Vals (ys.map V.str) its.toList)(h:autoParam (ys.length<=1000) zdc._auto_1):its.size<=pY:=by
 have e:=v.length;rw[dN]at e;have g:its.toList.length=its.size:=by simp
 have:(1000:Nat)<=pY:=by decide
 omega
end
def dk(s n:Int)(l:J):List (Key×V):=[(.inr "seed",.int s),(.inr "number",.int n),(.inr "left",.ref l)]
def E9{s n:Int}:cC (dk s n l) (.inr "number":Key)=Z (.int n):=by kernel_rfl
def NP{s n:Int}:cC (dk s n l) (.inr "left":Key)=Z (.ref l):=by kernel_rfl
variable{m:Int}
def AF{s n:Int}:putK (dk s n l) (.inr "number":Key) (.int m)=dk s m l:=by kernel_rfl
def HS{s n:Int}:putK (dk s n l) (.inr "seed":Key) (.int m)=dk m n l:=by kernel_rfl
structure cT(H:Hp)(d l:J)(s n:Int)(ls:List Int):Prop where
 hd:H d=Z (.dK (dk s n l))
 hl:H l=Z (.lst (ls.map V.int))
 s0:0<=s
 s1:s<2147483647
 n0:0<=n
 l0:∀x∈ls,0<=x
def m4(H:Hp)(d l:J):Prop:=∃s n ls,cT H d l s n ls
def Kp(d l:J)(H H':Hp):Prop:=∀b o,H b=Z o->b≠d->b≠l->H' b=Z o
variable{d:J}
def Kp.refl:Kp d l H H:=λ_ _ h _ _=>h
variable{ls:List Int}
def cT.ne{s n:Int}(D:cT H d l s n ls):d≠l:=gZ D.hd D.hl (by intro z;cases z)
def cT.num{s n:Int}(D:cT H d l s n ls)(h:0<=m):cT (upd H d (.dK (putK (dk s n l) (.inr "number":Key) (.int m)))) d l s m ls:=
 (by rw[au,AF],by rw[ao D.ne.symm];exact D.hl,D.s0,D.s1,h,D.l0)
def cT.VC{s n:Int}(D:cT H d l s n ls)(h:0<=m)(h2:m<2147483647):cT (upd H d (.dK (putK (dk s n l) (.inr "seed":Key) (.int m)))) d l m n ls:=
 (by rw[au,HS],by rw[ao D.ne.symm];exact D.hl,h,h2,D.n0,D.l0)
def cT.list{s n:Int}{ls':List Int}(D:cT H d l s n ls)(h:∀x∈ls',0<=x):cT (upd H l (.lst (ls'.map V.int))) d l s n ls':=
 (by rw[ao D.ne];exact D.hd,au,D.s0,D.s1,D.n0,h)
variable{H1:Hp}
def Kp.Pk{o:HO}(a:Kp d l H H1):Kp d l H (upd H1 d o):=λc u h h1 h2=>by rw[ao h1];exact a c u h h1 h2
def Kp.Vw{o:HO}(a:Kp d l H H1):Kp d l H (upd H1 l o):=λc u h h1 h2=>by rw[ao h2];exact a c u h h1 h2
def lb.new{p:J}{o:HO}(a:lb H H1)(hp:H1 p=Y):lb H (upd H1 p o):=λc u h=>by
 have z:=a c u h;rw[ao (aO z hp)];exact z
def m4.new{p:J}{o:HO}(D:m4 H d l)(hp:H p=Y):m4 (upd H p o) d l:=by
 let(s,n,ls,D):=D;exact(s,n,ls,by rw[ao (aO D.hd hp)];exact D.hd,by rw[ao (aO D.hl hp)];exact D.hl,D.s0,D.s1,D.n0,D.l0)
inductive Gv(vs:List V)(H:Hp)(Q:VK)(_:XK):Prop
 |mk(d l:J)(m:Int)(h1:vs=[.ref d,.int m])(h2:m4 H d l)(h3:0<m)(h4:m<18446744073709551616)(h5:∀(r:Int)(H':Hp),0<=r->r<m->m4 H' d l->Kp d l H H'->Q (.int r) H')
inductive PV(K:BT)(vs:List V)(H:Hp)(Q:VK)(_:XK):Prop
 |mk(a:J)(ns:List Int)(b:Int)(h1:vs=[.ref a,.int b])(h2:SqL K H a (ns.map V.int))(h3:ns.length<=63)(h4:0<=b)(h5:b<=63)(h6:∀(d l:J)(H':Hp),H d=Y->H l=Y->m4 H' d l->lb H H'->Q (.ref d) H')
variable{D:Ends}
def DR{c:TT}{tb:TS}{σ:St}(I:Nat->St->Hp->Prop){m:Nat}(h0:I m σ H)(q:∀m σ H,I m σ H->D.nx σ H)
  (hs:∀m σ H,I m σ H->D.nx σ H->c σ H λb H1=>if b=O then ∃N:St->Hp->Prop,(∀g H',N g H'->∃m',m'<m/\I m' g H')/\tb {D with nx:=N,ct:=N,bk:=D.nx} σ H1 else D.nx σ H1):z7 c tb D σ H:=
 (I,(m,h0),λm σ H h=>hs m σ H h (q m σ H h))
def cT.JH{s n:Int}(D:cT H d l s n ls):iu H d (.str "seed") (Z (.int s)):=by
 have z:=iu.k (k:=(Sum.inr "seed")) D.hd;exact z
def cT.U6{s n:Int}(D:cT H d l s n ls):iu H d (.str "number") (Z (.int n)):=by
 have z:=iu.k (k:=(Sum.inr "number")) D.hd;rw[E9]at z;exact z
def cT.O1{s n:Int}(D:cT H d l s n ls):iu H d (.str "left") (Z (.ref l)):=by
 have z:=iu.k (k:=(Sum.inr "left")) D.hd;rw[NP]at z;exact z
def cT.Ue{s n:Int}(D:cT H d l s n ls):xD H d (.str "number") (.int m) (upd H d (.dK (putK (dk s n l) (.inr "number":Key) (.int m)))):=
 xD.k (k:=(Sum.inr "number")) D.hd (aF (by show 3<=1000;decide))
def cT.Ub{s n:Int}(D:cT H d l s n ls):xD H d (.str "seed") (.int m) (upd H d (.dK (putK (dk s n l) (.inr "seed":Key) (.int m)))):=
 xD.k (k:=(Sum.inr "seed")) D.hd (aF (by show 3<=1000;decide))
def mod_lt{x:Int}(h:0<m):0<=x % m/\x % m<m:=(Int.emod_nonneg _ (by lia),Int.emod_lt_of_pos _ h)
end L2
namespace L2
def J5(ns:List Int)(lo hi:Option Int):∃cs:List Int,mM (ns.map V.int) lo hi=cs.map V.int/\cs.length<=ns.length:=by
 refine((ns.drop (HT.sIx ns.length 0 lo)).take (HT.sIx ns.length ns.length hi-HT.sIx ns.length 0 lo),?_,?_)
 ·unfold mM;rw[dN,<- Yp,<- X6]
 ·rw[sR,WT];exact ui (Ys _ _) (Zb _ _)
variable{ns:List Int}
def int_at{i:Nat}{x:V}(h:(ns.map V.int)[i]?=Z x):∃z,x=.int z:=by
 rw[gV]at h;cases e:ns[i]? with
 |none=>rw[e]at h;cases h
 |some z=>rw[e]at h;exact(z,(Option.some.inj h).symm)
def Nu{i:Nat}{x:V}(h:(ns.map V.int)[i]?=Z x):∃z,x=.int z/\z∈ns:=by
 rw[gV]at h;cases e:ns[i]? with
 |none=>rw[e]at h;cases h
 |some z=>rw[e]at h;exact(z,(Option.some.inj h).symm,mu e)
end L2
namespace L2
open PySem
def Sn{α:Type}{xs:List α}{i:Int}(h0:0<=i)(h1:i<xs.length):∃v,atI xs i=Z v/\v∈xs:=by
 obtain⟨n,rfl⟩:∃n:Nat,i=n:=(i.toNat,by lia)
 have h2:n<xs.length:=by lia
 refine(xs[n],?_,SR h2);unfold atI ixN;simp[h2]
variable{n:Nat}
def bA(h:n<=10000):n<=pY:=by
 have:(10000)<=pY:=by decide
 lia
end L2
namespace L2
end L2
namespace L2
open PySem PySem.Spec PyProof.Rows
def strOf:Ev->Option Str
 |.Constant (.str x) _ _=>Z x
 |_=>Y
def strsOf:List Ev->Option (List Str)
 |[]=>Z []
 |e::r=>(strOf e).bind λx=>(strsOf r).map (x :: ·)
variable{e:Ev}{x:Str}
def DZ(h:strOf e=Z x):∃j p,e=.Constant (.str x) j p:=by
 cases e with
 |Constant c j p=>cases c with
  |str y=>cases h;exact(j,p,U)
  |_=>cases h
 |_=>cases h
variable{X:Cx}{es:List Ev}
def MN:∀{ws:List Str},strsOf es=Z ws->PA X es (λ_ H Q=>Q (ws.map V.str) H):=by
 induction es with
 |nil=>intro ws h;cases h;exact cM
 |cons e es q =>
  intro ws h;let(x,h1,h2):=Yu.mp h;let(g,h3,U):=g5.mp h2;let(j,p,U):=DZ h1;exact bq du (q h3)
end L2
namespace L2
variable{H:Hp}
def NF{i:Nat}{x:V}{σ:St}{A Zg:St->Hp->Prop}(h:A (σ.set i (Z x)) H):fB i x σ H λg z=>B1 g z λb q=>if b=O then A g q else Zg g q:=by
 show if O=O then A (σ.set i (Z x)) H else Zg (σ.set i (Z x)) H
 exact h
end L2
namespace L2
end L2
namespace L2
open PySem PySem.Spec PyProof.Rows
section
variable{X:Cx}
def jk(z:Str)(n:Nat):Str:=⟨(uA n z.cps).foldl (·++·) #[]⟩
theorem x3(c:Array Nat):∀(n:Nat)(acc:Array Nat),((uA n c).foldl (·++·) acc).size=acc.size+n*c.size
 | 0,acc=>by simp
 |n+1,acc=>by
  rw[W4,List.foldl_cons,x3 c n,Array.size_append,Nat.add_mul]
  lia
def g7(z:Str)(n:Nat):(jk z n).length=n*z.length:=by
 have h:=x3 z.cps n #[];simpa [jk,Str.length]using h
def AR:OpR X (binaryOp .Mult) (λx y H Q=>∃z n,x=.str z/\y=.int n/\0<=n/\n<=1000/\z.length<=1000/\Q (.str (jk z n.toNat)) H):=by
 intro gd s σ H x y v u Q I V K h;let(z,n,U,U,n0,n1,hz,q):=h;let(t,U):=V;let(t',U):=K;have fin:∀(y:Str)(t' k:Nat),y=jk z n.toNat->EP X gd σ Q (.str y t') {s with toks:=k}:=λy t' k e=>by subst e;exact(.str _,H,I.tok k,(_,U),q)
 have hp:=by
  have h1:(z.length:Int)*n<=1000*n:=Int.mul_le_mul_of_nonneg_right ap n0
  omega
 refine P.mul_str ?_ (λh1 _=>?_) (λh1 _=>?_) ?_
 ·rw[decide_eq_false ap,decide_eq_false ap];rfl
 ·have h2:(1000:Int) <=(2 ^ 63-1) / n:=by
   rw[Int.le_ediv_iff_mul_le ap]
   omega
  omega
 ·have h2:=by
   have e:((z.length*n.toNat:Nat):Int)=(z.length:Int)*n:=by rw[YA,W3 n0]
   omega
  have:=Xe
  exact decide_eq_false ap
 ·by_cases h1:n<1
  ·rw[if_pos h1];have e:n.toNat=0:=by omega
   exact(by decide,fin _ _ _ (by rw[e];rfl))
  ·rw[if_neg h1];by_cases h2:(n==1||z.length==0)=O
   ·rw[if_pos h2];refine fin z t s.toks ?_;have h3:=(h2:)
    obtain h3|h3:=h3
    ·subst h3;show z=⟨#[]++z.cps⟩;simp
    ·have e1:z.cps=#[]:=by simpa [Str.length]using h3
     have g:=g7 z n.toNat;rw[h3]at g;have e3:=by simpa [Str.length]using g
     exact Str.ext' (by rw[e1,e3])
   ·rw[if_neg h2];refine(?_,fin _ _ _ U);have e:=g7 z n.toNat;have h3:=by
     have e:((n.toNat*z.length:Nat):Int)=(z.length:Int)*n:=by rw[YA,W3 n0,Int.mul_comm]
     omega
    have:=Xe
    show(jk z n.toNat).length<=pY;omega
end
end L2
namespace L2
open PySem
def rJ(n:Nat):Nat:=97+n % 26
def dj(c1 c2:Str)(turn k:Nat):Str:=c1++⟨#[rJ (turn+7*k)]⟩++c2++jk "x" (k % 2)++jk "y" (k / 26)
def sI(c1 c2:Str)(turn k:Nat):(dj c1 c2 turn k).cps.toList=c1.cps.toList++rJ (turn+7*k) ::(c2.cps.toList++(jk "x" (k % 2)).cps.toList++(jk "y" (k / 26)).cps.toList):=by
 simp[dj,Str.cps_append]
def vq(c1 c2:Str)(turn k:Nat):(dj c1 c2 turn k).length=c1.length+1+c2.length+k % 2+k / 26:=by
 unfold dj;rw[Str.length_append,Str.length_append,Str.length_append,Str.length_append,g7,g7,show(⟨#[rJ (turn+7*k)]⟩:Str).length=1 from U,show(Str.ofString "x").length=1 from by decide +kernel,show(Str.ofString "y").length=1 from by decide +kernel]
 lia
def Vl{a:List Nat}{x y:Nat}{b c:List Nat}(h:a++x::b=a++y::c):x=y:=by
 have:=Xr h
 exact(List.cons.inj this).1
variable{turn:Nat}{j:Nat}
def EO{k:Nat}(hk:k<52)(g:j<52)(h:rJ (turn+7*k)=rJ (turn+7*j)):k % 26=j % 26:=by
 have h':∀a:Fin 26,∀b:Fin 26,∀c:Fin 26,(a.val+7*b.val) % 26=(a.val+7*c.val) % 26->b=c:=by decide +kernel
 have e:∀k,(turn % 26+7*(k % 26)) % 26=(turn+7*k) % 26:=λk=>by rw[Nat.add_mod,Nat.mod_mod,Nat.mul_mod_mod,<- Nat.add_mod]
 have h:(turn+7*k) % 26=(turn+7*j) % 26:=Nat.add_left_cancel h;rw[<- e,<- e j]at h;exact congrArg Fin.val (h' (turn % 26,YU _ ac) (k % 26,YU _ ac) (j % 26,YU _ ac) h)
def Ce:(jk "y" 1).cps.toList=[121]:=by decide +kernel
def xZ(z:Str):(jk z 0).cps.toList=[]:=by simp[jk]
variable{c1:Str}{c2:Str}
def vK{k:Nat}(hk:k<52)(V:j<52)(P:k≠j){e f:Str}(he:e=Str.empty\/e="q")(hf:f=Str.empty\/f="q"):dj c1 c2 turn k++e≠dj c1 c2 turn j++f:=by
 intro h;have K:=by
  have:=congrArg (λz=>z.cps.toList) h
  simpa [Str.cps_append]using this
 have hl:(dj c1 c2 turn k).length+e.length=(dj c1 c2 turn j).length+f.length:=by
  rw[<- Str.length_append,h,Str.length_append]
 rw[sI,sI]at K;simp only[xx,Yt]at K;have hm:=EO hk V (Vl K);have h1:k % 2=j % 2:=by rw[<- YV k (by decide:2∣26),hm,YV j (by decide:2∣26)]
 have hd:(k / 26=0/\j / 26=1)\/(k / 26=1/\j / 26=0):=(by decide +kernel:∀a b:Fin 52,a≠b->a.val % 26=b.val % 26->(a.val / 26=0/\b.val / 26=1)\/(a.val / 26=1/\b.val / 26=0)) (k,hk) (j,V) (λz=>P (congrArg Fin.val z)) hm
 have tail:=(List.cons.inj (Xr K)).2;rw[h1]at tail;have g:=Xr (Xr tail);have eq:(Str.ofString "q").cps.toList=[113]:=by decide +kernel
 have ee:Str.empty.cps.toList=[]:=rfl;obtain⟨d1,Q⟩|⟨d1,Q⟩:=hd
 ·rw[d1,Q,xZ,Ce]at g;obtain rfl|rfl:=he
  ·rw[ee]at g;simp at g
  ·rw[eq]at g
   have:=congrArg List.head? g
   simp at this
 ·rw[d1,Q,xZ,Ce]at g;obtain rfl|rfl:=hf
  ·rw[ee]at g;simp at g
  ·rw[eq]at g
   have:=congrArg List.head? g
   simp at this
def nodup_range{f:Nat->Str}{n:Nat}(h:∀i j,i<n->j<n->i≠j->f i≠f j):((N6 n).map f).Nodup:=by
 rw[Ye,Xl];refine List.Pairwise.imp_of_mem ?_ (Ye.mp Y6);intro i j hi q g;exact h i j (Xq.mp hi) (Xq.mp q) g
variable{ws:List Str}
def EF{i:Nat}{w:Str}(h:ws.Nodup)(hw:w ∉ ws):(ws.set i w).Nodup:=by
 induction ws generalizing i with
 |nil=>simp
 |cons a r K =>
  let(h1,h2):=v3.mp h;have q:w≠a:=λz=>hw (by simp[z])
  have g:=λz=>hw (jQ _ z)
  cases i with
  |zero=>exact v3.mpr (g,h2)
  |succ i =>
   refine v3.mpr (λz=>?_,K h2 g)
   obtain z|z:=XM z
   ·exact h1 z
   ·exact q z.symm
end L2
namespace L2
open PySem
variable{ws:List Str}
def Nv{w:Str}(h:inV (.str w) (ws.map V.str)=ϊ):w ∉ ws:=λhm=>by
 unfold inV at h;rw[Yk]at h;exact h (.str w) (n8.mpr (w,hm,U)) (show(w==w)=O from beq_self_eq_true w)
def wordOf(kept:List Str)(c1 c2:Str)(turn k:Nat):Str:=dj c1 c2 turn k++(if inV (.str (dj c1 c2 turn k)) (kept.map V.str)=O then("q":Str)else Str.empty)
variable{c1:Str}{c2:Str}{turn:Nat}{j:Nat}
def DQ{kept:List Str}{k:Nat}(hk:k<52)(q:j<52)(g:k≠j):wordOf kept c1 c2 turn k≠wordOf kept c1 c2 turn j:=by
 refine vK hk q g ?_ ?_
 ·split
  ·exact .inr U
  ·exact .inl U
 ·split
  ·exact .inr U
  ·exact .inl U
def zU{kept:List Str}{k:Nat}(h1:c1.length<=5)(h2:c2.length<=5)(hk:k<52):1 <=(wordOf kept c1 c2 turn k).length/\(wordOf kept c1 c2 turn k).length<=20:=by
 unfold wordOf;rw[Str.length_append,vq];have l0:Str.empty.length=0:=rfl;have g:(Str.ofString "q").length=1:=by decide +kernel
 split <;> lia
end L2
namespace L2
open PySem PySem.Spec PyProof.Rows
abbrev Mk1:=Str×List Str
abbrev Kd:=Str×List Mk1
def g6(ks:List Kd)(k:Str):List Mk1:=match ks.find? (λx=>decide (x.1=k))with
 |some x=>x.2
 |none=>[]
def CJ{ks:List Kd}{k:Str}{i:Nat}{x:Kd}(h:ks[i]?=Z x)(hx:x.1=k)(hn:∀(j:Nat)(y:Kd),j<i->ks[j]?=Z y->y.1≠k):g6 ks k=x.2:=by
 induction ks generalizing i with
 |nil=>simp at h
 |cons a r g =>
  cases i with
  |zero =>
   simp at h;subst h;simp[g6,hx]
  |succ i =>
   have h0:=hn 0 a (by lia) ad
   have z:=g (h:) λj y K q=>hn (j+1) y (by lia) (q:)
   unfold g6 at z ⊢;rw[Pt,decide_eq_false h0];exact z
def Na{ks:List Kd}{k:Str}(hn:∀(j:Nat)(y:Kd),ks[j]?=Z y->y.1≠k):g6 ks k=[]:=by
 unfold g6;rw[List.find?_eq_none.mpr];intro x hx;let(j,g,U):=List.mem_iff_getElem.mp hx
 have:=hn j ks[j] ad
 simpa using this
variable{it:J}{items:Array B}{Q:B->ϋ->Prop}{h':Do}{tp:Bool}{l:J}{z:J}{i1:J}{i2:J}{l1:J}{l2:J}{t1:Bool}{t2:Bool}{k1:Nat}{k2:Nat}{xs:Array B}{ys:Array B}
section
variable{prog:Da}{w:Cl}{A:Db}{E:B->ϋ->Prop}{s:ϋ}
theorem t8{t:J}{i:Nat}{x:B}(hit:s.heap.IsTupleIter it t i)(z:s.heap.IsTuple t items)(hx:items[i]?=Z x)
  (P:∀h',h'.IsTupleIter it t (i+1)->XF it s.heap h'->Q x {s with heap:=h'}):wpAny (model prog w) A (Builtin.SmallTypes.nextOf (.ref it)) Q E s:=by
 let(o,ho,K,hd):=id hit;let(ol,g,_,nl,q):=z;refine fu (wpAny_callSpecial?_slot hit.typeIs F.slot_tuple_iterator_next
  (S9 F.slot_tuple_iterator_next hit.typeIs F.entry_tuple_iterator_next ?_ (F.args_tuple_iterator_next_1 _)))
 show wpAny _ _ (field (.ref it) 0 >>= _) _ _ s;refine fu (wpAny_field ho hd U ?_);refine fu (wpAny_field ho hd U ?_);refine fu (wpAny_seqItems g q ?_);simp only[W2,hx];refine fu (X1 ho hd ad (mX (x,U,mX (P _ ?_ (Heap.SameBut.update ..)))))
 exact(_,v5 _ ho (Xw (Xh hd _)),(Y1 ..).trans K,by
  rw[Xh hd];simp[rawInt])
theorem wC{t:J}{i:Nat}(K:A.handled=Y)(hit:s.heap.IsTupleIter it t i)(z:s.heap.IsTuple t items)(hx:items[i]?=Y)
  (hE:∀h' e,Za it s.heap h'->(∃o,h'.get? e=Z o/\o.cls=.type "StopIteration")->E (.ref e) {s with heap:=h'}):wpAny (model prog w) A (Builtin.SmallTypes.nextOf (.ref it)) Q E s:=by
 let(o,ho,P,hd):=id hit;let(ol,g,_,nl,q):=z;refine fu (wpAny_callSpecial?_slot hit.typeIs F.slot_tuple_iterator_next
  (S9 F.slot_tuple_iterator_next hit.typeIs F.entry_tuple_iterator_next ?_ (F.args_tuple_iterator_next_1 _)))
 show wpAny _ _ (field (.ref it) 0 >>= _) _ _ s;refine fu (wpAny_field ho hd U ?_);refine fu (wpAny_field ho hd U ?_);refine fu (wpAny_seqItems g q ?_);simp only[W2,hx];refine fu (Xc (fu (X1 ho hd ad ?_)))
 refine fu ?_;refine fu (m:=firstArgMember _ _) (wpAny_of_eq ba ?_)
 refine Xa ?_ (by size_fits)
 refine fu (wpAny_handled ?_);rw[K];exact fu (mX (wpAny_throw (hE _ _ (((Heap.SameBut.update ..).extBut.push _).push _) (_,px _ U,U))))
def aS(h:Do)(tp:Bool)(it l:J)(k:Nat):Prop:=if tp=O then h.IsTupleIter it l k else h.IsListIter it l k
def bc(h:Do)(tp:Bool)(l:J)(items:Array B):Prop:=if tp=O then h.IsTuple l items else h.IsList l items
def aS.at{h:Do}{k:Nat}(x:aS h tp it l k)(e:∀o,h.get? it=Z o->h'.get? it=Z o):aS h' tp it l k:=by
 cases tp with
 |true=>let(o,ho,r):=(x);exact((o,e o ho,r))
 |false=>let(o,ho,r):=(x);exact((o,e o ho,r))
def bc.at{h:Do}(x:bc h tp l items)(e:∀o,h.get? l=Z o->h'.get? l=Z o):bc h' tp l items:=by
 cases tp with
 |true=>let(o,ho,r):=(x);exact((o,e o ho,r))
 |false=>let(o,ho,r):=(x);exact((o,e o ho,r))
def aS.obj{h:Do}{k:Nat}(x:aS h tp it l k):∃o,h.get? it=Z o/\∀v,o.data ≠ .cell v:=by
 cases tp with
 |true=>let(o,ho,_,hd):=(x);exact(o,ho,λv=>by rw[hd];simp)
 |false=>let(o,ho,_,hd):=(x);exact(o,ho,λv=>by rw[hd];simp)
def next_item{i:Nat}{x:B}(hit:aS s.heap tp it l i)(hl:bc s.heap tp l items)(hx:items[i]?=Z x)
  (g:∀h',aS h' tp it l (i+1)->XF it s.heap h'->Q x {s with heap:=h'}):wpAny (model prog w) A (Builtin.SmallTypes.nextOf (.ref it)) Q E s:=by
 cases tp with
 |true=>exact t8 hit hl hx g
 |false=>exact wpAny_nextOf_list_item hit hl hx g
def next_end{i:Nat}(g:A.handled=Y)(hit:aS s.heap tp it l i)(hl:bc s.heap tp l items)(hx:items[i]?=Y)
  (hE:∀h' e,Za it s.heap h'->(∃o,h'.get? e=Z o/\o.cls=.type "StopIteration")->E (.ref e) {s with heap:=h'}):wpAny (model prog w) A (Builtin.SmallTypes.nextOf (.ref it)) Q E s:=by
 cases tp with
 |true=>exact wC g hit hl hx hE
 |false=>exact wpAny_nextOf_list_end g hit hl hx hE
theorem FL{TI TO:J}{x y a b:B}{Q:Option B->ϋ->Prop}(D:ZipApart z TI TO i1 i2 l1 l2)
  (hz:IsZip s.heap z TI TO .none) (ct:IsPair s.heap TI (.ref i1) (.ref i2)) (ck:IsPair s.heap TO a b)
  (h1:aS s.heap t1 i1 l1 k1) (h2:aS s.heap t2 i2 l2 k2) (cj:bc s.heap t1 l1 xs) (cg:bc s.heap t2 l2 ys) (hx:xs[k1]?=Z x) (hy:ys[k2]?=Z y)
  (hQ:∀h',IsZip h' z TI TO (rawInt s.heap.objs.size)->IsPair h' TO x y->aS h' t1 i1 l1 (k1+1)->aS h' t2 i2 l2 (k2+1)->IsPair h' s.heap.objs.size x y->h'.objs.size=s.heap.objs.size+1 ->
   (∀c o,c≠z->c≠TO->c≠i1->c≠i2->s.heap.get? c=Z o->h'.get? c=Z o)->Q (Z (.ref s.heap.objs.size)) {s with heap:=h'}):
  wpAny (model prog w) A (pyNext (.ref z)) Q E s:=by
 have hT:s.TypeIs (.ref z) "zip":=(_,hz,U);unfold pyNext;refine fu (XO (wpAny_callSpecial?_slot hT F.slot_zip_next
  (S9 F.slot_zip_next hT F.entry_zip_next ?_ (F.args_zip_next_1 _))))
 show wpAny _ _ (field (.ref z) 2 >>= _) _ _ _;refine fu (wpAny_field hz U (x:=.bool ϊ) U ?_);refine fu (wpAny_field hz U (x:=.ref TI) U ?_);refine fu (wpAny_seqItems ct U ?_);refine fu ?_;refine fu (wpAny_field hz U (x:=.none) U (mX ?_));simp only[if_true];refine fu (Xc ?_);refine fu (wpAny_field hz U (x:=.ref TO) U ?_);refine fu (wpAny_setField_rec hz ad λh₁ bb g=>?_)
 refine fu ?_;simp only[Y7,List.zipIdx_nil,XS,List.forIn_nil];refine fu (fu (wpAny_onRaise ?_));refine fu (next_item (h1.at λo e=>g.extBut _ o D.i1z e) (cj.at λo e=>g.extBut _ o D.l1z e) hx λbK bz P=>mX ?_)
 have JF:IsPair bK TO a b:=P.extBut _ _ D.TOi1 (g.extBut _ _ D.TOz ck);refine fu (wpAny_seqItems JF U ?_);refine fu (wpAny_updateSeq_pair JF λcz U5 K=>?_)
 refine fu (wpAny_letGo (mX ?_));refine fu (fu (wpAny_onRaise ?_));refine fu (next_item (h2.at λo e=>K.extBut _ o D.TOi2.symm (P.extBut _ o D.i12.symm (g.extBut _ o D.i2z e)))
  (cg.at λo e=>K.extBut _ o D.l2TO (P.extBut _ o D.l2i1 (g.extBut _ o D.l2z e))) hy λbI br ak=>mX ?_)
 have U4:IsPair bI TO x b:=ak.extBut _ _ D.TOi2 U5;refine fu (wpAny_seqItems U4 U ?_);refine fu (wpAny_updateSeq_pair U4 λq ND V=>?_)
 replace ND:IsPair q TO x y:=ND
 refine fu (wpAny_letGo (mX (mX ?_)));refine fu (wpAny_seqItems ND U ?_);refine fu (wpAny_newTuple ?_);have hsz:q.objs.size=s.heap.objs.size:=by rw[V.1,ak.1,K.1,P.1,g.1]
 have aR:IsZip q z TI TO .ellipsis:=V.extBut _ _ D.TOz.symm (ak.extBut _ _ D.i2z.symm (K.extBut _ _ D.TOz.symm (P.extBut _ _ D.i1z.symm bb)));have bg:∀c o,c≠z->c≠TO->c≠i1->c≠i2->s.heap.get? c=Z o->q.get? c=Z o:=λc o c1 c2 c3 c4 e =>
  V.extBut _ _ c2 (ak.extBut _ _ c4 (K.extBut _ _ c2 (P.extBut _ _ c3 (g.extBut _ _ c1 e))))
 have bt:=bz.at λo e=>V.extBut _ o D.TOi1.symm (ak.extBut _ o D.i12 (K.extBut _ o D.TOi1.symm e))
 have bh:=br.at λo e=>V.extBut _ o D.TOi2.symm e
 have UL:z<q.objs.size:=kn aR;refine fu ?_;have a3:IsZip (q.push {cls:=.type "tuple",data:=.seq #[x,y]}) z TI TO .ellipsis:=f9 _ aR;refine fu (wpAny_setField_rec a3 ad λcx a0 ay=>?_)
 refine wpAny_setField_rec a0 ad λaM aN ar=>?_
 have up:∀c o,c≠z->q.get? c=Z o->aM.get? c=Z o:=λc o c1 e=>ar.extBut _ _ c1 (ay.extBut _ _ c1 (f9 _ e))
 have aW:IsPair aM q.objs.size x y:=ar.extBut _ _ (E3 UL) (ay.extBut _ _ (E3 UL) (px _ U));have b0:aM.objs.size=q.objs.size+1:=by rw[ar.1,ay.1,BS]
 rw[hsz]at aN aW b0;refine mX (_,U,mX ?_);rw[hsz];exact hQ aM aN (up _ _ D.TOz ND) (bt.at λo e=>up _ o D.i1z e) (bh.at λo e=>up _ o D.i2z e) aW b0 λc o c1 c2 c3 c4 e=>up c o c1 (bg c o c1 c2 c3 c4 e)
theorem Lb{TI TO:J}{a b:B}{Q:Option B->ϋ->Prop}(hh:A.handled=Y)(D:ZipApart z TI TO i1 i2 l1 l2)
  (hz:IsZip s.heap z TI TO .none) (br:IsPair s.heap TI (.ref i1) (.ref i2)) (bh:IsPair s.heap TO a b)
  (h1:aS s.heap t1 i1 l1 k1) (h2:aS s.heap t2 i2 l2 k2) (bb:bc s.heap t1 l1 xs) (bg:bc s.heap t2 l2 ys) (wW:xs[k1]?=Y\/ys[k2]?=Y)
  (hQ:∀h',(∀c o,c≠z->c≠TO->c≠i1->c≠i2->s.heap.get? c=Z o->h'.get? c=Z o)->Q Y {s with heap:=h'}):wpAny (model prog w) A (pyNext (.ref z)) Q E s:=by
 have hT:s.TypeIs (.ref z) "zip":=(_,hz,U);have fin:∀h' e,(∀c o,c≠z->c≠TO->c≠i1->c≠i2->s.heap.get? c=Z o->h'.get? c=Z o)->(∃o,h'.get? e=Z o/\o.cls=.type "StopIteration") ->
   wpAny (model prog w) A (do if <- isInstance (.ref e) (.type "StopIteration")then pure Y else throw (.ref e)) Q E {s with heap:=h'}:=λh' e hk he=>by
  let(o,ho,hc):=he;refine fu (XJ (o,ho,hc) isSubtype_stop ?_);exact mX (hQ _ hk)
 refine fu (XO (wpAny_callSpecial?_slot hT F.slot_zip_next
  (S9 F.slot_zip_next hT F.entry_zip_next ?_ (F.args_zip_next_1 _))))
 show wpAny _ _ (field (.ref z) 2 >>= _) _ _ _;refine fu (wpAny_field hz U (x:=.bool ϊ) U ?_);refine fu (wpAny_field hz U U ?_);refine fu (wpAny_seqItems br U ?_);refine fu ?_;refine fu (wpAny_field hz U U (mX ?_));refine fu (Xc (fu (wpAny_field hz U (x:=.ref TO) U (fu (wpAny_setField_rec hz ad λh₁ ar g=>?_)))))
 refine fu ?_;simp only[Y7,List.zipIdx_nil,XS,List.forIn_nil];refine fu (fu (wpAny_onRaise ?_));cases hx:xs[k1]? with
 |none =>
  refine fu (next_end hh (h1.at λo e=>g.extBut _ o D.i1z e) (bb.at λo e=>g.extBut _ o D.l1z e) hx λa3 e q he=>?_)
  let(oe,P,aN):=he;have ak:=q _ _ D.i1z.symm ar;have aW:e≠z:=λx=>by subst x;rw[ak]at P;cases P;simp at aN
  refine wpAny_setField_rec ak ad λaR _ K=>fin aR e (λc o c1 _ c3 _ x=>K.extBut _ _ c1 (q _ _ c3 (g.extBut _ _ c1 x))) (oe,K.extBut _ _ aW P,aN)
 |some x =>
  have hy:ys[k2]?=none:=by obtain h|h:=wW;rw[hx]at h;cases h;exact h
  refine fu (next_item (h1.at λo e=>g.extBut _ o D.i1z e) (bb.at λo e=>g.extBut _ o D.l1z e) hx λa3 bt q=>mX ?_)
  have JF:=q.extBut _ _ D.TOi1 (g.extBut _ _ D.TOz bh);refine fu (wpAny_seqItems JF U (fu (wpAny_updateSeq_pair JF λaR U5 K=>(fu (wpAny_letGo (mX (fu (fu (wpAny_onRaise ?_)))))))))
  refine fu (next_end hh (h2.at λo e=>K.extBut _ o D.TOi2.symm (q.extBut _ o D.i12.symm (g.extBut _ o D.i2z e)))
   (bg.at λo e=>K.extBut _ o D.l2TO (q.extBut _ o D.l2i1 (g.extBut _ o D.l2z e))) hy λbz e aM he=>?_)
  let(oe,P,aN):=he;have V:=aM _ _ D.i2z.symm (K.extBut _ _ D.TOz.symm (q.extBut _ _ D.i1z.symm ar));have aW:e≠z:=λx=>by subst x;rw[V]at P;cases P;simp at aN
  refine wpAny_setField_rec V ad λa0 _ ay=>fin a0 e (λc o c1 c2 c3 c4 x=>ay.extBut _ _ c1 (aM _ _ c4 (K.extBut _ _ c2 (q.extBut _ _ c3 (g.extBut _ _ c1 x))))) (oe,ay.extBut _ _ aW P,aN)
end
def k8(ks:List Kd):List Str:=ks.flatMap λk=>k.2.flatMap (·.2)
def wZ(ks:List Kd)(k:Str):List Str:=(g6 ks k).flatMap (·.2)
inductive Reach(ks:List Kd)(a:Str):Str->Prop where
 |here:Reach ks a a
 |step{b c:Str}:Reach ks a b->c∈wZ ks b->Reach ks a c
variable{ws:List Str}
def pP{w:Str}:inV (.str w) (ws.map V.str)=O ↔ w∈ws:=by
 constructor
 ·intro h;by_cases hm:w∈ws
  ·exact hm
  ·exfalso
   unfold inV at h;rw[WX]at h;let(x,hx,e):=h;let(z,g,U):=n8.mp hx
   have:=eq_of_beq (show(z==w)=O from e)
   exact hm (this▸g)
 ·intro h;unfold inV;rw[WX];exact(.str w,n8.mpr (w,h,U),show(w==w)=O from beq_self_eq_true w)
def Ja{ks:List Kd}{k:Str}:g6 ks k=[]\/∃x∈ks,g6 ks k=x.2/\x.1=k:=by
 unfold g6;cases e:ks.find? (λx=>decide (x.1=k))with
 |none=>exact .inl U
 |some x=>exact .inr (x,Yg e,U,by have z:=List.find?_some e;simpa using z)
def yU{ks:List Kd}{k f:Str}(h:f∈wZ ks k):f∈k8 ks:=by
 unfold wZ at h;obtain e |⟨x,hx,e,_⟩:=Ja (ks:=ks) (k:=k)
 ·rw[e]at h;simp at h
 ·rw[e]at h;exact W8.mpr (x,hx,h)
def un(Zc rs:List Str):Nat:=(Zc.filter λu=>decide (u ∉ rs)).length
variable{rs:List Str}
def Ta{Zc:List Str}:un Zc rs<=Zc.length:=YC _ _
theorem C2{p q:Str->Bool}(g:∀x,q x=O->p x=O):∀Zc:List Str,(Zc.filter q).length <=(Zc.filter p).length
 |[]=>ot _
 |u::Zc=>by
  have z:=C2 g Zc;cases hq:q u with
  |true =>
   rw[QG hq,QG (g u hq)];simp only[ri];omega
  |false =>
   rw[WY (by rw[hq];decide)]
   cases hp:p u with
   |true=>rw[QG hp];simp only[ri];omega
   |false=>rw[WY (by rw[hp];decide)];exact z
theorem C1{p q:Str->Bool}{f:Str}(K:∀x,q x=O->p x=O)(hp:p f=O)(hq:q f=ϊ):∀Zc:List Str,f∈Zc->(Zc.filter q).length+1 <=(Zc.filter p).length
 |[],h=>by simp at h
 |u::Zc,h=>by
  by_cases e:u=f
  ·subst e;have z:=C2 K Zc;rw[WY (by rw[hq];decide),QG hp]
   simp only[ri];omega
  ·have z:=C1 K hp hq Zc (by
    obtain h|h:=pj.mp h
    ·exact absurd h.symm e
    ·exact h)
   cases g:q u with
   |true =>
    rw[QG g,QG (K u g)];simp only[ri];omega
   |false =>
    rw[WY (by rw[g];decide)]
    cases P:p u with
    |true=>rw[QG P];simp only[ri];omega
    |false=>rw[WY (by rw[P];decide)];exact z
def B0{Zc:List Str}{f:Str}(hf:f∈Zc)(hn:f ∉ rs):un Zc (rs++[f])+1<=un Zc rs:=by
 refine C1 (λx hx=>?_) (decide_eq_true hn) (decide_eq_false ad) Zc hf
 have hx:=of_decide_eq_true hx;exact decide_eq_true λz=>hx (n6.mpr (.inl z))
def marks(rs:List Str):List (Key×V):=rs.map λs=>(.inr s,.bl O)
structure RS(ks:List Kd)(k here:Str)(done rs W:List Str)(c:Nat):Prop where
 ki:k∈rs
 w:∀r∈W,r∈rs
 hi:here∈rs
 re:∀r∈rs,Reach ks k r
 cl:∀r∈rs,r ∉ W->r=here\/∀f∈wZ ks r,f∈rs
 dn:∀f∈done,f∈rs
 sz:rs.length+un (k8 ks) rs <=(k8 ks).length+1
 sw:W.length<=rs.length
 m:2*un (k8 ks) rs+W.length<c
variable{here:Str}{done:List Str}
def RS.old{ks:List Kd}{k f:Str}{W:List Str}{c:Nat}(R:RS ks k here done rs W c)(hf:f∈rs):RS ks k here (done++[f]) rs W c:=
 (R.ki,R.w,R.hi,R.re,R.cl,λg hg=>(n6.mp hg).elim (R.dn g) λh=>by rw[fy.mp h];exact hf,R.sz,R.sw,R.m)
def RS.new{ks:List Kd}{k f:Str}{W:List Str}{c:Nat}(R:RS ks k here done rs W c)(hn:f ∉ rs)(hf:f∈wZ ks here):RS ks k here (done++[f]) (rs++[f]) (W++[f]) c where
 ki:=n6.mpr (.inl R.ki)
 w:=λr hr=>by
  obtain h|h:=n6.mp hr
  ·exact n6.mpr (.inl (R.w r h))
  ·exact n6.mpr (.inr h)
 hi:=n6.mpr (.inl R.hi)
 re:=λr hr=>by
  obtain h|h:=n6.mp hr
  ·exact R.re r h
  ·rw[fy.mp h];exact .step (R.re _ R.hi) hf
 cl:=λr hr hw=>by
  obtain h|h:=n6.mp hr
  ·obtain e|e:=R.cl r h (λz=>hw (n6.mpr (.inl z)))
   ·exact .inl e
   ·exact .inr λg hg=>n6.mpr (.inl (e g hg))
  ·exact absurd (n6.mpr (.inr h)) hw
 dn:=λg hg=>by
  obtain h|h:=n6.mp hg
  ·exact n6.mpr (.inl (R.dn g h))
  ·exact n6.mpr (.inr h)
 sz:=by
  have:=B0 (yU hf) hn
  have:=R.sz
  simp only[jR,vb];omega
 sw:=by
  have:=R.sw
  simp only[jR,vb];omega
 m:=by
  have:=B0 (yU hf) hn
  have:=R.m
  simp only[jR,vb];omega
structure RWt(ks:List Kd)(k:Str)(rs W:List Str):Prop where
 ki:k∈rs
 w:∀r∈W,r∈rs
 re:∀r∈rs,Reach ks k r
 cl:∀r∈rs,r ∉ W->∀f∈wZ ks r,f∈rs
 sz:rs.length+un (k8 ks) rs <=(k8 ks).length+1
 sw:W.length<=rs.length
def RWt.pop{ks:List Kd}{k:Str}{W:List Str}(R:RWt ks k rs (W++[here])):RS ks k here [] rs W (2*un (k8 ks) rs+(W++[here]).length) where
 ki:=R.ki
 w:=λr hr=>R.w r (n6.mpr (.inl hr))
 hi:=R.w _ ad
 re:=R.re
 cl:=λr hr hw=>by
  by_cases e:r=here
  ·exact .inl e
  ·exact .inr (R.cl r hr (by simp[hw,e]))
 dn:=λf hf=>by simp at hf
 sz:=R.sz
 sw:=by
  have:=R.sw
  simp only[jR,vb]at this;omega
 m:=by simp
def RS.fin{ks:List Kd}{k:Str}{W:List Str}{c:Nat}(R:RS ks k here done rs W c)(hd:done=wZ ks here):RWt ks k rs W where
 ki:=R.ki
 w:=R.w
 re:=R.re
 sz:=R.sz
 sw:=R.sw
 cl:=λr hr hw=>by
  obtain e|e:=R.cl r hr hw
  ·subst e;subst hd;exact R.dn
  ·exact e
def RWt.all{ks:List Kd}{k:Str}(R:RWt ks k rs []){s:Str}:s∈rs ↔ Reach ks k s:=by
 refine(R.re s,λh=>?_)
 induction h with
 |here=>exact R.ki
 |step _ q g=>exact R.cl _ g ad _ q
def RWt.start{ks:List Kd}{k:Str}:RWt ks k [k] [k] where
 ki:=by simp
 w:=λr h=>h
 re:=λr h=>by rw[fy.mp h];exact .here
 cl:=λr h n=>absurd h n
 sz:=by have:=Ta (Zc:=k8 ks) (rs:=[k]);simp;omega
 sw:=ot _
def nj{α:Type}{β:Type}{xs:List α}{f:α->List β}{i:Nat}{c:α}(h:xs[i]?=Z c):(xs.take i).flatMap f++f c=(xs.take (i+1)).flatMap f:=by
 rw[ro,h];simp
open Classical in
noncomputable def ff(ks:List Kd)(k:Str)(xs:List Kd):List Str:=xs.flatMap λx=>if Reach ks k x.1 then x.2.map (·.1)else []
def FX{ks:List Kd}{k:Str}{xs:List Kd}{i:Nat}{x:Kd}(h:xs[i]?=Z x)(hr:Reach ks k x.1):ff ks k (xs.take (i+1))=ff ks k (xs.take i)++x.2.map (·.1):=by
 unfold ff;rw[<- nj h,if_pos hr]
def Li{ks:List Kd}{k:Str}{xs:List Kd}{i:Nat}{x:Kd}(h:xs[i]?=Z x)(hr:¬ Reach ks k x.1):ff ks k (xs.take (i+1))=ff ks k (xs.take i):=by
 unfold ff;rw[<- nj h,if_neg hr,rD]
def Reach.trans{ks:List Kd}{a b c:Str}(h1:Reach ks a b)(h2:Reach ks b c):Reach ks a c:=by
 induction h2 with
 |here=>exact h1
 |step _ h g=>exact .step g h
variable{X:Cx}{gd:List (J×Obj)}{H:Hp}{t':Nat}{fp:List J}
def Inv.pA{σ:St}{s:ϋ}(I:Inv X gd σ H s)(k:∀b o,b ∉ fp->s.heap.get? b=Z o->h'.get? b=Z o)(hf:∀b∈fp,sV X gd H b):
  Inv X gd σ H {s with heap:=h',toks:=t'}:=by
 have K:∀b u,H b=Z u->b ∉ fp:=λb u e z=>by
  have:=(hf b z).1
  rw[e]at this;cases this
 refine I.step (λb P=>?_) (λb o _ _ g e _=>k b o g e) (λb o _ _ g e _=>(o.slots,k b o g e)) (λ_ _ _ _ n=>n)
  (λb o g e=>(o,k b o g e)) (λ_ _ e=>e) (λ_ _ _ e=>e) (λb ps e=>(#[],by rw[e];simp)) (λm hm=>?_) (λb u e=>?_) I.bare
 ·let(f0,f1,f2,V,f4,Q):=hf b P;exact(V,f1,f4,Q)
 ·let(o,es,ep,ho,r):=hm;exact(o,es,ep,k _ o (λz=>(hf _ z).2.1 U) ho,r)
 ·refine(I.hok b u e).dq (λc v g q=>k c v ?_ q) (λ_ q=>q) λ_ _ q=>q
  obtain z|z:=g
  ·rw[z];exact K b u e
  ·exact K c _ z
def SqB(K:BT)(tp:Bool)(H:Hp)(a:J)(xs:List V):Prop:=if tp=O then SqT K H a xs else SqL K H a xs
variable{a:J}
def Inv.GX{σ:St}{s:ϋ}{xs:List V}(I:Inv X gd σ H s)(h:SqB X.K tp H a xs):∃its:List B,Vals xs its/\bc s.heap tp a its.toArray/\xs.length<=pY:=by
 cases tp with
 |true =>
  let(its,r,p,z):=I.tuple (h);exact(its,r,(p),z)
 |false =>
  let(its,r,p,z):=I.list (h);exact(its,r,p.isList,z)
def Inv.GW{σ:St}{s:ϋ}{xs ys:List V}(I:Inv X gd σ H s)(h:SqB X.K tp H a xs)(h2:SqB X.K tp H a ys):xs=ys:=by
 cases tp with
 |true=>exact I.uG (h) (h2)
 |false=>exact I.yE (h) (h2)
def itc(tp:Bool):String:=if tp=O then "tuple_iterator" else "list_iterator"
variable{prog:Da}{A:Db}{E:B->ϋ->Prop}
def jG{w:Cl}{s:ϋ}(h:bc s.heap tp l xs)
  (g:Q (.ref s.heap.objs.size) {s with heap:=s.heap.push {cls:=.type (itc tp),data:=.fields #[.ref l,.int 0 0]}}):wpAny (model prog w) A (pyIter (.ref l)) Q E s:=by
 cases tp with
 |true=>exact wpAny_pyIter_tuple (h) g
 |false=>exact wpAny_pyIter_list (h) g
abbrev zH1(t1:Bool)(h:Do)(l1:J):Do:=h.push {cls:=.type (itc t1),data:=.fields #[.ref l1,.int 0 0]}
abbrev zH2(t1 t2:Bool)(h:Do)(l1 l2:J):Do:=(zH1 t1 h l1).push {cls:=.type (itc t2),data:=.fields #[.ref l2,.int 0 0]}
abbrev zH3(t1 t2:Bool)(h:Do)(l1 l2:J):Do:=(zH2 t1 t2 h l1 l2).push {cls:=.type "tuple",data:=.seq #[.ref h.objs.size,.ref (zH1 t1 h l1).objs.size]}
abbrev zH4(t1 t2:Bool)(h:Do)(l1 l2:J):Do:=(zH3 t1 t2 h l1 l2).push {cls:=.type "tuple",data:=.seq #[.none,.none]}
abbrev zH5(t1 t2:Bool)(h:Do)(l1 l2:J):Do:=(zH4 t1 t2 h l1 l2).push {cls:=.type "zip",data:=.fields #[.none,.bool ϊ,.bool ϊ,.ref (zH2 t1 t2 h l1 l2).objs.size,.ref (zH3 t1 t2 h l1 l2).objs.size]}
def ub(t1 t2:Bool)(l1 l2:J)(xs ys:Array B):
  Meets (Builtin.«zip.__new__» ([.type "zip",.ref l1,.ref l2],[])) (λ_ R s=>bc s.heap t1 l1 xs/\bc s.heap t2 l2 ys /\
   R (.ok (.ret (.ref (zH4 t1 t2 s.heap l1 l2).objs.size))) {s with heap:=zH5 t1 t2 s.heap l1 l2}):=
 .of_wp λprog w A R s h=>by
  let(hp,g,d,tk,os):=s;let(z,q,h):=h;have Q:=sub_zip;have P:=z;have K:bc (ϋ.heap (hp.push {cls:=.type (itc t1),data:=.fields #[.ref l1,.int 0 0]},g,d,tk,os)) t2 l2 ys:=q.at λo e=>f9 _ e
  wp_walk using jG P,jG K
  exact(_,U,h)
def jq{h:Do}(e:h.get? it=Z {cls:=.type (itc tp),data:=.fields #[.ref l,.int 0 0]}):aS h tp it l 0:=by
 cases tp with
 |true=>exact((_,e,U,U))
 |false=>exact((_,e,U,U))
theorem xk{prog:Da}{w:Cl}{A:Db}{E:B->ϋ->Prop}{s:ϋ}(P:bc s.heap t1 l1 xs)(K:bc s.heap t2 l2 ys)
  (h:∀h',IsZip h' (s.heap.objs.size+4) (s.heap.objs.size+2) (s.heap.objs.size+3) .none->IsPair h' (s.heap.objs.size+2) (.ref s.heap.objs.size) (.ref (s.heap.objs.size+1)) ->
   IsPair h' (s.heap.objs.size+3) .none .none->aS h' t1 s.heap.objs.size l1 0->aS h' t2 (s.heap.objs.size+1) l2 0 ->
   (∀c o,s.heap.get? c=Z o->h'.get? c=Z o)->Q (.ref (s.heap.objs.size+4)) {s with heap:=h'}):
  wpAny (model prog w) A (call (.type "zip") [.ref l1,.ref l2]) Q E s:=by
 refine callType_new F.called_zip ac (F.typeCall_zip_2 _ _) (F.newCall_zip_2 _ _) (λobj=>F.args_object_init_3 obj _ _) F.entry_zip_new
  (ub t1 t2 l1 l2 xs ys) (P,K,?_)
 have z:(zH1 t1 s.heap l1).objs.size=s.heap.objs.size+1:=BS ..;have q:(zH2 t1 t2 s.heap l1 l2).objs.size=s.heap.objs.size+2:=by rw[BS,z]
 have g:(zH3 t1 t2 s.heap l1 l2).objs.size=s.heap.objs.size+3:=by rw[BS,q]
 have z4:(zH4 t1 t2 s.heap l1 l2).objs.size=s.heap.objs.size+4:=by rw[BS,g]
 have V:(zH5 t1 t2 s.heap l1 l2).get? (zH4 t1 t2 s.heap l1 l2).objs.size=Z _:=px _ U;have g4:(zH5 t1 t2 s.heap l1 l2).get? (zH3 t1 t2 s.heap l1 l2).objs.size=Z _:=f9 _ (px _ U);have g3:(zH5 t1 t2 s.heap l1 l2).get? (zH2 t1 t2 s.heap l1 l2).objs.size=Z _:=f9 _ (f9 _ (px _ U));have g2:(zH5 t1 t2 s.heap l1 l2).get? (zH1 t1 s.heap l1).objs.size=Z _:=f9 _ (f9 _ (f9 _ (px _ U)));have g1:(zH5 t1 t2 s.heap l1 l2).get? s.heap.objs.size=Z _:=f9 _ (f9 _ (f9 _ (f9 _ (px _ U))));rw[q,g,z4]at V;rw[z,q]at g3;rw[g]at g4;rw[z]at g2;rw[z4];exact((_,V,U),h _ V g3 g4 (jq g1) (jq g2) λc o x =>
  f9 _ (f9 _ (f9 _ (f9 _ (f9 _ x)))))
def bc.obj{h:Do}(x:bc h tp l xs):∃o,h.get? l=Z o:=by
 cases tp with
 |true=>let(o,ho,_):=(x);exact(o,ho)
 |false=>let(o,ho,_):=(x);exact(o,ho)
variable{n:Nat}
def xG{l1 l2:Nat}(h1:l1<n)(h2:l2<n):ZipApart (n+4) (n+2) (n+3) n (n+1) l1 l2:=by
 constructor <;>(intro z;refine absurd (show @Eq Nat _ _ from z) ?_;lia)
def Ee{t:Nat}(h:ws.Nodup):(ws.drop t++ws.take t).Nodup:=
 (List.perm_append_comm).nodup_iff.mp (by rw[List.take_append_drop];exact h)
variable{d:J}
def m4.other{q:J}{o:HO}(D:m4 H d l)(h1:q≠d)(h2:q≠l):m4 (upd H q o) d l:=by
 let(s,n,ls,D):=D;exact(s,n,ls,by rw[ao h1.symm];exact D.hd,by rw[ao h2.symm];exact D.hl,D.s0,D.s1,D.n0,D.l0)
def names(ks:List Kd):List Str:=ks.flatMap λk=>k.2.map (·.1)
variable{x:Str}
def take_one{xs:List Str}{i:Nat}(h:xs[i]?=Z x):xs.take i++[x]=xs.take (i+1):=by rw[ro,h];rfl
variable{es:List Ev}
theorem lV{K:BT}{k:Nat}{pos:Pos}{t:TGs}(z:X.K=K)(q:X.calm=O)(h:PGs X es t)
  (hn:‹(assignEach es X.env).length=n›) (g:‹(assignEach es X.env).findIdx? (·.1)=none›):PG X (.Tuple es k pos) (NK K n t):=z▸Q0 q h hn g
abbrev nZ(h:Do)(z TI TO:J)(a:J)(f:Bool):Prop:=
 h.get? z=Z {cls:=.type "zip",dict:=Y,data:=.fields #[rawInt a,.bool f,.bool ϊ,.ref TI,.ref TO],slots:=#[]}
variable{oa:Obj}
section
variable{w:Cl}{s:ϋ}
theorem yx{TI TO:J}{f:Bool}{Q:Bool->ϋ->Prop}(K:nZ s.heap z TI TO a f)(ha:s.heap.get? a=Z oa)
  (V:∀h',nZ h' z TI TO a O->XF z s.heap h'->Q ϊ {s with heap:=h'}):wpAny (model prog w) A (Builtin.SmallTypes.ownedTupleIsFree (.ref z)) Q E s:=by
 refine fu (wpAny_field K U U ?_);show wpAny _ _ (loadIfAlive ((a:Int).toNat) >>= _) _ _ _;refine fu (W.kdx_alive ha ?_);refine fu (wpAny_field K U (x:=.bool f) U ?_);cases f with
 |true =>
  exact mX (V _ K (Heap.SameBut.refl _ _))
 |false =>
  exact fu (wpAny_setField_rec K ad λP q g=>(mX (V _ q g)))
theorem La{TI TO:J}{f:Bool}{x y:B}{Q:Option B->ϋ->Prop}(D:ZipApart z TI TO i1 i2 l1 l2)
  (hz:nZ s.heap z TI TO a f) (ha:s.heap.get? a=Z oa) (aN:IsPair s.heap TI (.ref i1) (.ref i2))
  (h1:aS s.heap t1 i1 l1 k1) (h2:aS s.heap t2 i2 l2 k2) (aM:bc s.heap t1 l1 xs) (ay:bc s.heap t2 l2 ys) (hx:xs[k1]?=Z x) (hy:ys[k2]?=Z y)
  (hQ:∀h',nZ h' z TI TO a O->aS h' t1 i1 l1 (k1+1)->aS h' t2 i2 l2 (k2+1)->IsPair h' s.heap.objs.size x y->h'.objs.size=s.heap.objs.size+1 ->
   (∀c o,c≠z->c≠i1->c≠i2->s.heap.get? c=Z o->h'.get? c=Z o)->Q (Z (.ref s.heap.objs.size)) {s with heap:=h'}):
  wpAny (model prog w) A (pyNext (.ref z)) Q E s:=by
 have hT:s.TypeIs (.ref z) "zip":=(_,hz,U);refine fu (XO (wpAny_callSpecial?_slot hT F.slot_zip_next
  (S9 F.slot_zip_next hT F.entry_zip_next ?_ (F.args_zip_next_1 _))))
 show wpAny _ _ (field (.ref z) 2 >>= _) _ _ _;refine fu (wpAny_field hz U (x:=.bool ϊ) U ?_);refine fu (wpAny_field hz U U ?_);refine fu (wpAny_seqItems aN U ?_);refine fu (yx hz ha λh₁ V g=>?_)
 simp only[XU,if_false];rw[<- YW];simp only[XS];refine fu (fu (fu (FH ?_)));refine fu (next_item (h1.at λo e=>g.extBut _ o D.i1z e) (aM.at λo e=>g.extBut _ o D.l1z e) hx λaR ar q=>mX (mX (fu (fu (FH ?_)))))
 refine fu (next_item (h2.at λo e=>q.extBut _ o D.i12.symm (g.extBut _ o D.i2z e)) (ay.at λo e=>q.extBut _ o D.l2i1 (g.extBut _ o D.l2z e)) hy λP ak K=>mX (mX (mX ?_)))
 show wpAny _ _ (newTuple [x,y] >>= _) _ _ _;refine fu (wpAny_newTuple ?_);have hsz:P.objs.size=s.heap.objs.size:=by rw[K.1,q.1,g.1]
 have up:∀c o,c≠z->c≠i1->c≠i2->s.heap.get? c=Z o->(P.push {cls:=.type "tuple",data:=.seq #[x,y]}).get? c=Z o:=λc o c1 c2 c3 e =>
  f9 _ (K.extBut _ _ c3 (q.extBut _ _ c2 (g.extBut _ _ c1 e)))
 refine mX (_,U,mX ?_);rw[hsz];refine hQ _ (f9 _ (K.extBut _ _ D.i2z.symm (q.extBut _ _ D.i1z.symm V))) ?_ ?_ ?_ ?_ up
 ·exact ar.at λo e=>f9 _ (K.extBut _ o D.i12 e)
 ·exact ak.at λo e=>f9 _ e
 ·rw[<- hsz];exact px _ U
 ·rw[BS,hsz]
theorem xE{TI TO:J}{f:Bool}{Q:Option B->ϋ->Prop}(hh:A.handled=Y)(D:ZipApart z TI TO i1 i2 l1 l2)
  (hz:nZ s.heap z TI TO a f) (ha:s.heap.get? a=Z oa) (aM:IsPair s.heap TI (.ref i1) (.ref i2))
  (h1:aS s.heap t1 i1 l1 k1) (h2:aS s.heap t2 i2 l2 k2) (ak:bc s.heap t1 l1 xs) (ay:bc s.heap t2 l2 ys) (wW:xs[k1]?=Y\/ys[k2]?=Y)
  (hQ:∀h',(∀c o,c≠z->c≠i1->c≠i2->s.heap.get? c=Z o->h'.get? c=Z o)->Q Y {s with heap:=h'}):
  wpAny (model prog w) A (pyNext (.ref z)) Q E s:=by
 have hT:s.TypeIs (.ref z) "zip":=(_,hz,U);have fin:∀h' e,(∀c o,c≠z->c≠i1->c≠i2->s.heap.get? c=Z o->h'.get? c=Z o)->(∃o,h'.get? e=Z o/\o.cls=.type "StopIteration") ->
   wpAny (model prog w) A (do if <- isInstance (.ref e) (.type "StopIteration")then pure Y else throw (.ref e)) Q E {s with heap:=h'}:=λh' e hk he=>by
  let(o,ho,hc):=he;refine fu (XJ (o,ho,hc) isSubtype_stop ?_);exact mX (hQ _ hk)
 refine fu (XO (wpAny_callSpecial?_slot hT F.slot_zip_next
  (S9 F.slot_zip_next hT F.entry_zip_next ?_ (F.args_zip_next_1 _))))
 show wpAny _ _ (field (.ref z) 2 >>= _) _ _ _;refine fu (wpAny_field hz U (x:=.bool ϊ) U ?_);refine fu (wpAny_field hz U U ?_);refine fu (wpAny_seqItems aM U ?_);refine fu (yx hz ha λh₁ ar g=>?_)
 simp only[XU,if_false];rw[<- YW];simp only[XS];refine fu (fu (fu (FH ?_)));cases hx:xs[k1]? with
 |none =>
  exact fu (next_end hh (h1.at λo e=>g.extBut _ o D.i1z e) (ak.at λo e=>g.extBut _ o D.l1z e) hx λK e q he=>(fin K e (λc o c1 c2 _ x=>q _ _ c2 (g.extBut _ _ c1 x)) he))
 |some x =>
  have hy:ys[k2]?=none:=by obtain h|h:=wW;rw[hx]at h;cases h;exact h
  refine fu (next_item (h1.at λo e=>g.extBut _ o D.i1z e) (ak.at λo e=>g.extBut _ o D.l1z e) hx λK aN q=>mX (mX (fu (fu (FH ?_)))))
  exact fu (next_end hh (h2.at λo e=>q.extBut _ o D.i12.symm (g.extBut _ o D.i2z e)) (ay.at λo e=>q.extBut _ o D.l2i1 (g.extBut _ o D.l2z e)) hy λV e P he=>(fin V e (λc o c1 c2 c3 x=>P _ _ c3 (q.extBut _ _ c2 (g.extBut _ _ c1 x))) he))
end
structure ZSt(h:Do)(z TI TO i1 i2 l1 l2 S:J)(t1 t2:Bool)(i:Nat):Prop where
 ti:IsPair h TI (.ref i1) (.ref i2)
 s1:aS h t1 i1 l1 i
 s2:aS h t2 i2 l2 i
 st:(IsZip h z TI TO .none/\∃a b,IsPair h TO a b)\/∃(a:J)(f:Bool)(oa:Obj),nZ h z TI TO a f/\h.get? a=Z oa/\a≠z/\a≠S/\a≠i1/\a≠i2
variable{S:J}
def ZSt.keep{h:Do}{TI TO:J}{i:Nat}(x:ZSt h z TI TO i1 i2 l1 l2 S t1 t2 i)(k:∀b o,b≠S->h.get? b=Z o->h'.get? b=Z o)(Q:z≠S)(q:TI≠S)(g:TO≠S)(h1:i1≠S)(h2:i2≠S):ZSt h' z TI TO i1 i2 l1 l2 S t1 t2 i:=
 (k _ _ q x.ti,x.s1.at λo e=>k _ o h1 e,x.s2.at λo e=>k _ o h2 e,by
  obtain⟨e,a,b,K⟩|⟨a,f,oa,e,K,n1,P,V⟩:=x.st
  ·exact .inl (k _ _ Q e,a,b,k _ _ g K)
  ·exact .inr (a,f,oa,k _ _ Q e,k _ _ P K,n1,P,V))
structure ZG(xs ys:Array B)(lo:Nat)(h:Do)(as:List J):Prop where
 rise:as.Pairwise (· < ·)
 above:∀a∈as,lo<=a
 pairs:∀(j:Nat)(a:J),as[j]?=Z a->∃x y,xs[j]?=Z x/\ys[j]?=Z y/\IsPair h a x y
def ZG.there{lo:Nat}{h:Do}{as:List J}(g:ZG xs ys lo h as)(ha:a∈as):a<h.objs.size:=by
 let(j,q):=List.mem_iff_getElem?.mp ha;let(_,_,_,_,e):=g.pairs j a q;exact kn e
section
variable{w:Cl}{s:ϋ}
def K5{E:B->ϋ->Prop}{TI TO:J}{k:Nat}{x y:B}{Q:Option B->ϋ->Prop}(D:ZipApart z TI TO i1 i2 l1 l2)
  (st:ZSt s.heap z TI TO i1 i2 l1 l2 S t1 t2 k) (hS:S<s.heap.objs.size) (K:bc s.heap t1 l1 xs) (q:bc s.heap t2 l2 ys) (hx:xs[k]?=Z x) (hy:ys[k]?=Z y)
  (hQ:∀h',ZSt h' z TI TO i1 i2 l1 l2 S t1 t2 (k+1)->IsPair h' s.heap.objs.size x y->h'.objs.size=s.heap.objs.size+1 ->
   (∀c o,c≠z->c≠TO->c≠i1->c≠i2->s.heap.get? c=Z o->h'.get? c=Z o)->Q (Z (.ref s.heap.objs.size)) {s with heap:=h'}):
  wpAny (model prog w) A (pyNext (.ref z)) Q E s:=by
 let(o1,g1,_):=st.s1.obj;let(o2,g2,_):=st.s2.obj;obtain⟨P,a,b,V⟩|⟨a,f,oa,P,ha,n1,n2,n3,n4⟩:=st.st
 ·refine FL D P st.ti V st.s1 st.s2 K q hx hy λh' g WN e1 e2 hp hsz hk=>hQ h' (hk _ _ D.TIz D.TITO D.TIi1 D.TIi2 st.ti,e1,e2,.inr (s.heap.objs.size,ϊ,_,g,hp,?_,?_,?_,?_)) hp hsz hk
  ·exact E3 (kn P)
  ·exact E3 hS
  ·exact E3 (kn g1)
  ·exact E3 (kn g2)
 ·exact La D P ha st.ti st.s1 st.s2 K q hx hy λh' g e1 e2 hp hsz hk=>hQ h' (hk _ _ D.TIz D.TIi1 D.TIi2 st.ti,e1,e2,.inr (a,O,oa,g,hk a oa n1 n3 n4 ha,n1,n2,n3,n4)) hp hsz λc o c1 _ c3 c4 e=>hk c o c1 c3 c4 e
def K6{TI TO:J}{k:Nat}{Q:Option B->ϋ->Prop}(hh:A.handled=Y)(D:ZipApart z TI TO i1 i2 l1 l2)
  (st:ZSt s.heap z TI TO i1 i2 l1 l2 S t1 t2 k) (q:bc s.heap t1 l1 xs) (g:bc s.heap t2 l2 ys) (V:xs[k]?=Y\/ys[k]?=Y)
  (hQ:∀h',(∀c o,c≠z->c≠TO->c≠i1->c≠i2->s.heap.get? c=Z o->h'.get? c=Z o)->Q Y {s with heap:=h'}):wpAny (model prog w) A (pyNext (.ref z)) Q E s:=by
 obtain⟨K,a,b,P⟩|⟨a,f,oa,K,ha,n1,n2,n3,n4⟩:=st.st
 ·exact Lb hh D K st.ti P st.s1 st.s2 q g V hQ
 ·exact xE hh D K ha st.ti st.s1 st.s2 q g V λh' hk=>hQ h' λc o c1 _ c3 c4 e=>hk c o c1 c3 c4 e
def K7{R:Result->ϋ->Prop}{TI TO:J}{t1 t2:Bool}{lo:Nat}(hh:A.handled=Y)(D:ZipApart z TI TO i1 i2 l1 l2)(ar:z≠S)(Bu:TI≠S)(wX:TO≠S)(aR:i1≠S)(aN:i2≠S)(Bs:l1≠S)(Br:l2≠S)
  (oS:S<lo) (oz:z<lo) (aW:TO<lo) (o1:i1<lo) (o2:i2<lo) (en:n=min xs.size ys.size) (hn:n<=pY) (res:B) {h₁:Do}
  (hR:∀h' tk acc c as,(∀b o,b≠S->b≠z->b≠TO->b≠i1->b≠i2->h₁.get? b=Z o->h'.get? b=Z o)->h'.get? S=Z {cls:=.type "list",dict:=Y,data:=.seq acc c,slots:=#[]}->as.length=n->ZG xs ys lo h' as ->
   acc.toList=as.map B.ref->R (.ok (.ret res)) {s with heap:=h',toks:=tk}):
  ∀(k i:Nat)(h:Do)(tk c:Nat)(acc:Array B)(as:List J),n-i=k->i<=n->ZSt h z TI TO i1 i2 l1 l2 S t1 t2 i->bc h t1 l1 xs->bc h t2 l2 ys->(∀b o,b≠S->b≠z->b≠TO->b≠i1->b≠i2->h₁.get? b=Z o->h.get? b=Z o) ->
   h.get? S=Z {cls:=.type "list",dict:=Y,data:=.seq acc c,slots:=#[]}->acc.toList=as.map B.ref->as.length=i->ZG xs ys lo h as->lo<=h.objs.size ->
   codeAny (model prog w) A (.builtin "list.extend.loop" ([.ref S,.ref z,res],[])) R {s with heap:=h,toks:=tk}:=by
 have ne:∀{a b:Nat},a<lo->lo<=b->b≠a:=λh1 h2=>by omega
 intro k
 induction k with
 |zero =>
  intro i h tk c acc as hk hi ay ak V JA hS gL K P aM;refine SQ PySem.F.entry_extend_loop ?_;refine fu (K6 (A:=A.in1) hh D ay ak V ?_ λh' he=>?_)
  ·by_cases q:xs.size<=i
   ·exact .inl (XX q)
   ·exact .inr (XX ap)
  refine mX (hR h' tk acc c as (λb o b1 b2 b3 b4 b5 e=>he b o b2 b3 b4 b5 (JA b o b1 b2 b3 b4 b5 e)) (he S _ ar.symm wX.symm aR.symm aN.symm hS) ap (P.rise,P.above,λj a Q=>?_) gL)
  let(x,y,e1,e2,e3):=P.pairs j a Q;have ab:=P.above a (mu Q);exact(x,y,e1,e2,he a _ (ne oz ab) (ne aW ab) (ne o1 ab) (ne o2 ab) e3)
 |succ k ih =>
  intro i h tk c acc as hk hi ay ak V JA hS gL K P aM;have a0:=Xx hk;have hm:=Nat.lt_min.mp (en▸a0);have hx:=Yh hm.1;have hy:=Yh hm.2;have hsz:acc.size=i:=by rw[<- Xd,gL,dN,K]
  refine SQ PySem.F.entry_extend_loop ?_;refine fu (K5 (S:=S) D ay (kn hS) ak V hx hy λh' uo ht hz g=>?_)
  have bb:=g S _ ar.symm wX.symm aR.symm aN.symm hS;have up:∀b o,b≠S->h'.get? b=Z o->(h'.update S (Wb (·.push (B.ref h.objs.size)))).get? b=Z o:=λb o hb e=>(uk _ _ (Ne.symm hb)).trans e
  have a3:=kn hS;refine fu ?_;refine WW bb U (mX (UY PySem.F.plain_extend_loop _,ih (i+1) _ tk _ (acc.push (B.ref h.objs.size)) (as++[h.objs.size]) (by rw[Yd,hk];rfl) a0 (uo.keep up ar Bu wX aR aN)
   (ak.at λo e=>up _ o Bs (g _ o D.l1z D.l1TO D.l1i1 D.l1i2 e)) (V.at λo e=>up _ o Br (g _ o D.l2z D.l2TO D.l2i1 D.l2i2 e))
   (λb o b1 b2 b3 b4 b5 e=>up b o b1 (g b o b2 b3 b4 b5 (JA b o b1 b2 b3 b4 b5 e))) (v5 _ bb U) (by rw[Array.toList_push,gL,pz];rfl) (by rw[jR,K];rfl) (?_,?_,?_) ?_)) (by rw[hsz];omega) (by rw[Array.size_push,hsz];omega)
  ·refine List.pairwise_append.mpr (P.rise,List.pairwise_singleton _ _,λa ha b hb=>?_)
   rw[fy.mp hb];exact P.there ha
  ·intro a ha;obtain ha|ha:=n6.mp ha
   ·exact P.above a ha
   ·rw[fy.mp ha];exact aM
  ·intro j b Q;obtain h1|h1|h1:=Nat.lt_trichotomy j as.length
   ·rw[Dr h1]at Q;let(x',y',e1,e2,e3):=P.pairs j b Q;have ab:=P.above b (mu Q);exact(x',y',e1,e2,up b _ (ne oS ab) (g b _ (ne oz ab) (ne aW ab) (ne o1 ab) (ne o2 ab) e3))
   ·subst h1;have hb:=(Q:)
    subst hb;exact(_,_,by rw[K];exact hx,by rw[K];exact hy,up _ _ (E3 a3) ht)
   ·have UP:(as++[h.objs.size])[j]?=none:=UZ (by rw[jR,vb];omega)
    rw[UP]at Q;cases Q
  ·have e:=up _ _ (E3 a3) ht
   have:=kn e
   have Wm:=aM;exact ui Wm (vr this)
end
def zB:typeLookup (.type "zip") "__len__"=pure none:=by kernel_rfl
def xF:typeLookup (.type "zip") "__length_hint__"=pure none:=by kernel_rfl
section
variable{w:Cl}{s:ϋ}
theorem DB{R:Result->ϋ->Prop}{TI TO:J}(hh:A.handled=Y)(D:ZipApart z TI TO i1 i2 l1 l2)(q:z≠S)(Bu:TI≠S)(wX:TO≠S)(ar:i1≠S)(ak:i2≠S)(Bs:l1≠S)(Br:l2≠S)
  (hz:IsZip s.heap z TI TO .none) {ta tb:B} (V:IsPair s.heap TO ta tb) (ay:IsPair s.heap TI (.ref i1) (.ref i2)) (Q:aS s.heap t1 i1 l1 0) (P:aS s.heap t2 i2 l2 0) (aN:bc s.heap t1 l1 xs) (aM:bc s.heap t2 l2 ys)
  (en:n=min xs.size ys.size) (hn:n<=pY) (res:B) (c₀:Nat) (hS:s.heap.get? S=Z (#[]^^^c₀))
  (hR:∀h' tk acc c as,(∀b o,b≠S->b≠z->b≠TO->b≠i1->b≠i2->s.heap.get? b=Z o->h'.get? b=Z o)->h'.get? S=Z {cls:=.type "list",dict:=Y,data:=.seq acc c,slots:=#[]}->as.length=n->ZG xs ys s.heap.objs.size h' as ->
   acc.toList=as.map B.ref->R (.ok (.ret res)) {s with heap:=h',toks:=tk}):
  wpAny (model prog w) A.in1 (Builtin.List.listExtendWith (.ref S) (.ref z) res)
   (λfin s'=>match fin with|.done f=>R (.ok f) s' |.again c'=>c'.quiet=O/\codeAny (model prog w) A c' R s') (λe s'=>R (.error e) s') s:=by
 have hT:s.TypeIs (.ref z) "zip":=(_,hz,U);let(aW,g1,_):=Q.obj;let(aR,g2,_):=P.obj;refine fu (WV hT ?_);have e1:Builtin.List.listSameRef (.ref S) (.ref z)=false:=by simp[Builtin.List.listSameRef,q.symm]
 have e2:(B.type "zip" == B.type "list")=false:=by decide
 have e3:(B.type "zip" == B.type "tuple")=false:=by decide
 simp only[e1,e2,e3,if_false];refine fu (wpAny_pyIter_zip hz (fu (FH ?_)));refine fu (Xv hT zB ?_);refine fu (Xv hT xF (mX ?_));refine fu (Xc (fu ?_));refine fu (WW hS U ?_);have g:=v5 (Wb (·.push B.none)) hS U;refine WW g U ?_;have K:=v5 (Wb (·.pop)) g U;have oth:∀b o,b≠S->s.heap.get? b=Z o->((s.heap.update S (Wb (·.push B.none))).update S (Wb (·.pop))).get? b=Z o:=
  λb o hb e=>(uk _ _ (Ne.symm hb)).trans ((uk _ _ (Ne.symm hb)).trans e)
 have hsz:((s.heap.update S (Wb (·.push B.none))).update S (Wb (·.pop))).objs.size=s.heap.objs.size:=by
  rw[(Heap.SameBut.update (a:=S) ..).1,(Heap.SameBut.update (a:=S) ..).1]
 refine mX (UY F.plain_extend_loop _,K7 (s:=s) (n:=n) hh D q Bu wX ar ak Bs Br (kn hS) (kn hz) (kn V) (kn g1) (kn g2) en hn res hR n 0 _ _ _ _ [] ap (FI _)
  (oth _ _ Bu ay,Q.at λo e=>oth _ o ar e,P.at λo e=>oth _ o ak e,.inl (oth _ _ q hz,ta,tb,oth _ _ wX V)) (aN.at λo e=>oth _ o Bs e) (aM.at λo e=>oth _ o Br e) (λb o b1 _ _ _ _ e=>oth b o b1 e) K U U (List.Pairwise.nil,λ_ z=>(nomatch z),λj a hj=>by simp at hj) (by rw[hsz];exact ot _))
def K8{R:Result->ϋ->Prop}{TI TO:J}(hh:A.handled=Y)(D:ZipApart z TI TO i1 i2 l1 l2)(q:z≠S)(Bu:TI≠S)(wX:TO≠S)(P:i1≠S)(K:i2≠S)(Bs:l1≠S)(Br:l2≠S)
  (hz:IsZip s.heap z TI TO .none) {ta tb:B} (ak:IsPair s.heap TO ta tb) (ar:IsPair s.heap TI (.ref i1) (.ref i2)) (V:aS s.heap t1 i1 l1 0) (Q:aS s.heap t2 i2 l2 0) (aN:bc s.heap t1 l1 xs) (aM:bc s.heap t2 l2 ys)
  (en:n=min xs.size ys.size) (hn:n<=pY) (hS:s.heap.get? S=Z (~~~#[]))
  (hR:∀h' tk acc c as,(∀b o,b≠S->b≠z->b≠TO->b≠i1->b≠i2->s.heap.get? b=Z o->h'.get? b=Z o)->h'.get? S=Z {cls:=.type "list",dict:=Y,data:=.seq acc c,slots:=#[]}->as.length=n->ZG xs ys s.heap.objs.size h' as ->
   acc.toList=as.map B.ref->R (.ok (.ret .none)) {s with heap:=h',toks:=tk}):
  wpAny (model prog w) A.in1 (Builtin.«list.__init__» ([.ref S,.ref z],[]))
   (λfin s'=>match fin with|.done f=>R (.ok f) s' |.again c'=>c'.quiet=O/\codeAny (model prog w) A c' R s') (λe s'=>R (.error e) s') s:=by
 refine fu ?_;refine fu (wpAny_seqItems hS U (mX ?_));refine fu (WW hS U ?_);have g:=v5 (Wb (λ_=>(#[]))) hS U
 have oth:∀b o,b≠S->s.heap.get? b=Z o->(s.heap.update S (Wb (λ_=>(#[])))).get? b=Z o:=
  λb o hb e=>(uk _ _ (Ne.symm hb)).trans e
 have hsz:(s.heap.update S (Wb (λ_=>(#[])))).objs.size=s.heap.objs.size:=(Heap.SameBut.update (a:=S) ..).1
 refine DB (xs:=xs) (ys:=ys) (n:=n) hh D q Bu wX P K Bs Br (oth _ _ q hz) (oth _ _ wX ak) (oth _ _ Bu ar) (V.at λo e=>oth _ o P e) (Q.at λo e=>oth _ o K e) (aN.at λo e=>oth _ o Bs e) (aM.at λo e=>oth _ o Br e) en hn .none _ g (λh' tk acc c as hk ay hl hG gL=>?_)
 rw[hsz]at hG;exact hR h' tk acc c as (λb o b1 b2 b3 b4 b5 e=>hk b o b1 b2 b3 b4 b5 (oth b o b1 e)) ay hl hG gL
def K9{E:B->ϋ->Prop}{Q:B->ϋ->Prop}{TI TO:J}(hh:A.handled=Y)(D:ZipApart z TI TO i1 i2 l1 l2)
  (hz:IsZip s.heap z TI TO .none) {ta tb:B} (P:IsPair s.heap TO ta tb) (V:IsPair s.heap TI (.ref i1) (.ref i2)) (K:aS s.heap t1 i1 l1 0) (q:aS s.heap t2 i2 l2 0) (ar:bc s.heap t1 l1 xs) (ak:bc s.heap t2 l2 ys)
  (en:n=min xs.size ys.size) (hn:n<=pY)
  (hQ:∀h' tk acc c as,(∀b o,b≠z->b≠TO->b≠i1->b≠i2->s.heap.get? b=Z o->h'.get? b=Z o)->h'.get? s.heap.objs.size=Z {cls:=.type "list",dict:=Y,data:=.seq acc c,slots:=#[]}->as.length=n->ZG xs ys (s.heap.objs.size+1) h' as ->
   acc.toList=as.map B.ref->Q (.ref s.heap.objs.size) {s with heap:=h',toks:=tk}):
  wpAny (model prog w) A (call (.type "list") [.ref z]) Q E s:=by
 refine callType_codes (Q₁:=λobj g=>obj=.ref s.heap.objs.size/\g={s with heap:=s.heap.push (~~~#[])}) PySem.F.called_list (PySem.F.typeCall_list_1 _) PySem.F.entry_list_init
  (code_list_new _ (U,U)) λobj g h₁=>?_
 let(U,U):=h₁;have hS:(s.heap.push (~~~#[])).get? s.heap.objs.size=Z (~~~#[]):=px _ U;let(aW,g1,_):=K.obj;let(aR,g2,_):=q.obj;let(aN,g3):=ar.obj;let(aM,g4):=ak.obj;have up:∀b o,s.heap.get? b=Z o->(s.heap.push (~~~#[])).get? b=Z o:=λb o e=>f9 _ e
 refine((_,hS,U),PySem.F.args_list_init_2 _ _,K8 hh D (sT (kn hz)) (sT (kn V)) (sT (kn P)) (sT (kn g1)) (sT (kn g2)) (sT (kn g3)) (sT (kn g4))
  (up _ _ hz) (up _ _ P) (up _ _ V) (K.at λo e=>up _ o e) (q.at λo e=>up _ o e) (ar.at λo e=>up _ o e) (ak.at λo e=>up _ o e) en hn hS (λh' tk acc c as hk ay hl hG gL=>?_))
 rw[BS]at hG;exact(U,hQ h' tk acc c as (λb o b2 b3 b4 b5 e=>hk b o (sT (kn e)) b2 b3 b4 b5 (up b o e)) ay hl hG gL)
end
def Fg(h:Do)(m:Nat):Do:={h with objs:=h.objs.extract 0 m}
def mL{h:Do}{m b:Nat}(g:b<m):(Fg h m).get? b=h.get? b:=by
 unfold Fg Heap.get?;have e:(h.objs.extract 0 m)[b]?=h.objs[b]?:=by
  rw[Array.getElem?_extract];by_cases q:b<h.objs.size
  ·rw[if_pos (by lia),Ks]
  ·rw[if_neg (by lia),XX (by lia)]
 simp only[e]
def sA{h:Do}{m:Nat}(hm:m<=h.objs.size):(Fg h m).objs.size=m:=by
 unfold Fg;rw[Array.size_extract]
 lia
def NT{h:Do}{m:Nat}{b:J}{u:Obj}(hm:m<=h.objs.size)(e:(Fg h m).get? b=Z u):h.get? b=Z u:=by
 have:=kn e
 rw[sA hm]at this;rw[<- mL this];exact e
def m9(H:Hp):List (J×HO)->Hp
 |[]=>H
 |p::r=>m9 (upd H p.1 p.2) r
theorem m7:∀{os:List (J×HO)}{H:Hp}{c:J},c ∉ os.map (·.1)->m9 H os c=H c
 |[],_,_,_=>rfl
 |p::r,H,c,h=>by
  show m9 (upd H p.1 p.2) r c=H c;rw[m7 (λz=>h (jQ _ z)),ao λz=>h (by rw[z];exact lj)]
theorem m8:∀{os:List (J×HO)}{H:Hp}{p:J×HO},(os.map (·.1)).Nodup->p∈os->m9 H os p.1=Z p.2
 |q::r,H,p,hn,hp=>by
  have h':=v3.mp hn;show m9 (upd H q.1 q.2) r p.1=Z p.2;obtain rfl|hp:=pj.mp hp
  ·rw[m7 h'.1,au]
  ·exact m8 h'.2 hp
theorem xJ:∀as:List J,Vals (as.map V.ref) (as.map B.ref)
 |[]=>.nil
 |a::r=>.cons U (xJ r)
theorem Inv.Je{X:Cx}{gd:List (J×Obj)}{σ:St}{s:ϋ}{h':Do}:∀{os:List (J×HO)}{H:Hp}{m:Nat},Inv X gd σ H {s with heap:=Fg h' m}->m<=h'.objs.size->(os.map (·.1)).Pairwise (· < ·)->(∀p∈os,m<=p.1/\p.1<h'.objs.size) ->
  (∀p∈os,∀(H2:Hp)(P:Do),P.get? p.1=h'.get? p.1->bH X.prog X.w H2 P p.1 p.2)->Inv X gd σ (m9 H os) {s with heap:=h'}
 |[],H,m,I,hm,_,_,_=>I.kept λb u e=>NT hm e
 |p::r,H,m,I,hm,hp,Q,ho=>by
  have g:=YX.mp hp;let(b1,b2):=Q p lj;have K:=b2;have V:=by
   refine I.laid (t':=s.toks) (λb u e=>?_) ?_ (ho p lj _ _ (mL (W7 _)))
   ·have lt:=kn e;rw[sA hm]at lt;have z:=sS lt (ui b1 (Y9 _));rw[mL z,<- mL lt];exact e
   ·rw[sA hm];exact b1
  exact Inv.Je (os:=r) V K g.2 (λq hq=>(g.1 q.1 (n8.mpr (q,hq,U)),(Q q (jQ _ hq)).2)) λq hq=>ho q (jQ _ hq)
def qj(K:BT)(tl:TA):TE:=λσ H R=>tl σ H λvs H1=>∃l1 l2 xs ys,vs=[.ref l1,.ref l2]/\SqT K H1 l1 xs/\SqT K H1 l2 ys/\∀(H2:Hp)(L:J)(ps:List J),H1 L=Y->ps.length=min xs.length ys.length->ps.Nodup->(∀p∈ps,H1 p=Y/\p≠L)->(∀c,c ∉ ps->c≠L->H2 c=H1 c)->H2 L=Z (.lst (ps.map V.ref))->(∀(j:Nat) p x y,ps[j]?=Z p->xs[j]?=Z x->ys[j]?=Z y->H2 p=Z (.tup [x,y]))->R (.ref L) H2
section
variable{a b:Ev}{tl:TA}{pos p fq p2:Pos}
def AN(hg:Gl X "list")(hm:X.mg "list"=Y)(bz:Gl X "zip")(bg:X.mg "zip"=Y)(ha:PA X [a,b] tl)(hs:pq [a,b] X.env=[(ϊ,eval a X.env),(ϊ,eval b X.env)])(aN:AD X b)
  (aM:pq [.Call (.Name "zip" p2) [a,b] [] fq] X.env=(ϊ,eval (.Call (.Name "zip" p2) [a,b] [] fq) X.env)::pq [] X.env) (hc:X.calm=O):
  PE X (.Call (.Name "list" p) [.Call (.Name "zip" p2) [a,b] [] fq] [] pos) (qj X.K tl):=by
 intro gd s σ H R I h;refine Call_ (gK I hg hm (by kernel_rfl) (PyProof.Rows.callWith_type1 (T:="list") ?_ aM ba))
 rw[aM];refine Calls.spliced_cons ?_;refine Call_ (gK I bz bg (by kernel_rfl) (PyProof.Rows.callWith_type1 (T:="zip") (thn (ha fq gd s σ H _ I h) λus s1 (vs,H1,P,r1,q1)=>?_) (by rw[hs,aN]) (by rw[aN];rfl)))
 let(l1,l2,xs,ys,e,q2,q3,q):=q1;subst e;let(u1,u2,U,aW,aR):=vals2 r1;cases aW;cases aR;let(V6,ak,o1,z1):=P.GX (tp:=O) q2;let(iL,Q,o2,z2):=P.GX (tp:=O) q3;let(cg,e1):=o1.obj;let(b0,e2):=o2.obj;have g1:l1<s1.heap.objs.size:=kn e1;have g2:l2<s1.heap.objs.size:=kn e2;refine xk o1 o2 λh1 hz bK bI bt br hk=>?_
 refine Calls.spliced_nil ?_;have nz:s1.heap.objs.size+4<h1.objs.size:=kn hz;have bb:=ak.length;have a0:=Q.length;refine K9 (t1:=O) (t2:=O) (xs:=V6.toArray) (ys:=iL.toArray) (n:=min xs.length ys.length) (P.ok.hd hc) (xG g1 g2) hz bI bK bt br (o1.at λo e=>hk _ o e) (o2.at λo e=>hk _ o e) (by simp[bb,a0]) ap λh' tk acc c as bh hS hl g gL=>?_
 have fr:∀b u,s1.heap.get? b=Z u->h'.get? b=Z u:=λb u e=>by
  have lt:b<s1.heap.objs.size:=kn e;have ne:∀m:Nat,s1.heap.objs.size<=m->b≠m:=λm hm z=>absurd (z▸lt:m<s1.heap.objs.size) ap
  exact bh b u (ne _ ap) (ne _ ap) (ne _ (ot _)) (ne _ ap) (hk b u e)
 have I2:=P.kept (t':=tk) λb u e=>by rw[mL (kn e)];exact fr b u e
 have lS:h1.objs.size<h'.objs.size:=kn hS;have keys:(((Prod.mk h1.objs.size (HO.lst (as.map V.ref))) ::(as.zip (xs.zip ys)).map λp=>(Prod.mk p.1 (HO.tup [p.2.1,p.2.2]))).map (·.1))=h1.objs.size::as:=by
  rw[x2,u4]
  congr 1
  have:((λx:J×HO=>x.1) ∘ λp:J×V×V=>(p.1,HO.tup [p.2.1,p.2.2]))=Prod.fst:=rfl
  rw[this,Yv (by rw[Xi];omega)]
 have pw:(h1.objs.size::as).Pairwise (· < ·):=YX.mpr (λa ha=>g.above a ha,g.rise)
 have at':∀(j:Nat)(p:J×V×V),(as.zip (xs.zip ys))[j]?=Z p->as[j]?=Z p.1/\xs[j]?=Z p.2.1/\ys[j]?=Z p.2.2:=λj p hp=>by
  have h1:=W6.mp hp;have h2:=W6.mp h1.2;exact(h1.1,h2.1,h2.2)
 have I3:=Inv.Je (X:=X) (s:={s1 with toks:=tk}) (m:=s1.heap.objs.size) (h':=h') I2 ap (by rw[keys];exact pw) (λp hp=>?_) (λp hp H2 hh e=>?_)
 ·have nd:(h1.objs.size::as).Nodup:=pw.imp λh=>sT h
  have ay:=v3.mp nd;refine(.ref h1.objs.size,_,I3,U,q _ h1.objs.size as (P.hok.fresh ap) hl ay.2 (λp hp=>(P.hok.fresh ?_,λz=>ay.1 (z▸hp))) (λc c1 c2=>?_) ?_ (λj p x y hp hx hy=>?_))
  ·have:=g.above p hp
   exact ui (show s1.heap.objs.size<=h1.objs.size+1 by omega) this
  ·exact m7 (by rw[keys];exact λz=>(pj.mp z).elim c2 c1)
  ·exact m8 (by rw[keys];exact nd) lj
  ·have hz:(as.zip (xs.zip ys))[j]?=Z (p,x,y):=W6.mpr (hp,W6.mpr (hx,hy));exact m8 (p:=(p,HO.tup [x,y])) (by rw[keys];exact nd) (jQ _ (n8.mpr (_,mu hz,U)))
 ·have:p.1∈h1.objs.size::as:=by rw[<- keys];exact n8.mpr (p,hp,U)
  obtain z|z:=pj.mp this
  ·rw[z];exact(by omega,lS)
  ·have ab:=g.above p.1 z;exact(ui (show s1.heap.objs.size<=h1.objs.size+1 by omega) ab,g.there z)
 ·obtain rfl|hp:=pj.mp hp
  ·refine(by rw[dN];omega,acc.toList,c,by rw[gL];exact xJ as,?_)
   rw[e];exact hS
  ·let(t,ht,U):=n8.mp hp;let(j,hj):=List.getElem?_of_mem ht;let(a1,a2,a3):=at' j t hj;let(x,y,x1,y1,pr):=g.pairs j t.1 a1;let(u1,w1,r1):=ak.get a2;let(u2,w2,r2):=Q.get a3;rw[Xy,w1]at x1;cases x1;rw[Xy,w2]at y1;cases y1;have ar:hh.get? t.1=_:=e.trans pr;exact(by show 2<=pY;decide,[x,y],.cons r1 (.cons r2 .nil),((_,ar,U,_,U),_,ar,U))
end
section
variable{w:Cl}{s:ϋ}
theorem E7{e:J}{i:Nat}{x old:B}{Q:Option B->ϋ->Prop}
  (he:IsEnum s.heap e it i old) (hit:aS s.heap tp it l i) (hl:bc s.heap tp l items) (hx:items[i]?=Z x) (K:e≠it)
  (hQ:∀h',IsEnumOut h' e it ((i:Int)+1) x s.heap.objs.size->aS h' tp it l (i+1)->h'.get? s.heap.objs.size=Z {cls:=.type "tuple",data:=.seq #[.int i s.toks,x]}->h'.objs.size=s.heap.objs.size+1 ->
   (∀b o,b≠e->b≠it->s.heap.get? b=Z o->h'.get? b=Z o)->Q (Z (.ref s.heap.objs.size)) {s with heap:=h',toks:=s.toks+1}):wpAny (model prog w) A (pyNext (.ref e)) Q E s:=by
 have hT:s.TypeIs (.ref e) "enumerate":=(_,he,U);let(hp,g,d,tk,os):=s;refine fu (XO (wpAny_callSpecial?_slot hT F.slot_enumerate_next (S9 F.slot_enumerate_next hT F.entry_enumerate_next ?_ (F.args_enumerate_next_1 _))));show wpAny _ _ (field (.ref e) 2 >>= _) _ _ _;refine fu (wpAny_field he U U ?_);refine fu (next_item hit hl hx λh1 Wh ar=>?_)
 have ay:=(ar.2 e K).trans he;refine fu (wpAny_field ay U U ?_);refine fu (wpAny_field ay U U ?_);refine fu (wpAny_mkInt ?_);refine fu (wpAny_setField_rec ay ad λh2 bI ak=>?_)
 refine fu (wpAny_setField_rec bI ad λh3 bz V=>?_)
 show wpAny _ _ (newTuple [.int i tk,x] >>= _) _ _ (h3,g,d,tk+1,os);refine fu (wpAny_newTuple ?_);have P:IsEnum (h3.push {cls:=.type "tuple",data:=.seq #[.int i tk,x]}) e it ((i)+1) old:=f9 _ bz;have hsz:h3.objs.size=hp.objs.size:=by rw[V.1,ak.1,ar.1]
 have bg:=kn he;have aR:(h3.push {cls:=.type "tuple",data:=.seq #[.int i tk,x]}).get? hp.objs.size=Z {cls:=.type "tuple",data:=.seq #[.int i tk,x]}:=by rw[<- hsz];exact px _ U
 have aN:(h3.push {cls:=.type "tuple",data:=.seq #[.int i tk,x]}).objs.size=hp.objs.size+1:=by rw[BS,hsz]
 have bb:∀b o,b≠e->b≠it->hp.get? b=Z o->(h3.push {cls:=.type "tuple",data:=.seq #[.int i tk,x]}).get? b=Z o:=λb o q aM hb=>f9 _ (V.extBut b o q (ak.extBut b o q (ar.extBut b o aM hb)))
 have UU:aS (h3.push {cls:=.type "tuple",data:=.seq #[.int i tk,x]}) tp it l (i+1):=Wh.at λo eo=>f9 _ (V.extBut _ o K.symm (ak.extBut _ o K.symm eo))
 generalize h3.push {cls:=.type "tuple",data:=.seq #[.int i tk,x]}=h4 at P aR aN bb UU
 rw[hsz];refine fu ?_;refine fu (wpAny_field P U U (mX ?_));refine fu (Xc (fu (wpAny_field P U (x:=old) U (fu (wpAny_setField_rec P ad λh5 bt a3=>?_)))))
 refine fu ?_;refine fu (wpAny_setField_rec bt ad λh6 br a0=>?_)
 refine wpAny_setField_rec br ad λh7 bh aW=>?_
 have up:∀c o,c≠e->h4.get? c=Z o->h7.get? c=Z o:=λc o hc z=>aW.extBut _ _ hc (a0.extBut _ _ hc (a3.extBut _ _ hc z))
 refine fu (wpAny_letGo (mX (_,U,mX (hQ h7 bh (UU.at λo eo=>up _ o K.symm eo) (up _ _ (E3 bg) aR) ?_ λb o q aM hb=>up b o q (bb b o q aM hb)))))
 rw[aW.1,a0.1,a3.1,aN]
theorem JP{e:J}{i:Nat}{old:B}{Q:Option B->ϋ->Prop}(z:A.handled=Y)
  (he:IsEnum s.heap e it i old) (hit:aS s.heap tp it l i) (hl:bc s.heap tp l items) (hx:items[i]?=Y) (P:∀h',Za it s.heap h'->Q Y {s with heap:=h'}):wpAny (model prog w) A (pyNext (.ref e)) Q E s:=by
 have hT:s.TypeIs (.ref e) "enumerate":=(_,he,U);refine fu (XO (wpAny_callSpecial?_slot hT F.slot_enumerate_next (S9 F.slot_enumerate_next hT F.entry_enumerate_next ?_ (F.args_enumerate_next_1 _))));show wpAny _ _ (field (.ref e) 2 >>= _) _ _ _;refine fu (wpAny_field he U U ?_);refine fu (next_end z hit hl hx λh' x q g=>?_)
 let(o,ho,K):=g;refine fu (XJ (o,ho,K) isSubtype_stop ?_);exact mX (P _ q)
abbrev eH1(tp:Bool)(h:Do)(l:J):Do:=h.push {cls:=.type (itc tp),data:=.fields #[.ref l,.int 0 0]}
abbrev eH2(tp:Bool)(h:Do)(l:J):Do:=(eH1 tp h l).push {cls:=.type "enumerate",data:=.fields #[.none,.bool ϊ,.ref h.objs.size,rawInt 0,.none,.none]}
def rH(tp:Bool)(l:J)(xs:Array B):
  Meets (Builtin.«enumerate.__new__» ([.type "enumerate",.ref l],[])) (λ_ R s=>bc s.heap tp l xs/\R (.ok (.ret (.ref (eH1 tp s.heap l).objs.size))) {s with heap:=eH2 tp s.heap l}):=
 .of_wp λprog w A R s h=>by
  let(hl,h):=h;have q:=sub_enumerate;have g:=hl
  wp_walk
  refine wpAny_stack_any λst=>mX ?_
  split
  ·rename_i c _ _ _ _ _
   cases(c==B.type "enumerate")
   ·wp_walk using jG g
    exact(_,U,h)
   ·wp_walk using jG g
    exact(_,U,h)
  ·wp_walk using jG g
   exact(_,U,h)
theorem uv(hl:bc s.heap tp l xs)
  (h:∀h',IsEnum h' (s.heap.objs.size+1) s.heap.objs.size 0 .none->aS h' tp s.heap.objs.size l 0->(∀b o,s.heap.get? b=Z o->h'.get? b=Z o)->Q (.ref (s.heap.objs.size+1)) {s with heap:=h'}):
  wpAny (model prog w) A (call (.type "enumerate") [.ref l]) Q E s:=by
 refine callType_new F.called_enumerate ac (F.typeCall_enumerate_1 _) (F.newCall_enumerate_1 _) (λobj=>F.args_object_init_2 obj _) F.entry_enumerate_new (rH tp l xs) (hl,?_)
 have g:(eH1 tp s.heap l).objs.size=s.heap.objs.size+1:=BS ..;have g2:(eH2 tp s.heap l).get? (eH1 tp s.heap l).objs.size=Z _:=px _ U;have g1:(eH2 tp s.heap l).get? s.heap.objs.size=Z _:=f9 _ (px _ U);rw[g]at g2 ⊢;exact((_,g2,U),h _ g2 (jq g1) λc o x=>f9 _ (f9 _ x))
end
def Ite(K:BT)(tp:Bool)(l:J):It:=
 (λi H=>∃xs x,SqB K tp H l xs/\xs[i]?=Z x,
   λi H v H'=>∃(p:J)(x:V),H p=Y/\v=.ref p/\H'=upd H p (.tup [.int i,x])/\∀xs,SqB K tp H l xs->xs[i]?=Z x,
   λi H=>∃xs,SqB K tp H l xs/\xs.length<=i)
variable{P:Da}{elts:List Ev}
theorem DX{w:Cl}{K:BT}{x1}{pos:Pos}(e it l:J)(Q:e≠it):
  Turn P w K (.Tuple elts x1 pos) (Ite K tp l) [e,it] e (λi h=>(∃old,IsEnum h e it i old)/\aS h tp it l i) where
 mem:=by simp
 obj:=by
  rintro i h ⟨⟨old,h1⟩,h2⟩ c q
  simp only[pj,xy,or_false]at q;obtain rfl|rfl:=q
  ·exact(_,h1,λv e=>by cases e)
  ·exact h2.obj
 keep:=by
  rintro i h h' ⟨⟨old,h1⟩,h2⟩ k
  exact((old,k e ad _ h1),h2.at λo z=>k it ad o z)
 item:=by
  intro X hP hw hK q i gd s σ H E I hf st hg;subst hP hw hK;let((old,h1),h2):=st;let(xs,x,q1,e1):=hg;let(its,rv,o1,z1):=I.GX q1;let(u1,ay,ar):=rv.get e1;refine E7 h1 h2 o1 (x:=u1) (ay:) Q λh' aM aR aW V9 aN=>(_,U,(wpAny_letOwnedTupleGo_enum aM λak NA RW=>?_))
  have hn:=I.hok.fresh (ot s.heap.objs.size);have le:=kn h1;let(oi,a0,_):=h2.obj;have li:=kn a0;have V3:∀b ∈ [e,it],b≠s.heap.objs.size:=λb g=>by
   simp only[pj,xy,or_false]at g;obtain rfl|rfl:=g
   ·exact sT le
   ·exact sT li
  have up:∀c o,c≠e->h'.get? c=Z o->ak.get? c=Z o:=λc o q z=>RW.extBut _ _ q z
  have I1:Inv X gd σ (upd H s.heap.objs.size (.tup [.int i,x])) {s with heap:=s.heap.push {cls:=.type "tuple",data:=.seq #[.int i s.toks,u1]},toks:=s.toks+1}:=
   I.laid (λb u z=>f9 _ z) (ot _) (by show 2<=pY;decide,[.int i s.toks,u1],.cons (_,U) (.cons ar .nil),((_,px _ U,U,_,U),_,px _ U,U))
  have V:∀b ∈ [e,it],sV X gd (upd H s.heap.objs.size (.tup [.int i,x])) b:=λb g=>by
   let(f0,r):=hf b g;exact(by rw[ao (V3 b g)];exact f0,r)
  have I2:=by
   refine I1.pA (h':=ak) (t':=s.toks+1) (λb o g z=>?_) V
   simp only[pj,xy,or_false,not_or]at g;let(b1,b2):=g;obtain⟨rfl,rfl⟩|z':=YF z
   ·exact up _ _ b1 aW
   ·exact up _ _ b1 (aN b o b1 b2 z')
  exact(.ref s.heap.objs.size,upd H s.heap.objs.size (.tup [.int i,x]),I2,U,(_,x,hn,U,U,λzs hz=>by rw[I.GW hz q1];exact e1),(((_,(NA:)),aR.at λo z=>up _ _ Q.symm z)),λb g=>(V b g).1)
 done:=by
  intro X hP hw hK q i gd s σ H E I hf st hg;subst hP hw hK;let((old,h1),h2):=st;let(xs,q1,wW):=hg;let(its,rv,o1,z1):=I.GX q1;have g1:=rv.length;refine JP (I.ok.hd q) h1 h2 o1 (by simp;lia) λh' k=>(U,I.pA (λb o g z=>?_) hf)
  simp only[pj,xy,or_false,not_or]at g;exact k b o g.2 z
 self:=λ_ _ _ _ _ st h=>let((_,z),_):=st;wpAny_pyIter_enum z h
def rR(K:BT)(tp:Bool)(ta:TA):TI:=λσ H R=>ta σ H λvs H1=>∃l,vs=[.ref l]/\(∃xs,SqB K tp H1 l xs)/\R (Ite K tp l) H1
variable{pos':Pos}
def MC{x1}{a:Ev}{ta:TA}{p pos:Pos}(hg:Gl X "enumerate")(hm:X.mg "enumerate"=Y)(jJ:bootBuiltins "enumerate"=Z (.type "enumerate"))(ha:PA X [a] ta)(hs:‹AD X a›):
  PI X (.Tuple elts x1 pos') (.Call (.Name "enumerate" p) [a] [] pos) (rR X.K tp ta):=by
 intro gd s σ H R I h;refine Call_ (gK I hg hm jJ (PyProof.Rows.callWith_type1 (thn (ha pos gd s σ H _ I h) λus s1 (vs,H1,P,r1,q1)=>?_) hs U))
 let(l,e,(xs,q2),q):=q1;subst e;let(u1,U,Q):=vals1 r1;cases Q;let(its,rv,o1,z1):=P.GX q2;refine uv o1 λh' he hi hk=>wpAny_pyIter_enum he ?_
 refine(_,[s1.heap.objs.size+1,s1.heap.objs.size],_,_,H1,U,P.kept hk,DX _ _ l (λz=>absurd (show @Eq Nat _ _ from z) (by lia)),((_,he),hi),λc V=>?_,q)
 have g:s1.heap.objs.size<=c:=by
  simp only[pj,xy,or_false]at V;obtain rfl|rfl:=V <;> first|exact Nat.le_add_right _ _|exact ot _
 exact P.E2 g (P.hok.fresh g)
end L2
namespace PySem
open Sem (wp)
end PySem
namespace L2
open PySem PySem.Spec PyProof.Rows
def Paired.at_{α β:Type}{r:α->β->Prop}{xs:List α}{ys:List β}(h:Paired r xs ys):∀{i:Nat}{y:β},ys[i]?=Z y->∃x,xs[i]?=Z x/\r x y:=by
 induction h with
 |nil=>intro i y h;simp at h
 |cons h1 _ q =>
  intro i y g;cases i with
  |zero=>simp at g;subst g;exact(_,U,h1)
  |succ i=>simpa using q (g:)
variable{kvs:List (Key×V)}
section
variable{X:Cx}{gd:List (J×Obj)}{σ:St}{H:Hp}{s:ϋ}{a:J}{u u':HO}
def Inv.Cf(I:Inv X gd σ H s)(ha:H a=Z u)(h1:∀xs,u ≠ .tup xs)(h2:∀c,u ≠ .own c)(h3:∀ps,u ≠ .tbl ps)(K:∀o v,X.bd a≠Z (.frz o v))(new:bH X.prog X.w (upd H a u') s.heap a u'):Inv X gd σ (upd H a u') s:=by
 have ne:∀{b:J},H b=Y->b≠a:=λ{b} e z=>by rw[z,ha]at e;cases e
 refine(I.ok,I.os,I.bare,(I.base.keep,I.base.slot,λb o e n hx=>?_,I.base.there,λb xs e=>?_,λb o v e=>?_,λb ps e=>?_),I.loc,I.cell,?_,λx c e=>?_,λp hp=>?_,λb o e=>?_,I.len)
 ·have:=I.base.free b o e n hx
  rw[ao (ne this)];exact this
 ·have:=I.base.lG b xs e
  rw[ao λz=>by rw[z,ha]at this;exact h1 xs (Option.some.inj this)]
  exact this
 ·have:=I.base.jl b o v e
  rw[ao λz=>by rw[z]at e;exact K o v e]
  exact this
 ·let(more,this):=I.base.lH b ps e;refine(more,?_);rw[ao λz=>by rw[z,ha]at this;exact h3 _ (Option.some.inj this)]
  exact this
 ·rw[ao (ne I.free)];exact I.free
 ·rw[ao (ne (I.dM x c e))];exact I.dM x c e
 ·let(p1,p2,p3):=I.pin p hp;exact(p1,by rw[ao (ne p2)];exact p2,p3)
 ·by_cases g:b=a
  ·subst g;rw[au]at e;cases e;exact new
  ·rw[ao g]at e;refine(I.hok b o e).dq (λ_ _ _ q=>q) (λc q=>?_) λc xs q=>?_
   ·rw[ao λz=>by rw[z,ha]at q;exact h2 _ (Option.some.inj q)];exact q
   ·rw[ao λz=>by rw[z,ha]at q;exact h1 _ (Option.some.inj q)];exact q
def Inv.freeze(I:Inv X gd σ H s)(ha:H a=Z (.dK kvs)):(∀o v,X.bd a≠Z (.frz o v))/\∃o,Inv X gd σ (upd H a (.frz o (.dK kvs))) s:=by
 have g:∀o v,X.bd a≠Z (.frz o v):=λo v e=>by
  have:=I.base.jl a o v e
  rw[ha]at this;cases this
 let(z,hs,vs,r,o,es,ep,e,c):=(I.hok a _ ha);exact(g,o,I.Cf ha nofun nofun nofun g (e,z,hs,vs,r,o,es,ep,e,c))
end
def Itd(a:J)(o:Obj)(kvs:List (Key×V)):It:=
 (λi H=>H a=Z (.frz o (.dK kvs))/\i<kvs.length,λi H v H'=>H'=H/\∃kv,kvs[i]?=Z kv/\v=kV kv.1,λi H=>H a=Z (.frz o (.dK kvs))/\kvs.length<=i)
variable{P:Da}
def Bg{w:Cl}{k:Key}{v:B}(h:(bf P w).is k v=O):RelV (kV k) v:=by
 obtain⟨i,t,rfl,rfl⟩|⟨x,t,rfl,rfl⟩:=bS (k:=k) (v:=v) h
 ·exact(t,U)
 ·exact(t,U)
variable{X:Cx}{gd:List (J×Obj)}{H:Hp}{d:J}{ep:Nat}
def kZ{σ:St}{s:ϋ}{o:Obj}{es:Array Y8}(I:Inv X gd σ H s)(hd:H d=Z (.frz o (.dK kvs)))(ho:o.data=.dict es ep):
  (d==sysModules)=ϊ/\∃vs,KV kvs vs/\s.heap.DictAt (bf X.prog X.w) d vs ep:=by
 let(e,z,hs,vs,r,o',K,P,q,c,g,rest):=(show bH X.prog X.w H s.heap d (.frz o (.dK kvs))from I.hok d _ hd);rw[e]at q;cases q;rw[ho]at g;cases g;exact(hs,vs,r,o,es,e,c,ho,rest)
variable{tg:Ev}
theorem z6{w:Cl}{K:BT}(d it:J)(o:Obj)(kvs:List (Key×V))(es:Array Y8)(ep:Nat)(ho:o.data=.dict es ep):Turn P w K tg (Itd d o kvs) [it] it (λi h=>h.IsKeyIter it d i kvs.length ep) where
 mem:=by simp
 obj:=λi h st b q=>by
  have e:b=it:=(q:)
  subst e;let(o,e,c,d):=st;exact(o,e,λv z=>by rw[d]at z;cases z)
 keep:=λi h h' st k=>let(o,e,r):=st;(o,k it ad o e,r)
 item:=by
  intro X Q hw hK hc i gd s σ H E I hf st hg;subst Q hw hK;let(hd,ak):=hg;let(_,vs,r,at_):=kZ I hd ho;have l1:kvs.length=vs.length:=Paired.length r;have hv:vs[i]?=Z (vs[i]' ap):=gs ap
  let(kv,ek,e1,_):=Paired.at_ r hv;let(f0,f1,f2,f3,f4,f5):=hf it ad
  rw[l1]at st;refine wpAny_pyNext_dict_item st at_ (k:=vs[i].1) (v:=vs[i].2) hv λkey h' wV g sb=>?_
  have I1:Inv X gd σ H {s with heap:=h'}:=I.turned (t':=s.toks) (λb o q e=>(sb.2 b q).trans e) f0 f1 f3 f4 f5
  let(oi,e,c,dd):=id g;rw[<- l1]at g;exact(key,U,CW (s:={s with heap:=h'}) e c dd ac (kV kv.1,H,I1,Bg (by rw[e1];exact wV),(U,kv,ek,U),g,λb q=>(hf b q).1))
 done:=by
  intro X Q hw hK hc i gd s σ H E I hf st hg;subst Q hw hK;let(hd,hle):=hg;let(_,vs,r,at_):=kZ I hd ho;have l1:kvs.length=vs.length:=Paired.length r;let(f0,f1,f2,f3,f4,f5):=hf it ad
  rw[l1]at st;exact wpAny_pyNext_dict_end (I.ok.hd hc) st at_ (UZ ap) λh' eb=>(U,I.turned (t':=s.toks) (λb o q e=>eb b o q e) f0 f1 f3 f4 f5)
 self:=λ_ _ _ _ _ st h=>wpAny_pyIter_keyiter st h
def Jw(te:TE):TI:=λσ H R=>te σ H λx H1=>∃d o kvs,x=.ref d/\H1 d=Z (.frz o (.dK kvs))/\R (Itd d o kvs) H1
variable{e:Ev}{te:TE}
def Il(he:PE X e te):PI X tg e (Jw te):=by
 intro gd s σ H R I h;refine thn (he gd s σ H _ I h) λu s1 K=>?_
 let(x,H1,g,r1,d,o,kvs,ex,hd,q):=K;subst ex;cases r1;let(eo,z,ak,V,r0,o',es,ep,Q,c,P,rest):=(show bH X.prog X.w H1 s1.heap d (.frz o (.dK kvs))from g.hok d _ hd);rw[eo]at Q;cases Q;let(hs,vs,r,at_):=kZ g hd P;have l1:kvs.length=vs.length:=Paired.length r;refine wpAny_pyIter_dict hs at_ ?_;refine(_,[s1.heap.objs.size],_,_,H1,U,g.kept (t':=s1.toks) (λb o e=>f9 _ e),z6 d _ o kvs es ep P,(_,px _ U,U,by rw[l1];rfl),λc hc=>?_,q)
 rw[fy.mp hc];exact g.E2 (ot _) (g.hok.fresh (ot _))
end L2
namespace PySem
open Sem (wp)
section
variable{prog:Da}{w:Cl}{A:Db}{E:B->ϋ->Prop}{h:Do}{g:Array YK}{d:Drawn}{t:Nat}{os:OsState}
variable{nm q:Str}{C N:J}{bs bm bmB:List B}{kX:Bool}{sn:List Str}{sub:List B}{ab:Bool}{col:Option Bool}{dd:Option J}{k0 k1 k2 k3 k5:Option B}{Zg newId Js:String}
theorem oJ(F:ExcBaseFacts Zg newId Js bmB)(T:OwnTail h bmB bm){mN:Str->Option B}{rest:List B}{fI:J}{oI:Obj}{Q:Fin->ϋ->Prop}
  (K:h.get? C=Z (excClassObj nm q C N bs bm kX sn sub ab col dd k0 k1 k2 k3 k5 newId)) (hn:h.Ns N mN) (hi:mN "__init__"=Z (.ref fI)) (ak:h.get? fI=Z oI) (V:oI.cls=.type "function")
  (hq:∀h' e,XA h h' e (.ref C) rest->wpAny (model prog w) A (call (.ref fI) (.ref e::rest)) (λr s'=>r=.none/\Q (.done (.ret (.ref e))) s') E (h',g,d,t,os)) (rS:rest.length<=pY):
  wpAny (model prog w) A (Builtin.«type.__call__» (.ref C::rest,[])) Q E (h,g,d,t,os):=by
 repeat (first|with_reducible refine wpAny_loadPart_at K ?_|with_reducible refine wpAny_madeBy_exc K ?_|wp_step)
 refine codeAny_call_builtin_code (Code.quiet_builtin _ F.quiet) (wpAny_check_new_subT F T K ?_);refine codeAny_exc_new_subT F T K ?_ rS;show wpAny _ _ _ _ _ _;have z:=f9 {cls:=.ref C,data:=.fields #[.ref h.objs.size,.none,.none,.none,.bool ϊ,.none]} (f9 {cls:=.type "tuple",data:=.seq rest.toArray} K);have Wj:=f9 {cls:=.ref C,data:=.fields #[.ref h.objs.size,.none,.none,.none,.bool ϊ,.none]} (f9 {cls:=.type "tuple",data:=.seq rest.toArray} ak);have P:((h.push {cls:=.type "tuple",data:=.seq rest.toArray}).push {cls:=.ref C,data:=.fields #[.ref h.objs.size,.none,.none,.none,.bool ϊ,.none]}).Ns N mN:=
  let(o,es,ep,e,r):=hn;(o,es,ep,f9 _ (f9 _ e),r)
 have UW:((h.push {cls:=.type "tuple",data:=.seq rest.toArray}).push {cls:=.ref C,data:=.fields #[.ref h.objs.size,.none,.none,.none,.bool ϊ,.none]}).get? (h.objs.size+1)=Z {cls:=.ref C,data:=.fields #[.ref h.objs.size,.none,.none,.none,.bool ϊ,.none]}:=by heap_get
 have ar:(B.ref C::bm).contains (.ref C)=true:=by simp
 have T1:=T.keeps (h':=(h.push {cls:=.type "tuple",data:=.seq rest.toArray}).push {cls:=.ref C,data:=.fields #[.ref h.objs.size,.none,.none,.none,.bool ϊ,.none]}) λb o e=>f9 _ (f9 _ e)
 unfold isInstance
 repeat (first|with_reducible refine wpAny_loadPart_at UW ?_|(with_reducible refine wpAny_isSubtype_exc z ?_;rw[ar])|wp_step)
 show wpAny _ _ (typeLookup (.ref C) _) _ _ _;refine wpAny_typeLookup_tail z P T1 F.mroIs F.init.lookup ?_;rw[hi];refine FH (fu ?_);unfold bindSpecial;refine fu (WV (T:="function") (_,Wj,V) ?_);rw[if_pos ac]
 refine mX (fu (SH (hq _ (h.objs.size+1) (λb o hb=>f9 _ (f9 _ hb),U9 (Y9 _),h.objs.size,UW,U9 (ot _),?_)) (λr s' hr=>?_) λ_ _ x=>x))
 ·exact f9 _ (Y2 U U)
 ·let(U,hQ):=hr
  wp_walk
  exact hQ
def BI(F:ExcBaseFacts Zg newId Js bmB)(T:OwnTail h bmB bm){mN:Str->Option B}{rest:List B}{V:J}{oI:Obj}{Q:B->ϋ->Prop}
  (z:h.get? C=Z (excClassObj nm q C N bs bm kX sn sub ab col dd k0 k1 k2 k3 k5 newId)) (hn:h.Ns N mN) (hi:mN "__init__"=Z (.ref V)) (P:h.get? V=Z oI) (K:oI.cls=.type "function")
  (hq:∀h' e,XA h h' e (.ref C) rest->wpAny (model prog w) (A.under (.builtin "type.__call__" (.ref C::rest,[]))) (call (.ref V) (.ref e::rest)) (λr s'=>r=.none/\Q (.ref e) s') E (h',g,d,t,os)) (rS:rest.length<=pY):
  wpAny (model prog w) A (call (.ref C) rest) Q E (h,g,d,t,os):=by
 have f1:=tc_lookup;have f2:=tc_bind (.ref C);have hT:((h,g,d,t,os):ϋ).TypeIs (.ref C) "type":=(_,z,U);refine wpAny_call (codeAny_of_tree ?_);show wpAny _ _ (callAny (.ref C) _) _ _ _
 repeat (any_goals (first|assumption|with_reducible refine wpAny_loadPart_at z ?_|wp_step))
 refine(U,?_);refine codeAny_call_builtin_at (Code.quiet_builtin _ (by decide +kernel)) entry_typeCall (wpAny_check_type_call_sub z (oJ F T z hn hi P K (λh' e hm=>?_) rS))
 exact hq h' e hm
end
end PySem
namespace PySem
open Sem (wp)
open Builtin Builtin.ObjectAttr
inductive cA(h:Do)(S:List Str)(bmB:List B):List B->Prop
 |base:cA h S bmB bmB
 |own{A:J}{c0:B}{dd:Option J}{cd:ClassData}{sl:Array (Option B)}{mA:Str->Option B}{tl:List B} :
   h.get? A=Z {cls:=c0,dict:=dd,data:=.cls cd,slots:=sl}->h.Ns cd.ns mA->(∀n∈S,mA n=Y)->cA h S bmB tl->cA h S bmB (.ref A::tl)
def cA.tail{h:Do}{S:List Str}{bmB tl:List B}(q:("__init__":Str)∈S)(T:cA h S bmB tl):OwnTail h bmB tl:=by
 induction T with
 |base=>exact .base
 |own K z hn _ g=>exact .own K z (hn _ q) g
def cA.hasType{h:Do}{S:List Str}{bmB tl:List B}(T:cA h S bmB tl){X:String}{b:Bool}(q:bmB.contains (.type X)=b):tl.contains (.type X)=b:=by
 induction T with
 |base=>exact q
 |own _ _ _ _ g=>rw[BU,g];rfl
def cA.refuse{h:Do}{S:List Str}{bmB tl:List B}(T:cA h S bmB tl)(self:B)(g:Str):refuseLoop self g tl=refuseLoop self g bmB:=by
 induction T with
 |base=>rfl
 |own _ _ _ _ q=>rw[refuseLoop_ref,q]
section
variable{M:Model}{prog:Da}{w:Cl}{A:Db}{E:B->ϋ->Prop}{h:Do}{g:Array YK}{d:Drawn}{t:Nat}{os:OsState}
variable{nm q:Str}{C N x:J}{bs bm bmB:List B}{sn:List Str}{sub:List B}{ab kX:Bool}{col:Option Bool}{dd:Option J}{k0 k1 k2 k3 k5:Option B}{Zg newId sa owner:String}
 {mN mA:Str->Option B} {name:Str} {v:B} {S:List Str}
def zo{y:Option B}{Q:Option B->ϋ->Prop}(hs:name∈S)(T:cA h S bmB bm)(q:lookupAlong bmB name=pure y)(hq:Q y (h,g,d,t,os)):wpAny M A (lookupAlong bm name) Q E (h,g,d,t,os):=by
 induction T with
 |base=>rw[q];exact mX hq
 |own P K hn _ z =>
  rw[lookupAlong_cons];refine fu (wpAny_classOwn_cls P K ?_);rw[hn _ hs];exact z
def cf{y:Option B}{Q:Option B->ϋ->Prop}(hs:name∈S)(K:h.get? C=Z (excClassObj nm q C N bs bm kX sn sub ab col dd k0 k1 k2 k3 k5 newId))(hn:h.Ns N mN)(T:cA h S bmB bm)(z:mroOf (.type Zg)=pure bmB)
  (P:typeLookup (.type Zg) name=pure y) (hq:Q (match mN name with|some v=>Z v|none=>y) (h,g,d,t,os)):wpAny M A (typeLookup (.ref C) name) Q E (h,g,d,t,os):=by
 have V:lookupAlong bmB name=pure y:=by rw[typeLookup_eq,z]at P;exact P
 rw[typeLookup_eq];refine fu (wpAny_mroOf_exc K ?_);rw[lookupAlong_cons];refine fu (wpAny_classOwn_exc K hn ?_);cases hv:mN name with
 |some v=>rw[hv]at hq;exact mX hq
 |none=>rw[hv]at hq;exact zo hs T V hq
def Fl{o:Obj}{z:B}{Q:Unit->ϋ->Prop}(K:StoreFacts Zg bmB sa owner)(T:cA h S bmB bm)
  (hC:h.get? C=Z (excClassObj nm q C N bs bm O sn sub ab col dd k0 k1 k2 k3 k5 newId)) (hx:h.get? x=Z o) (V:o.cls=.ref C) (hq:Q () (h,g,d,t,os)):wpAny M A (checkBuiltinCall sa ([.ref x,z,v],[])) Q E (h,g,d,t,os):=by
 have P:(B.ref C::bm).contains (.type owner)=true:=by rw[BU,T.hasType K.hasOwner,XY]
 have ha:=K.args (.ref x) z v;simp only[checkBuiltinCall,K.kind,K.split];refine fu ?_;unfold isInstance
 repeat (first|(with_reducible refine wpAny_loadPart_at hx ?_;rw[V])|(with_reducible refine wpAny_isSubtype_exc hC ?_;rw[P])|wp_step)
 cases RV:Manifest.signature? sa with
 |none=>exact mX hq
 |some sig =>
  simp only[argsOk,RV]at ha;have h2:Bind.checkArgs sa sig ([.ref x,z,v],[])=pure ():=ha;show wpAny M A (Bind.checkArgs sa sig ([.ref x,z,v],[])) Q E _;rw[h2];exact mX hq
def vM{tk:Tok}{Q:Fin->ϋ->Prop}{ns:List Str}(SF:StoreFacts Zg bmB sa owner)(T:cA h S bmB bm)(hs:name∈S)
  (hC:h.get? C=Z (excClassObj nm q C N bs bm O sn sub ab col dd k0 k1 k2 k3 k5 newId)) (hn:h.Ns N mN) (bI:mN name=Y) (hB:typeLookup (.type Zg) name=pure Y) (cz:x≠C) (I:h.Inst x C mA)
  (hq:∀h' bh,h'.Inst x C (λy=>if y=name then Z v else mA y)->(∀b o,b≠x->(∀z dx,h.get? x=Z z->z.dict=Z dx->b≠dx)->h.get? b=Z o->h'.get? b=Z o) ->
   (∀z,h.get? x=Z z->∃K,h'.get? x=Z K/\K.cls=z.cls/\K.data=z.data/\K.slots=z.slots/\(∀dx,z.dict=Z dx->K.dict=Z dx)/\(z.dict=Y->K.dict=Z h.objs.size))->Q (.done (.ret .none)) (h',g,d,bh,os)) (hw:Within mA ns) (hsz:ns.length+1<=pY):
  wpAny (model prog w) A (Builtin.«object.__setattr__» ([.ref x,.str name tk,v],[])) Q E (h,g,d,t,os):=by
 let(o,hx,hc,aN,hd):=I;have UO:=(T.refuse (.ref x) "__setattr__").trans (SF.passes (.ref x));unfold Builtin.«object.__setattr__»
 repeat (first|rw[refuse_eq]|(rw[refuseLoop_ref,UO])|(with_reducible refine wpAny_loadPart_at hx ?_;rw[hc])|with_reducible refine wpAny_mroOf_exc hC ?_|(with_reducible refine cf hs hC hn T SF.mro hB ?_;rw[bI])|wp_step)
 obtain⟨bg,bK⟩|⟨dx,ak,aM,bt⟩:=hd
 ·rw[bg,if_neg (by simp[typeHasDict])]
  split
  ·rename_i aW;cases aW
  split
  ·rename_i c aW;exact absurd aW (aN c)
  ·have a3:(h.push {cls:=.type "dict",data:=.dict #[]}).get? x=Z o:=f9 _ hx;have ar:x≠h.objs.size:=sT (kn hx);refine fu (wpAny_alloc' ?_);refine fu (wpAny_update' a3 ?_);refine mX ?_;have b0:((h.push {cls:=.type "dict",data:=.dict #[]}).update x λo=>{cls:=o.cls,dict:=Z h.objs.size,data:=o.data,slots:=o.slots}).get? h.objs.size=Z {cls:=.type "dict",data:=.dict #[]}:=
    (YN _ _ _ _ ar.symm).trans (Y2 U U)
   have bz:((h.push {cls:=.type "dict",data:=.dict #[]}).update x λo=>{cls:=o.cls,dict:=Z h.objs.size,data:=o.data,slots:=o.slots}).Ns h.objs.size (λ_=>Y):=
    (_,#[],_,b0,U,λe he=>absurd he ad,λ_=>rfl)
   show wpAny _ _ (storeInDict h.objs.size (.str name tk) name v) _ _ _;unfold storeInDict newKeyGuard;refine fu (mX (fu (wpAny_nsSet1 (Heap.Ns1.of_empty bz) λh' V P=>?_)))
   let(oD,ct,cx,ay,aR,a0):=V.count (Within.cons name v Within.nil);refine fu (wpAny_lookBehind ay (by rw[aR];exact pastItsLine_dict (ui a0 (by rw[ri,Xb,Xe];omega))) ?_)
   wp_walk
   have bb:h'.get? x=Z {cls:=o.cls,dict:=Z h.objs.size,data:=o.data,slots:=o.slots}:=?_;refine hq h' _ ({cls:=o.cls,dict:=Z h.objs.size,data:=o.data,slots:=o.slots},bb,hc,aN,.inr (h.objs.size,U,ar.symm,?_)) (λb ob cj _ hb=>?_)
    (λz h₀=>by obtain rfl:o=z:=Option.some.inj (hx.symm.trans h₀);exact(_,bb,U,U,U,λdx e=>(by rw[bg]at e;cases e),λ_=>rfl))
   ·let(o',es,ep,e1,e2,e3,eu,e4):=V;exact(o',es,ep,e1,e2,e3,eu,λy=>by rw[e4 y];by_cases hy:y=name <;> simp[hy,bK])
   ·exact(P.2 b (sT (kn hb))).trans ((YN _ _ _ _ cj).trans (f9 _ hb))
   ·refine(P.2 x ar).trans (v5 _ a3 ?_);have cg:=(Heap.get?_some_iff.mp hx).2;let(oc,od,br,osl):=o;cases br <;> first|rfl|exact cg
 ·rw[ak];refine mX ?_;show wpAny _ _ (storeInDict dx (.str name tk) name v) _ _ _;unfold storeInDict newKeyGuard;refine fu (mX (fu (wpAny_nsSet1 bt λh' V P=>?_)))
  let(oD,ct,cx,ay,aR,a0):=V.count (Within.cons name v hw);refine fu (wpAny_lookBehind ay (by rw[aR];exact pastItsLine_dict (ui a0 (by rw[ri];omega))) ?_)
  wp_walk
  refine hq h' _ (o,(P.2 x aM.symm).trans hx,hc,aN,.inr (dx,ak,aM,V)) (λb ob _ ck hb=>?_) (λz h₀=>(z,(P.2 x aM.symm).trans h₀,U,U,U,λ_ e=>e,λe=>(by obtain rfl:o=z:=Option.some.inj (hx.symm.trans h₀);rw[ak]at e;cases e)))
  exact(P.2 b (ck o dx hx ak)).trans hb
def oj{Q:Unit->ϋ->Prop}{ns:List Str}(V:StoreFacts Zg bmB sa owner)(T:cA h S bmB bm)(hs:name∈S)(ar:("__setattr__":Str)∈S)
  (hC:h.get? C=Z (excClassObj nm q C N bs bm O sn sub ab col dd k0 k1 k2 k3 k5 newId)) (hn:h.Ns N mN) (ay:mN "__setattr__"=Y) (aM:mN name=Y) (hB:typeLookup (.type Zg) name=pure Y) (ak:x≠C) (I:h.Inst x C mA)
  (hq:∀h' P,h'.Inst x C (λy=>if y=name then Z v else mA y)->(∀b o,b≠x->(∀z dx,h.get? x=Z z->z.dict=Z dx->b≠dx)->h.get? b=Z o->h'.get? b=Z o) ->
   (∀z,h.get? x=Z z->∃K,h'.get? x=Z K/\K.cls=z.cls/\K.data=z.data/\K.slots=z.slots/\(∀dx,z.dict=Z dx->K.dict=Z dx)/\(z.dict=Y->K.dict=Z h.objs.size))->Q () (h',g,d,P,os)) (hw:Within mA ns) (hsz:ns.length+1<=pY):
  wpAny (model prog w) A (setAttr (.ref x) name v) Q E (h,g,d,t,os):=by
 let(o,hx,hc,_):=id I;have f3:=V.slot.bind (.ref x);unfold setAttr callSpecial? specialOf
 repeat (any_goals (first|assumption|(with_reducible refine wpAny_loadPart_at hx ?_;rw[hc])|(with_reducible refine cf ar hC hn T V.mro V.slot.lookup ?_;rw[ay])|wp_step))
 refine codeAny_call_builtin V.slot.plain V.entry (Fl V T hC hx hc (vM V T hs hC hn aM hB ak I (λh' P I' hk UN=>?_) hw hsz))
 repeat (any_goals (first|assumption|wp_step))
 exact hq h' P I' hk UN
end
end PySem
namespace PySem
open Sem (wp)
open Builtin Builtin.ObjectAttr
section
variable{prog:Da}{w:Cl}{A:Db}{E:B->ϋ->Prop}{h:Do}{g:Array YK}{d:Drawn}{t:Nat}{os:OsState}
variable{nm q:Str}{C N x:J}{bs bm bmB:List B}{sn:List Str}{sub:List B}{ab kX:Bool}{col:Option Bool}{dd:Option J}{k0 k1 k2 k3 k5:Option B}{Zg newId:String}
 {mN mA:Str->Option B} {name:Str} {v:B} {S:List Str} {o:Obj}
theorem vg{M:Model}{z:B}{Q:Unit->ϋ->Prop}(FB:ExcAttrBase Zg bmB)(T:cA h S bmB bm)(P:h.get? C=Z (excClassObj nm q C N bs bm kX sn sub ab col dd k0 k1 k2 k3 k5 newId))
  (hx:h.get? x=Z o) (K:o.cls=.ref C) (hq:Q () (h,g,d,t,os)):wpAny M A (checkBuiltinCall "BaseException.__getattribute__" ([.ref x,z],[])) Q E (h,g,d,t,os):=by
 have e1:builtinKind "BaseException.__getattribute__"=Z .slot:=by decide +kernel
 have e2:splitId "BaseException.__getattribute__"=Z ("BaseException","__getattribute__"):=by decide +kernel
 have V:(B.ref C::bm).contains (.type "BaseException")=true:=by rw[BU,T.hasType FB.hasBase,XY]
 have ha:=F.args_bexc_ga (.ref x) z;simp only[checkBuiltinCall,e1,e2];refine fu ?_;unfold isInstance
 repeat (first|(with_reducible refine wpAny_loadPart_at hx ?_;rw[K])|(with_reducible refine wpAny_isSubtype_exc P ?_;rw[V])|wp_step)
 exact hq
def A7{tk:Tok}{Q:Fin->ϋ->Prop}(FB:ExcAttrBase Zg bmB)(T:cA h S bmB bm)(hs:name∈S)(hC:h.get? C=Z (excClassObj nm q C N bs bm O sn sub ab col dd k0 k1 k2 k3 k5 newId))(hn:h.Ns N mN)
  (P:mN name=Y) (hB:typeLookup (.type Zg) name=pure Y) (I:h.Inst x C mA) (hv:mA name=Z v) (hh:handedOut v=pure v) (hq:Q (.done (.ret v)) (h,g,d,t,os)):
  wpAny (model prog w) A (Builtin.«object.__getattribute__» ([.ref x,.str name tk],[])) Q E (h,g,d,t,os):=by
 let(o,hx,hc,K,hd):=I;obtain⟨_,V⟩|⟨dx,ak,ay,z⟩:=hd
 ·rw[V name]at hv;cases hv
 unfold Builtin.«object.__getattribute__»
 repeat (first|(with_reducible refine wpAny_loadPart_at hx ?_;rw[hc])|(with_reducible refine cf hs hC hn T FB.mro hB ?_;rw[P])|wp_step)
 split
 ·rename_i c ar;exact absurd ar (K c)
 unfold instanceDict
 repeat (first|(with_reducible refine wpAny_loadPart_at hx ?_;rw[hc])|with_reducible refine wpAny_loadPart_at hC ?_|wp_step)
 rw[ak]
 repeat (first|(with_reducible refine wpAny_nsGet z.ns ?_;rw[hv])|wp_step)
 exact hq
theorem A8{expr:Bool}{Q:B->ϋ->Prop}(FB:ExcAttrBase Zg bmB)(T:cA h S bmB bm)(hs:name∈S)(P:("__getattribute__":Str)∈S)(K:("__getattr__":Str)∈S)
  (V:h.get? C=Z (excClassObj nm q C N bs bm O sn sub ab col dd k0 k1 k2 k3 k5 newId)) (hn:h.Ns N mN) (z:∀n∈S,mN n=Y)
  (hB:typeLookup (.type Zg) name=pure Y) (I:h.Inst x C mA) (hv:mA name=Z v) (hh:handedOut v=pure v) (hq:Q v (h,g,d,t+1,os)):
  wpAny (model prog w) A (getAttr (.ref x) name expr) Q E (h,g,d,t,os):=by
 let(o,hx,hc,_):=id I;have f3:=FB.ga.bind (.ref x);have b0:(expr&&onTheHeap (B.builtin "BaseException.__getattribute__"))=false:=by cases expr <;> rfl
 have b2:(B.builtin "BaseException.__getattribute__" == B.builtin "object.__getattribute__")=false:=by decide +kernel
 have b1:(onTheHeap (B.ref C)&&B.builtin "BaseException.__getattribute__" == B.builtin "object.__getattribute__")=false:=by rw[b2];rfl
 have n1:=z _ P;have n2:=z _ K;unfold getAttr getAttrBy
 repeat (any_goals (first|assumption|(with_reducible refine wpAny_loadPart_at hx ?_;rw[hc])|(with_reducible refine cf P V hn T FB.mro FB.ga.lookup ?_;rw[n1])|(with_reducible refine cf K V hn T FB.mro FB.noGetattr ?_;rw[n2])|wp_step))
 refine codeAny_call_builtin FB.ga.plain F.entry_bexc_ga (vg FB T V hx hc (A7 FB T hs V hn (z _ hs) hB I hv hh ?_))
 repeat (any_goals (first|assumption|wp_step))
theorem BF{R:Result->ϋ->Prop}(z:bmB.contains (.type "object")=O)(T:cA h S bmB bm)(Q:h.get? C=Z (excClassObj nm q C N bs bm kX sn sub ab col dd k0 k1 k2 k3 k5 newId))
  (hx:h.get? x=Z o) (P:o.cls=.ref C) (hq:R (.ok (.ret (.ref C))) (h,g,d,t,os)):
  codeAny (model prog w) A (.call (.builtin "getset_descriptor.__get__") ([.builtin "object.__class__",.ref x,.ref C],[])) R (h,g,d,t,os):=by
 have K:((h,g,d,t,os):ϋ).TypeIs (.builtin "object.__class__") "getset_descriptor":=F.typeOf_object_class;have V:(B.ref C::bm).contains (.type (".".intercalate ("object.__class__".cutAt '.').dropLast))=true:=by
  rw[F.owner_object_class,BU,T.hasType z,XY]
 refine codeAny_call_builtin F.slot_gs_get.plain F.entry_gs_get (F.slot_gs_get.check _ _ _ _ _ _ _ _ K (F.args_gs_get _ _ _) ?_)
 repeat (any_goals (first|assumption|(with_reducible refine wpAny_loadPart_at hx ?_;rw[P])|(with_reducible refine wpAny_isSubtype_exc Q ?_;rw[V])|wp_step))
 refine(Code.quiet_builtin _ (by decide +kernel),SQ F.entry_object_class ?_)
 repeat (any_goals (first|assumption|(with_reducible refine wpAny_loadPart_at hx ?_;rw[P])|wp_step))
theorem zf{tk:Tok}{Q:Fin->ϋ->Prop}(P:typeLookup (.type Zg) "__class__"=pure (Z (.builtin "object.__class__")))(z:bmB.contains (.type "object")=O)(hs:("__class__":Str)∈S)(FB:ExcAttrBase Zg bmB)(T:cA h S bmB bm)
  (hC:h.get? C=Z (excClassObj nm q C N bs bm kX sn sub ab col dd k0 k1 k2 k3 k5 newId)) (hn:h.Ns N mN) (K:∀n∈S,mN n=Y) (hx:h.get? x=Z o) (V:o.cls=.ref C) (hq:Q (.done (.ret (.ref C))) (h,g,d,t,os)):
  wpAny (model prog w) A (Builtin.«object.__getattribute__» ([.ref x,.str "__class__" tk],[])) Q E (h,g,d,t,os):=by
 have ak:((h,g,d,t,os):ϋ).TypeIs (.builtin "object.__class__") "getset_descriptor":=F.typeOf_object_class;have f5:=F.typeOf_object_class;have f6:=F.slot_gs_get.lookup;have f7:=F.slot_gs_set.lookup;have n1:=K _ hs
 repeat (any_goals (first|assumption|(with_reducible refine wpAny_loadPart_at hx ?_;rw[V])|(with_reducible refine cf hs hC hn T FB.mro P ?_;rw[n1])|wp_step))
 refine BF z T hC hx V ?_
 repeat (any_goals (first|assumption|wp_step))
theorem Fj{tk:Tok}{Q:B->ϋ->Prop}(ar:typeLookup (.type Zg) "__class__"=pure (Z (.builtin "object.__class__")))(ak:bmB.contains (.type "object")=O)(hs:("__class__":Str)∈S)(P:("__getattribute__":Str)∈S)(K:("__getattr__":Str)∈S)(FB:ExcAttrBase Zg bmB)(T:cA h S bmB bm)
  (V:h.get? C=Z (excClassObj nm q C N bs bm kX sn sub ab col dd k0 k1 k2 k3 k5 newId)) (hn:h.Ns N mN) (z:∀n∈S,mN n=Y) (hx:h.get? x=Z o) (hc:o.cls=.ref C) (hq:Q (.ref C) (h,g,d,t,os)):
  wpAny (model prog w) A (getAttrBy (.ref x) (.str "__class__" tk) ϊ) Q E (h,g,d,t,os):=by
 have f3:=FB.ga.bind (.ref x);have b2:(B.builtin "BaseException.__getattribute__" == B.builtin "object.__getattribute__")=false:=by decide +kernel
 have b1:(onTheHeap (B.ref C)&&B.builtin "BaseException.__getattribute__" == B.builtin "object.__getattribute__")=false:=by rw[b2];rfl
 have n1:=z _ P;have n2:=z _ K
 repeat (any_goals (first|assumption|(with_reducible refine wpAny_loadPart_at hx ?_;rw[hc])|(with_reducible refine cf P V hn T FB.mro FB.ga.lookup ?_;rw[n1])|(with_reducible refine cf K V hn T FB.mro FB.noGetattr ?_;rw[n2])|wp_step))
 refine codeAny_call_builtin FB.ga.plain F.entry_bexc_ga (vg FB T V hx hc (zf ar ak hs FB T V hn z hx hc ?_))
 repeat (any_goals (first|assumption|wp_step))
def zg{Q:Option B->ϋ->Prop}(ak:typeLookup (.type Zg) "__class__"=pure (Z (.builtin "object.__class__")))(P:bmB.contains (.type "object")=O)(hs:("__class__":Str)∈S)(K:("__getattribute__":Str)∈S)(z:("__getattr__":Str)∈S)(FB:ExcAttrBase Zg bmB)(T:cA h S bmB bm)
  (hC:h.get? C=Z (excClassObj nm q C N bs bm kX sn sub ab col dd k0 k1 k2 k3 k5 newId)) (hn:h.Ns N mN) (V:∀n∈S,mN n=Y) (hx:h.get? x=Z o) (hc:o.cls=.ref C) (hq:Q (Z (.ref C)) (h,g,d,t+1,os)):
  wpAny (model prog w) A (getAttr? (.ref x) "__class__") Q E (h,g,d,t,os):=by
 unfold getAttr? getAttrBy?
 repeat (any_goals (first|assumption|with_reducible apply Fj ak P hs K z FB T hC hn V hx hc|wp_step))
end
end PySem
namespace PySem
open Sem (wp)
def tj(h:Do)(e:J)(cls:B)(dx:Option J)(y:B):Prop:=
 ∃o vs g,h.get? e=Z o/\o.cls=cls/\o.dict=dx/\o.data=.fields vs/\vs[0]?=Z g/\vs[1]?=Z y
def gA(h:Do)(e:J)(cls:B)(dx:Option J)(T:J)(fl:B):Prop:=
 T≠e/\tj h e cls dx (.ref T)/\∃g ts,h.get? T=Z g/\g.data=.fields ts/\ts[3]?=Z fl
structure dR(fr ex:List J)(h h':Do):Prop where
 keep:∀b o,h.get? b=Z o->b ∉ fr->b ∉ ex->h'.get? b=Z o
 slot:∀b o,h.get? b=Z o->b ∉ ex->∃sl,h'.get? b=Z {o with slots:=sl}
 there:∀b o,h.get? b=Z o->∃o',h'.get? b=Z o'
def dR.trans{fr ex g:List J}{h h1 h2:Do}(a:dR fr ex h h1)(b:dR fr g h1 h2)(hs:∀b o,h.get? b=Z o->b∈g->b∈ex):dR fr ex h h2 where
 keep:=λc o e hf hx=>b.keep c o (a.keep c o e hf hx) hf λz=>hx (hs c o e z)
 slot:=λc o e hx=>by
  let(sl,K):=a.slot c o e hx;let(q,P):=b.slot c _ K λz=>hx (hs c o e z)
  exact(q,P)
 there:=λc o e=>let(o',K):=a.there c o e;b.there c o' K
def dR.mono{fr fr' ex ex':List J}{h h1:Do}(a:dR fr ex h h1)(hf:∀b∈fr,b∈fr')(hx:∀b∈ex,b∈ex'):dR fr' ex' h h1:=
 (λb o e n m=>a.keep b o e (λz=>n (hf b z)) λz=>m (hx b z),λb o e m=>a.slot b o e λz=>m (hx b z),a.there)
def dR.kl{fr ex:List J}{h h1 base:Do}{l:List Env}(a:dR fr ex h h1)(hx:∀b o,b∈ex->h.get? b=Z o->∃vs,o.data=.fields vs)(hl:h.FunFrames base l):h1.FunFrames base l:=
 hl.of_keeps λb o e hn=>by
  let(sl,q):=a.slot b o e λz=>by let(vs,q):=hx b o z e;exact hn vs q
  exact(_,q,U)
def jo{h:Do}{T i:Nat}{x:B}{K:Obj}{ts:Array B}(hT:h.get? T=Z K)(hd:K.data=.fields ts):dR [] [T] h (h.update T (X7 (·.setIfInBounds i x))):=by
 have q:∀b,b≠T->(h.update T (X7 (·.setIfInBounds i x))).get? b=h.get? b:=λb g=>uk _ _ (Ne.symm g)
 refine(λb o e _ n=>(q b λz=>n (by simp[z])).trans e,λb o e n=>(o.slots,(q b λz=>n (by simp[z])).trans e),λb o e=>?_)
 by_cases g:b=T
 ·rw[g];exact(_,v5 _ hT (Xw (Xh hd _)))
 ·exact(o,(q b g).trans e)
section
variable{M:Model}{A:Db}{E:B->ϋ->Prop}{s:ϋ}
variable{base:Do}{env:Env}{outer:List Env}{L e T:J}{cls:B}{dx:Option J}{Q:Unit->ϋ->Prop}
def JQ{y head:B}{NC:Bool}(ay:A.frames=Z (env::outer))(hl:s.heap.FunFrames base (env::outer))(hf:env.frame=Z L)(hx:tj s.heap e cls dx y)
  (hq:∀h' T',s.heap.objs.size<=T'->gA h' e cls dx T' (rawInt L)->dR ((env::outer).filterMap (·.frame)) [e] s.heap h'->Q () {s with heap:=h'}):
  wpAny M A (do let a <- frameOf env;let K <- entryPlaceOf L NC;let b <- EntryCells.newEntry head a .none (rawInt L) .none K;setField (.ref e) 1 b) Q E s:=by
 let(o,vs,a0,ho,hc,aM,hd,h0,h1):=hx;have hsz:1<vs.size:=(XC.mp h1).1;have ar:e ∉ (env::outer).filterMap (·.frame):=λz=>by
  let(_,o',V,hn):=hl.mem z;rw[ho]at V;cases V;exact hn vs hd
 refine fu (wpAny_frameOf_fun ay hl hf λg hg=>?_)
 refine fu (wpAny_entryPlaceOf λK P=>?_)
 unfold EntryCells.newEntry newFields;refine fu (Xa ?_ (P.sizeOk5 _ _ _ _ _));have e1:g.get? e=Z o:=(hg.2.1 e ar).trans ho;have e2:=f9 (h:=g) {cls:=.type "traceback",dict:=Y,data:=.fields ([head,.ref L,.none,rawInt L,.none]++(if K.isEmpty then uA 6 B.none else K)).toArray} e1
 have ak:g.objs.size≠e:=E3 (kn e1);have d3:=Xh hd (·.setIfInBounds 1 (B.ref g.objs.size));have e3:=v5 (X7 (·.setIfInBounds 1 (B.ref g.objs.size))) e2 (Xw d3);refine X1 e2 hd hsz (hq _ g.objs.size (Yx hg.1.symm) (ak,(_,_,a0,e3,(Y1 _ _).trans hc,?_,d3,by rw[Array.getElem?_setIfInBounds_ne ac];exact h0,by simp[hsz]),?_) ?_)
 ·rw[<- aM];let(_,_,dt,_):=o;cases dt <;> rfl
 ·exact(_,_,(uk _ _ (Ne.symm ak)).trans (px g U),U,by first|(simp;done)|(obtain rfl |⟨_,_,_,_,_,_,_,rfl⟩:=P <;> simp))
 ·have kp:∀b ob,b≠e->g.get? b=Z ob->((g.push {cls:=.type "traceback",dict:=Y,data:=.fields ([head,.ref L,.none,rawInt L,.none]++(if K.isEmpty then uA 6 B.none else K)).toArray}).update e (X7 (·.setIfInBounds 1 (B.ref g.objs.size)))).get? b=Z ob:=
   λb ob hb q=>(uk _ _ (Ne.symm hb)).trans (f9 _ q)
  refine(λb ob q n m=>kp b ob (λz=>m (by simp[z])) ((hg.2.1 b n).trans q),λb ob q m=>?_,λb ob q=>?_)
  ·let(sl,q2):=hg.2.2 b ob q;exact(sl,kp b _ (λz=>m (by simp[z])) q2)
  ·by_cases hb:b=e
   ·rw[hb];exact(_,e3)
   ·let(sl,q2):=hg.2.2 b ob q;exact(_,kp b _ hb q2)
def fO{fl:B}(hx:gA s.heap e cls dx T fl)(hq:∀h',gA h' e cls dx T .none->dR [] [T] s.heap h'->Q () {s with heap:=h'}):wpAny M A (setFlight (.ref e) Y) Q E s:=by
 let(z,(o,vs,V,ho,P,K,hd,h0,h1),oT,ts,hT,g,h3):=hx;have q:3<ts.size:=(XC.mp h3).1;unfold setFlight;refine fu (wpAny_field ho hd h1 ?_);rw[if_pos (show(B.ref T != B.none)=O from by simp)]
 refine X1 hT g q (hq _ (z,(o,vs,V,(uk _ _ z).trans ho,P,K,hd,h0,h1),_,_,v5 _ hT (Xw (Xh g _)),Xh g _,by simp[q]) (jo hT g))
def ou(g:A.frames=Z (env::outer))(hl:s.heap.FunFrames base (env::outer))(hf:env.frame=Z L)(hx:tj s.heap e cls dx .none)
  (hq:∀h' q,s.heap.objs.size<=q->gA h' e cls dx q (rawInt L)->dR ((env::outer).filterMap (·.frame)) [e] s.heap h'->Q () {s with heap:=h'}):wpAny M A (noteFrame (.ref e) env) Q E s:=by
 let(o,vs,P,ho,K,z,hd,h0,h1):=id hx;unfold noteFrame;simp only[hf];refine fu (wpAny_field ho hd h1 ?_);rw[if_neg ac]
 exact JQ g hl hf hx hq
def rA(V:A.frames=Z (env::outer))(hl:s.heap.FunFrames base (env::outer))(hf:env.frame=Z L)(hx:gA s.heap e cls dx T .none)
  (hq:∀h' K,s.heap.objs.size<=K->gA h' e cls dx K (rawInt L)->dR ((env::outer).filterMap (·.frame)) [e,T] s.heap h'->Q () {s with heap:=h'}):wpAny M A (noteFrame (.ref e) env) Q E s:=by
 let(ay,(o,vs,a0,ho,hc,ak,hd,h0,h1),oT,ts,hT,g,h3):=hx;unfold noteFrame;simp only[hf];refine fu (wpAny_field ho hd h1 ?_);rw[if_pos (show(B.ref T != B.none)=O from by simp)]
 refine fu (wpAny_field hT g h3 ?_);rw[if_neg (show ¬((B.none==rawInt L)=O)from by simp[rawInt])]
 refine fu (X1 hT g (XC.mp h3).1 ?_);have k1:=jo (i:=3) (x:=B.none) hT g;have P:∀b ob,b ∈ [T]->s.heap.get? b=Z ob->∃ws,ob.data=.fields ws:=λb ob hb q=>by
  have ar:b=T:=(hb:)
  subst ar;rw[hT]at q;cases q;exact(ts,g)
 refine JQ (y:=.ref T) V (k1.kl P hl) hf (o,vs,a0,(uk _ _ ay).trans ho,hc,ak,hd,h0,h1) λh' K sz al k2=>hq h' K ?_ al ?_
 ·have:(s.heap.update T (X7 (·.setIfInBounds 3 B.none))).objs.size=s.heap.objs.size:=by simp[Heap.update]
  exact ui (Yx this.symm) sz
 ·exact(k1.mono (fr':=(env::outer).filterMap (·.frame)) (ex':=[e,T]) nofun (λb z=>by simp at z;simp[z])).trans k2 λb ob _ z=>by simp at z;simp[z]
def rK(g:A.frames=Z (env::outer))(hl:s.heap.FunFrames base (env::outer))(hf:env.frame=Z L)(hx:tj s.heap e cls dx .none)
  (hq:∀h' T',s.heap.objs.size<=T'->gA h' e cls dx T' .none->dR ((env::outer).filterMap (·.frame)) [e] s.heap h'->Q () {s with heap:=h'}):wpAny M A (leaving env (.ref e)) Q E s:=by
 unfold leaving;refine fu (ou g hl hf hx λh1 V sz al k1=>fO al λh2 P k2=>hq h2 V sz P ?_)
 exact k1.trans (k2.mono nofun λb z=>z) λb ob q z=>by
  have K:b=V:=(z:)
  subst K;exact absurd (sS (kn q) sz) (Kt _)
def uf(g:A.frames=Z (env::outer))(hl:s.heap.FunFrames base (env::outer))(hf:env.frame=Z L)(hx:gA s.heap e cls dx T .none)
  (hq:∀h' T',s.heap.objs.size<=T'->gA h' e cls dx T' .none->dR ((env::outer).filterMap (·.frame)) [e,T] s.heap h'->Q () {s with heap:=h'}):wpAny M A (leaving env (.ref e)) Q E s:=by
 unfold leaving;refine fu (rA g hl hf hx λh1 V sz al k1=>fO al λh2 P k2=>hq h2 V sz P ?_)
 exact k1.trans (k2.mono nofun λb z=>z) λb ob q z=>by
  have K:b=V:=(z:)
  subst K;exact absurd (sS (kn q) sz) (Kt _)
end
end PySem
namespace L2
open PySem PySem.Spec PyProof.Rows
abbrev bmV:List Value:=[.type "ValueError",.type "Exception",.type "BaseException",.type "object"]
abbrev xS(fn:List Str):List Str:="__setattr__" :: "__getattribute__" :: "__getattr__" :: "__class__" :: fn
structure b7(K:BT)(fn:List Str)(C:J)(bm:List B)(ini:Option J):Prop where
 all:∀h:Do,K.In h->∃nm q N bs sn sub ab col dd k0 k1 k2 k3 k5 mN,h.get? C=Z (excClassObj nm q C N bs bm O sn sub ab col dd k0 k1 k2 k3 k5 "ValueError.__new__")/\h.Ns N mN /\
  (∀n∈xS fn,mN n=Y)/\mN "__init__"=ini.map B.ref/\cA h ("__init__" :: xS fn) bmV bm
 cl:∃cd,W.clsIn K C=Z cd/\cd.mro=.ref C::bm
 ty:W.typeIn K (.ref C)=Z (.type "type")
def pB(K:BT)(S:List Str)(bmB:List B):List B->Bool
 |[]=>bmB == []
 |v::r=>(v::r)==bmB||match v with
  |.ref A=>(match K.lookup A with
   |some (_,_,.cls cd,_)=>W.nsOkIn K cd.ns&&S.all (λn=>W.nsIn K cd.ns n==Z Y)&&pB K S bmB r
   |_=>ϊ)
  |_=>ϊ
theorem xP{K:BT}{h:Do}{S:List Str}{bmB:List B}(X:K.In h):∀{l:List B},pB K S bmB l=O->cA h S bmB l
 |[],e=>by rw[<- beq_iff_eq.mp e];exact .base
 |v::r,e=>by
  unfold pB at e;obtain q|q:=Bool.or_eq_true_iff.mp e
  ·rw[beq_iff_eq.mp q];exact .base
  ·split at q
   ·split at q
    ·rename_i ho;rw[u6,u6]at q;exact .own (X _ _ ho) (.of_isNs (W.isNs_of_in X q.1.1)) (λn hn=>W.nsMap_none_of_in X q.1.1 (beq_iff_eq.mp (WU.mp q.1.2 n hn))) (xP X q.2)
    ·cases q
   ·cases q
def Vg:Data->Option ClassData
 |.cls cd=>Z cd
 |_=>Y
def Fi{d:Data}{cd:ClassData}(h:Vg d=Z cd):d=.cls cd:=by
 cases d <;> first|exact congrArg Data.cls (Option.some.inj h)|cases h
def FR(K:BT)(fn:List Str)(C:J)(bm:List B)(ini:Option J)(sl:Array (Option B))(cd:ClassData):Bool:=
 cd.mro == .ref C::bm&&sl.size==6&&sl[4]? == Z (Z (.builtin "ValueError.__new__")) && !cd.hasDel&&cd.hasDict&&pB K ("__init__" :: xS fn) bmV bm&&W.nsOkIn K cd.ns &&
  (xS fn).all (λn=>W.nsIn K cd.ns n==Z Y)&&W.nsIn K cd.ns "__init__" == Z (ini.map B.ref)
def gB(K:BT)(fn:List Str)(C:J)(bm:List B)(ini:Option J):Bool:=(K.lookup C).any λo=>o.cls == .type "type" && (Vg o.data).any (FR K fn C bm ini o.slots)
def any_some{α:Type}{o:Option α}{f:α->Bool}(h:o.any f=O):∃a,o=Z a/\f a=true:=by
 cases o with
 |none=>cases h
 |some a=>exact(a,U,h)
def six{α:Type}{l:List α}(h:l.length=6):∃a b c d e f,l=[a,b,c,d,e,f]:=by
 cases l with
 |nil=>cases h
 |cons a l=>cases l with
  |nil=>cases h
  |cons b l=>cases l with
   |nil=>cases h
   |cons c l=>cases l with
    |nil=>cases h
    |cons d l=>cases l with
     |nil=>cases h
     |cons e l=>cases l with
      |nil=>cases h
      |cons f l=>exact(a,b,c,d,e,f,by rw[xw.mp (show l.length=0 by simpa using h)])
variable{mg:Str->Option B}
theorem AY{K:BT}{h:Do}{N:J}{n:Str}{v:B}(X:K.In h)(G:h.Ns N mg)(e:W.nsIn K N n=Z (Z v)):mg n=Z v:=by
 let(o,es,ep,ho,hd,_,hf):=G;unfold W.nsIn at e
 split at e
 ·rename_i c d g z sl q
  have:=X _ _ q
  rw[ho]at this;cases this;cases hd
  split at e
  ·rename_i P he;cases e;rw[<- hf];unfold nsFind findBy;rw[<- YT,he];rfl
  ·split at e <;> cases e
 ·cases e
variable{C:J}{bm:List B}{ini:Option J}
theorem gg{K:BT}{fn:List Str}(q:gB K fn C bm ini=O):b7 K fn C bm ini:=by
 unfold gB at q;let((cl,dd,da,sl),ho,q):=any_some q;rw[u6]at q;let(q0,q):=q;let(cd,z,q):=any_some q;have e0:cl=.type "type":=eq_of_beq q0;have e1:da=.cls cd:=Fi z;subst e0 e1;unfold FR at q;simp only[u6,beq_iff_eq,Bool.not_eq_true']at q;let((((((((hm,h6),h4),Q),V),ht),hok),P),g):=q;let(nm,bs,mro,ns,qn,hd,sn,sub,ab,col,del):=cd;dsimp only at hm Q hok g V P;subst hm Q V;let⟨l⟩:=sl;let(k0,k1,k2,k3,k4,k5,U):=six (l:=l) h6;obtain rfl:k4=Z (.builtin "ValueError.__new__"):=Option.some.inj h4;refine(λh X=>?_,(_,by unfold W.clsIn;rw[ho],U),by show(K.lookup _).map (·.cls)=_;rw[ho];rfl)
 refine(nm,qn,ns,bs,sn,sub,ab,col,dd,k0,k1,k2,k3,k5,_,X _ _ ho,.of_isNs (W.isNs_of_in X hok),λn hn=>W.nsMap_none_of_in X hok (WU.mp P n hn:),?_,xP X ht)
 cases ini with
 |none=>exact W.nsMap_none_of_in X hok g
 |some f=>exact AY X (.of_isNs (W.isNs_of_in X hok)) g
def _root_.PySem.cA.sub{h:Do}{S S':List Str}{bmB tl:List B}(T:cA h S bmB tl)(hs:∀n∈S',n∈S):cA h S' bmB tl:=by
 induction T with
 |base=>exact .base
 |own a b c _ g=>exact .own a b (λn hn=>c n (hs n hn)) g
def XAt(a C:J)(dx:Option J)(b:Bool)(h:Do):Prop:=∃y,tj h a (.ref C) dx y/\(b=O->y=.none)
def XD(dx:J)(fs:List (Str×V))(h:Do):Prop:=∃mA,h.Ns1 dx mA/\(∀f,iW (fs.lookup f) (mA f))/\PySem.Within mA (fs.map (·.1))
def ExH(H:Hp)(a C:J)(b:Bool)(fs:List (Str×V)):Prop:=(fs=[]/\H a=Z (.ext (XAt a C Y b)))\/∃dx,dx≠a/\H a=Z (.ext (XAt a C (Z dx) b))/\H dx=Z (.ext (XD dx fs))
variable{ex:List J}{φ:Do->Prop}{o1:HO}{o2:HO}
section
variable{P:Da}{w:Cl}{H:Hp}{h h':Do}{a d:J}{dx:Option J}{b:Bool}{fs:List (Str×V)}
def XAt.ok(x:XAt a C dx b h):bH P w H h a (.ext (XAt a C dx b)):=by
 refine(x,?_,λh1 h2 (y,(o,vs,g,e,r),z) k=>(y,(o,vs,g,k o e,r),z))
 let(y,(o,vs,g,e,r),z):=x;exact(o,e)
def XD.ok(x:XD d fs h):bH P w H h d (.ext (XD d fs)):=by
 refine(x,?_,λh1 h2 (mA,(o,es,ep,e,r),z) k=>(mA,(o,es,ep,k o e,r),z))
 let(mA,(o,es,ep,e,r),z):=x;exact(o,e)
def bH.at{o:HO}(x:bH P w H h a o):∃u,h.get? a=Z u:=by
 cases o with
 |lst xs=>let(_,_,_,_,e):=x;exact(_,e)
 |tup xs=>let(_,_,_,p):=x;let(o,e,_):=p.1;exact(o,e)
 |dK kvs=>let(_,_,_,_,o,_,_,e,_):=x;exact(o,e)
 |dT kvs=>let(_,_,_,_,o,_,_,e,_):=x;exact(o,e)
 |set S n=>let(o,_,_,_,e,_):=x;exact(o,e)
 |ins C dx fs=>let(_,_,_,e,_):=x;exact(_,e)
 |own y=>exact x
 |xd fs=>let(_,(o,_,_,e,_),_):=x;exact(o,e)
 |room g=>let(_,_,_,e):=x;exact(_,e)
 |rng lo hi=>let(_,_,_,e):=x;exact(_,e)
 |frz ob u=>let(e,_):=x;exact(_,e)
 |tbl ps=>exact(_,(show h.get? a=Z _ from x))
 |met f y=>exact(_,(show h.get? a=Z _ from x))
 |ext φ=>exact x.2.1
def HOk.no(x:HOk P w H h)(e:h.get? a=Y):H a=none:=by
 cases q:H a with
 |none=>rfl
 |some u =>
  let(v,z):=(x a u q).at;rw[e]at z;cases z
def HOk.yF{o:HO}(x:HOk P w H h)(k:∀b u,h.get? b=Z u->h'.get? b=Z u)(hp:h.get? a=Y)(new:bH P w (upd H a o) h' a o):HOk P w (upd H a o) h':=λb u e=>by
 have hn:=x.no hp;by_cases g:b=a
 ·subst g;rw[au]at e;cases e;exact new
 ·rw[ao g]at e;exact(x b u e).dq (λc v _ q=>k c v q) (λc q=>by rw[ao (aO q hn)];exact q) λc xs q=>by rw[ao (aO q hn)];exact q
def Un.yF{fs:List J}{o:HO}(k:∀b u,h.get? b=Z u->h'.get? b=Z u)(hp:h.get? a=Y)(hn:H a=Y):Un fs ex H (upd H a o) h h' where
 keep:=λb u q _ _ _=>k b u q
 slot:=λb u q _ _ _=>(u.slots,k b u q)
 free:=λb u q n _=>by rw[ao (λz=>by rw[z,hp]at q;cases q)];exact n
 there:=λb u q _=>(u,k b u q)
 lG:=λb xs q=>by rw[ao (aO q hn)];exact q
 jl:=λb u xs q=>by rw[ao (aO q hn)];exact q
 lH:=λb ps q=>(#[],by rw[ao (aO q hn),q];simp)
theorem Inv.yF{X:Cx}{gd:List (J×Obj)}{σ:St}{s:ϋ}{o:HO}{t':Nat}(I:Inv X gd σ H s)(k:∀b u,s.heap.get? b=Z u->h'.get? b=Z u)(hp:s.heap.get? a=Y)(new:bH X.prog X.w (upd H a o) h' a o):
  Inv X gd σ (upd H a o) {s with heap:=h',toks:=t'}:=I.un (Un.yF k hp (I.hok.no hp)) (I.hok.yF k hp new)
def Pp(x:HOk P w H h)(ha:H a=Z (.ext φ))(hd:h.get? d=Y)(k:∀b u,b≠a->h.get? b=Z u->h'.get? b=Z u)
  (V:bH P w (upd (upd H d o1) a o2) h' d o1) (Q:bH P w (upd (upd H d o1) a o2) h' a o2):HOk P w (upd (upd H d o1) a o2) h':=λb u e=>by
 have hn:=x.no hd;have st:∀c v,H c=Z v->v ≠ .ext φ->upd (upd H d o1) a o2 c=Z v:=λc v q nv=>by
  rw[ao (λz=>by rw[z,ha]at q;cases q;exact nv U),ao (aO q hn)];exact q
 by_cases K:b=a
 ·subst K;rw[au]at e;cases e;exact Q
 ·rw[ao K]at e;by_cases g:b=d
  ·subst g;rw[au]at e;cases e;exact V
  ·rw[ao g]at e;refine(x b u e).dq (λc v hc q=>k c v ?_ q) (λc q=>st c _ q λz=>nomatch z) λc xs q=>st c _ q λz=>nomatch z
   obtain z|z:=hc
   ·rw[z];exact K
   ·exact gZ z ha λz=>nomatch z
def Po{l:List J}(x:HOk P w H h)(ha:H a=Z (.ext φ))(hd:h.get? d=Y)(k:∀b u,b≠a->h.get? b=Z u->h'.get? b=Z u)(g:∃u,h'.get? a=Z u):Un l ex H (upd (upd H d o1) a o2) h h':=by
 have hn:=x.no hd;have na:∀b,H b=Y->b≠a:=λb n z=>by rw[z,ha]at n;cases n
 have st:∀c v,H c=Z v->v ≠ .ext φ->upd (upd H d o1) a o2 c=Z v:=λc v q nv=>by
  rw[ao (λz=>by rw[z,ha]at q;cases q;exact nv U),ao (aO q hn)];exact q
 refine(λb u q n _ _=>k b u (na b n) q,λb u q n _ _=>(u.slots,k b u (na b n) q),λb u q n _=>?_,λb u q _=>?_,λb xs q=>st b _ q (λz=>nomatch z),λb u xs q=>st b _ q (λz=>nomatch z),λb ps q=>(#[],by rw[st b _ q (λz=>nomatch z)];simp))
 ·rw[ao (na b n),ao (λz=>by rw[z,hd]at q;cases q)];exact n
 ·by_cases K:b=a
  ·rw[K];exact g
  ·exact(u,k b u K q)
end
variable{mA:Str->Option B}{y:V}{u:B}{Q:B->ϋ->Prop}
section
variable{X:Cx}{gd:List (J×Obj)}{σ:St}{H:Hp}{s:ϋ}{a d:J}{fn:List Str}{dx:Option J}{b:Bool}{fs:List (Str×V)}{f:Str}{v:V}{A:Db}{E:B->ϋ->Prop}
def XAt.UI{h:Do}(x:XAt a C Y b h):h.Inst a C (λ_=>Y):=by
 let(y,(o,vs,K,e,q,hd,g,_),_):=x;exact(o,e,q,λc z=>(by rw[g]at z;cases z),.inl (hd,λ_=>rfl))
def XAt.OQ{h:Do}(x:XAt a C (Z d) b h)(ne:d≠a)(n:h.Ns1 d mA):h.Inst a C mA:=by
 let(y,(o,vs,K,e,q,hd,g,_),_):=x;exact(o,e,q,λc z=>(by rw[g]at z;cases z),.inr (d,hd,ne,n))
def FOk(f:Str):Prop:=typeLookup (.type "ValueError") f=pure Y
def b7.ne{h:Do}(c:b7 X.K fn C bm ini)(I:Inv X gd σ H s)(e:H a=Z (.ext φ))(P:∀h,φ h->∃o vs,h.get? a=Z o/\o.data=.fields vs):a≠C:=by
 intro z;let(nm,q,N,bs,sn,sub,ab,col,dd,k0,k1,k2,k3,k5,mN,Q,_):=c.all s.heap I.kIn;let(o,vs,g,V):=P _ (I.hok a _ e).1;rw[z,Q]at g;cases g;cases V
def XAt.rec{h:Do}(x:XAt a C dx b h):∃o vs,h.get? a=Z o/\o.data=.fields vs:=let(_,(o,vs,_,e,_,_,hd,_),_):=x;(o,vs,e,hd)
def x4{fs:List (Str×V)}(r:∀g,iW (fs.lookup g) (mA g))(z:RelV y u)(g:Str):iW ((gU f y fs).lookup g) (if g=f then Z u else mA g):=by
 rw[jD];by_cases q:g=f
 ·rw[if_pos q,if_pos q];exact z
 ·rw[if_neg q,if_neg q];exact r g
def qi{fs:List (Str×V)}(wi:PySem.Within mA (fs.map (·.1))):PySem.Within (λg=>if g=f then Z u else mA g) ((gU f y fs).map (·.1)):=λg hg=>by
 by_cases q:g=f
 ·rw[q];exact(g8 f y fs).1
 ·refine(g8 f y fs).2 g (wi g λz=>hg ?_)
  show(if g=f then Z u else mA g)=Y
  rw[if_neg q];exact z
theorem GS{Q:Unit->ϋ->Prop}(I:Inv X gd σ H s)(e:H a=Z (.ext (XAt a C Y b)))(c:b7 X.K fn C bm ini)(hf:f∈fn)(fo:FOk f)(ry:RelV y u)
  (h:∀s' d,H d=Y->d≠a->Inv X gd σ (upd (upd H d (.ext (XD d [(f,y)]))) a (.ext (XAt a C (Z d) b))) s'->Q () s'):wpAny (model X.prog X.w) A (setAttr (.ref a) f u) Q E s:=by
 have hx:XAt a C Y b s.heap:=(I.hok a _ e).1;have ak:=c.ne (h:=s.heap) I e λh x=>x.rec
 let(nm,q,N,bs,sn,sub,ab,col,dd,k0,k1,k2,k3,k5,mN,hC,hN,hS,_,T):=c.all s.heap I.kIn;let(P,g,dr,t,os):=s;have hp:P.get? P.objs.size=none:=U9 (ot _);have mem:∀n∈xS fn,n∈("__init__":Str)::xS fn:=λn hn=>jQ _ hn
 refine oj (ns:=[]) F.store_ValueError (T.sub mem) (by simp[hf]) ad hC hN (hS _ ad) (hS f (by simp[hf])) fo ak hx.UI (λh' aR I' kp same=>?_) (λy hy=>absurd U hy) ac
 let(y0,(o,vs,a0,e0,hc,hd,ay,z0,z1),zb):=hx;let(o1,e1,c1,aM,_,_,d1):=same o e0;have d1:=d1 hd;let(o',e',_,_,JE):=I'
 have:o'=o1:=Option.some.inj (e'.symm.trans e1)
 subst this;have ar:h'.Ns1 P.objs.size (λy=>if y=f then Z u else Y):=by
  obtain⟨z,_⟩|⟨d2,z,_,n2⟩:=JE
  ·rw[d1]at z;cases z
  ·rw[d1]at z;cases z;exact n2
 have Wk:P.objs.size≠a:=λz=>by rw[<- z,hp]at e0;cases e0
 have V:∀b ob,b≠a->P.get? b=Z ob->h'.get? b=Z ob:=λb ob hb q=>kp b ob hb (λaN dx h1 h2=>by rw[e0]at h1;cases h1;rw[hd]at h2;cases h2) q
 have wi:=qi (f:=f) (y:=y) (u:=u) (fs:=[]) (mA:=λ_=>Y) (λg hg=>absurd U hg)
 have nX:XAt a C (Z P.objs.size) b h':=(y0,(o',vs,a0,e1,c1.trans hc,d1,aM.trans ay,z0,z1),zb);have nD:XD P.objs.size [(f,y)] h':=(_,ar,x4 (fs:=[]) (λ_=>True.intro) ry,wi)
 exact h _ P.objs.size (I.hok.no hp) Wk (I.un (Po I.hok e hp V (_,e1)) (Pp I.hok e hp V nD.ok nX.ok))
theorem GR{Q:Unit->ϋ->Prop}(I:Inv X gd σ H s)(e:H a=Z (.ext (XAt a C (Z d) b)))(ne:d≠a)(ed:H d=Z (.ext (XD d fs)))(c:b7 X.K fn C bm ini)(hf:f∈fn)(fo:FOk f)(hl:fs.length<1000)(ry:RelV y u)
  (h:∀s',Inv X gd σ (upd H d (.ext (XD d (gU f y fs)))) s'->Q () s'):wpAny (model X.prog X.w) A (setAttr (.ref a) f u) Q E s:=by
 have hx:XAt a C (Z d) b s.heap:=(I.hok a _ e).1;obtain⟨mA,hn,r,wi⟩:XD d fs s.heap:=(I.hok d _ ed).1;have aM:=c.ne (h:=s.heap) I e λh x=>x.rec
 let(nm,q,N,bs,sn,sub,ab,col,dd,k0,k1,k2,k3,k5,mN,hC,hN,hS,_,T):=c.all s.heap I.kIn;let(hh,g,dr,t,os):=s;have mem:∀n∈xS fn,n∈("__init__":Str)::xS fn:=λn hn=>jQ _ hn
 refine oj (ns:=fs.map (·.1)) F.store_ValueError (T.sub mem) (by simp[hf]) ad hC hN (hS _ ad) (hS f (by simp[hf])) fo aM (hx.OQ ne hn) (λh' ar I' kp same=>?_) wi (by rw[dN,Xe];omega)
 let(y0,(o,vs,a0,e0,hc,hd,aW,z0,z1),zb):=hx;let(o1,e1,c1,ak,P,d0,_):=same o e0;have d1:=d0 d hd;clear d0;have oe:o1=o:=by
  let(q1,q2,q3,q4):=o1;let(p1,p2,p3,p4):=o;dsimp only at c1 ak P d1 hd;subst c1 ak P d1 hd;rfl
 subst oe;let(o',e',_,_,JE):=I'
 have:o'=o1:=Option.some.inj (e'.symm.trans e1)
 subst this;have aN:h'.Ns1 d (λy=>if y=f then Z u else mA y):=by
  obtain⟨z,_⟩|⟨d2,z,_,n2⟩:=JE
  ·rw[d1]at z;cases z
  ·rw[d1]at z;cases z;exact n2
 have ay:∀b ob,b≠d->hh.get? b=Z ob->h'.get? b=Z ob:=λb ob hb q=>by
  by_cases V:b=a
  ·subst V;have q':hh.get? b=Z ob:=q;rw[e0]at q';cases q';exact e1
  ·exact kp b ob V (λaR dx h1 h2=>by rw[e0]at h1;cases h1;rw[hd]at h2;cases h2;exact hb) q
 have nD:XD d (gU f y fs) h':=(_,aN,x4 r ry,qi wi);exact h _ (I.write (x:=d) (e:=d) (t':=ar) (by rw[ed];exact True.intro) (.inl U) ay (let(_,(o,_,_,e,_),_):=nD;(o,e)) nD.ok)
theorem NG{bb:Bool}(I:Inv X gd σ H s)(e:ExH H a C b fs)(c:b7 X.K fn C bm ini)(hf:f∈fn)(fo:FOk f)(l:fs.lookup f=Z v)
  (h:∀u s',Inv X gd σ H s'->RelV v u->Q u s'):wpAny (model X.prog X.w) A (getAttr (.ref a) f bb) Q E s:=by
 obtain⟨z,_⟩|⟨d,ne,e,ed⟩:=e
 ·rw[z]at l;cases l
 have hx:XAt a C (Z d) b s.heap:=(I.hok a _ e).1;obtain⟨mA,hn,r,wi⟩:XD d fs s.heap:=(I.hok d _ ed).1;let(nm,q,N,bs,sn,sub,ab,col,dd,k0,k1,k2,k3,k5,mN,hC,hN,V,_,T):=c.all s.heap I.kIn;let(u,P,ru):=iW.some_of (v:=v) (o:=mA f) (by rw[<- l];exact r f)
 have I':=I.tok (s.toks+1);let(hh,g,dr,t,os):=s;have mem:∀n∈xS fn,n∈("__init__":Str)::xS fn:=λn hn=>jQ _ hn
 exact A8 F.attrBase_ValueError (T.sub mem) (by simp[hf]) ad ad hC hN V fo (hx.OQ ne hn) P (W.handedOut_of (u7 ru)) (h u _ I' ru)
end
def Tn(K:BT)(fn:List Str)(ta tv:TE)(f:Str):TS:=λD σ H=>tv σ H λy H1=>ta σ H1 λx H2=>∃a C b bm ini,x=.ref a/\b7 K fn C bm ini/\f∈fn/\FOk f /\
 ((H2 a=Z (.ext (XAt a C Y b))/\∀d,H2 d=Y->d≠a->D.nx σ (upd (upd H2 d (.ext (XD d [(f,y)]))) a (.ext (XAt a C (Z d) b)))) \/
  ∃d fs,d≠a/\H2 a=Z (.ext (XAt a C (Z d) b))/\H2 d=Z (.ext (XD d fs))/\fs.length<1000/\D.nx σ (upd H2 d (.ext (XD d (gU f y fs)))))
def Gk(K:BT)(fn:List Str)(ta:TE)(f:Str):TE:=λσ H Q=>ta σ H λx H1=>∃a C b bm ini fs v,x=.ref a/\ExH H1 a C b fs/\b7 K fn C bm ini/\f∈fn/\FOk f/\fs.lookup f=Z v/\Q v H1
section
variable{X:Cx}{o e value:Ev}{f:Str}{pos pos':Pos}{ta tv:TE}{fn:List Str}
def Mq(ha:PE X o ta)(hv:PE X value tv)(hs:‹swapsWith value (Z (.Attribute o f pos')) pos.line X.env=pure false›):PS X (.Assign [.Attribute o f pos'] value pos) (Tn X.K fn ta tv f):=by
 right;refine plainObj_wpAny_Assign_Attribute (thn (hv gd s σ H _ I h) λu s1 (y,H1,I1,ry,q)=>thn (ha gd s1 σ H1 _ I1 q) λov s2 P=>?_) hs
 let(x,H2,I2,rx,a,C,b,bm,ini,ex,c,hf,fo,g):=P;subst ex;obtain rfl:ov=B.ref a:=rx;obtain⟨Q,g⟩|⟨d,fs,ne,Q,e1,hl,g⟩:=g
 ·exact GS I2 Q c hf fo ry λs3 d z ne V=>(σ,_,V,g d z ne)
 ·exact GR I2 Q ne e1 c hf fo hl ry λs3 V=>(σ,_,V,g)
def MI(he:PE X e ta)(P:‹attributeBase e f X.env (eval e X.env)=eval e X.env›):PE X (.Attribute e f pos) (Gk X.K fn ta f):=by
 left;refine Dj P (thn (he gd s σ H _ I h) λu s1 g=>?_)
 let(x,H1,I1,z,a,C,b,bm,ini,fs,v,ex,V,c,hf,fo,l,q):=g;subst ex;obtain rfl:u=B.ref a:=z;exact NG I1 V c hf fo l λu' s2 I2 ru=>(v,H1,I2,ru,q)
end
inductive xR(C:J)(fsN:List Str)(vs:List V)(H:Hp)(Q:VK)(_:XK):Prop
 |mk(a ys:_)(h1:vs=.ref a::ys)(h2:ys.length=fsN.length)(h3:H a=Z (.ext (XAt a C Y O)))(h4:∀d,H d=Y->d≠a->Q .non (upd (upd H d (.ext (XD d (fsN.zip ys)))) a (.ext (XAt a C (Z d) O))))
def Aa(C:J)(fsN:List Str)(t:TA):TE:=λσ H Q=>t σ H λvs H1=>vs.length=fsN.length/\vs.length<=1000/\∀a d,H1 a=Y->H1 d=Y->d≠a->Q (.ref a) (upd (upd H1 d (.ext (XD d (fsN.zip vs)))) a (.ext (XAt a C (Z d) O)))
variable{h':Do}{a:J}{d:J}{us:List B}
section
variable{X:Cx}{gd:List (J×Obj)}{σ:St}{H:Hp}{s:ϋ}{f:J}{k:Nat}{fd:Ch}{ps fn fsN:List Str}{x:Str}{p pos:Pos}{e:Ev}{es:List Ev}{t:TA}
def Ng{args:List B}{h:Do}{e:J}(m:XA h h' e (.ref C) args):XAt e C Y O h':=by
 let(t,he,_,_):=m.there;exact(.none,(_,_,_,he,U,U,U,U,U),λ_=>rfl)
def Vx{o:HO}(ne:d≠a):upd (upd (upd H a o) d o1) a o2=upd (upd H d o1) a o2:=by
 funext b
 by_cases h1:b=a
 ·rw[h1,au,au]
 ·rw[ao h1,ao h1];by_cases h2:b=d
  ·rw[h2,au,au]
  ·rw[ao h2,ao h2,ao h1]
theorem Ed{Q:VK}{vs:List V}(M:b7 X.K fn C bm (Z f))(aR:W.isFn X.K (.ref f)=O)(F:bj X.prog X.w X.K X.mg X.base CX0 k f fd ps (xR C fsN))(hr:cN (k+1) X.A)(hb:Binds X.K fd ps [])
  (I:Inv X gd σ H s) (r:Vals vs us) (hl:vs.length=fsN.length) (hz:vs.length<=1000) (h:∀a d,H a=Y->H d=Y->d≠a->Q (.ref a) (upd (upd H d (.ext (XD d (fsN.zip vs)))) a (.ext (XAt a C (Z d) O)))):
  Zk X (call (.ref C) us) (EP X gd σ Q) X.xe s:=by
 let(nm,q,N,bs,sn,sub,ab,col,dd,k0,k1,k2,k3,k5,mN,hC,hN,hS,hi,T):=M.all s.heap I.kIn;let(oI,aM,a0):=g5.mp (show(X.K.lookup f).map (·.cls)=Z (.type "function")from beq_iff_eq.mp aR);have aW:=I.kIn f oI aM;have a3:us.length<=1000:=by rw[<- r.length];exact hz
 have mk:∀h' e,XA s.heap h' e (.ref C) us->Inv X gd σ (upd H e (.ext (XAt e C Y O))) {s with heap:=h'}:=λh' e m=>I.yF (t':=s.toks) m.keeps m.new (Ng m).ok
 have hn:∀h' e,XA s.heap h' e (.ref C) us->H e=none:=λh' e m=>I.hok.no m.new
 have ay:=hr.make C us [];have e1:∀h' e,XA s.heap h' e (.ref C) us->zx X.prog X.w X.K X.mg X.base (X.A.under (.builtin "type.__call__" (.ref C::us,[]))) X.stack {s with heap:=h'} (upd H e (.ext (XAt e C Y O))):=λh' e m=>(mk h' e m).NO.make C us []
 let(hh,g,dr,tk,os):=s;refine BI PySem.F.excBase_ValueError (cA.tail ad T) hC hN hi aW a0 (λh' e m=>?_) (by rw[Xe];omega)
 have ak:xR C fsN (.ref e::vs) (upd H e (.ext (XAt e C Y O))) (λv H2=>v=.non/\Q (.ref e) H2) E0:=(e,vs,U,hl,au,λd z ne=>(U,by
  rw[Vx ne];have z':H d=none:=by rw[ao ne]at z;exact z
  exact h e d (hn h' e m) z' ne))
 have r2:Vals (V.ref e::vs) (B.ref e::us):=.cons U r;have aN:(B.ref e::us++[]).length=ps.length:=by
  rw[rD,<- r2.length];exact F.len _ _ _ _ ak
 have ar:=hb (h',g,dr,tk,os) (B.ref e::us) (mk h' e m).kIn aN;rw[rD]at ar;refine wpAny_call (codeAny_mono (F.run _ X.stack _ _ (B.ref e::us,[]) (B.ref e::us) _ _ E0 ay (e1 h' e m) ar r2 ak) λr s' P=>?_)
 cases r with
 |error e=>exact False.elim P
 |ok fl =>
  cases fl with
  |ret u =>
   let(v,H',I3,rv,ev,q3):=(mk h' e m).after P;subst ev;exact(rv,(V.ref e,H',I3,U,q3))
  |next=>exact False.elim P
  |brk=>exact False.elim P
  |cont=>exact False.elim P
theorem Iq(M:b7 X.K fn C bm (Z f))(z:W.isFn X.K (.ref f)=O)(kp:W.keepIn X.K (.ref C)=O)(F:bj X.prog X.w X.K X.mg X.base CX0 k f fd ps (xR C fsN))(hr:cN (k+1) X.A)(hg:Gl X x)(hm:X.mg x=Z (.ref C))(hb:Binds X.K fd ps [])
  (ha:PA X (e::es) t) (P:autoParam (AS x) zdc._auto_1) (he:‹AC X e es›) (g:‹AM X pos es›):
  PE X (.Call (.Name x p) (e::es) [] pos) (Aa C fsN t):=by
 left;refine WK (j7 I hg hm ?_ P);refine W.callWith_K (h₀:=X.base) I.ok.mod.kin kp (thn (ha pos gd s σ H _ I h) λus s1 (vs,H1,V,r,hl,hz,q)=>(V.kIn,?_)) he g
 exact Ed M z F hr hb V r hl hz q
end
section
variable{X:Cx}{gd:List (J×Obj)}{σ:St}{H:Hp}{s:ϋ}{C':J}{fn:List Str}{bm':List B}{wQ:Option J}{fs:List (Str×V)}{b:Bool}{A:Db}{E:B->ϋ->Prop}
def EZ:typeLookup (.type "ValueError") "__class__"=pure (Z (.builtin "object.__class__")):=by rw[typeLookup_type,builtinLookup_eq_fast];kernel_rfl
theorem yI{K:BT}(c:b7 K fn C bm ini):W.KitX K (.ref a) (.ref C) (λh=>∃o,h.get? a=Z o/\o.cls=.ref C) where
 ty:=λM h X (o,e,V)=>by
  intro A' Q' E' s' k q;unfold typeOf;refine fu (wpAny_loadPart (k _ _ e) (mX ?_))
  first
   | (rw[V];exact q)
   | (show Q' o.cls s';rw[V];exact q)
 it:=λM h X _=>by
  let(nm,q,N,bs,sn,sub,ab,col,dd,k0,k1,k2,k3,k5,mN,P,_):=c.all h X;intro A' Q' E' s' k q;unfold isType loadHead;exact fu (wpAny_loadPart (k _ _ P) (mX q))
 ne:=λh tp dd its n sl X ak=>by
  let(nm,q,N,bs,sn,sub,ab,col,dd',k0,k1,k2,k3,k5,mN,P,_):=c.all h X;refine Yl.mpr λq=>?_
  have e:C=tp:=B.ref.inj (beq_iff_eq.mp q);subst e;have z:B.type "type"=B.type "tuple":=congrArg Obj.cls (Option.some.inj (P.symm.trans ak));exact absurd z ac
 ca:=λ{prog w A E Q s} X (o,e,V) hq=>by
  let(nm,q,N,bs,sn,sub,ab,col,dd,k0,k1,k2,k3,k5,mN,P,hN,hS,hi,T):=c.all s.heap X;let(hh,g,dr,tk,os):=s;have mem:∀n∈xS fn,n∈("__init__":Str)::xS fn:=λn hn=>jQ _ hn
  exact zg EZ ac ad ad ad F.attrBase_ValueError (T.sub mem) P hN hS e V hq
theorem CM{K:BT}(c:b7 K fn C bm ini)(q:b7 K fn C' bm' wQ):W.kitOne K (.ref C) (.ref C')=Z ((B.ref C::bm).contains (.ref C')):=by
 unfold W.kitOne;let(cd,h1,h2):=c.cl;let(P,g,_):=q.cl
 split
 ·rename_i z;rw[beq_iff_eq.mp z];simp
 ·unfold W.kitCls W.subIn W.mroIn;simp[h1,g,q.ty,h2]
theorem Jm{K:BT}{T:String}(c:b7 K fn C bm ini)(hT:W.kitMeta T=O):W.kitOne K (.ref C) (.type T)=Z (bm.contains (.type T)):=by
 unfold W.kitOne;let(cd,h1,h2):=c.cl;rw[if_neg (by intro z;exact nomatch(beq_iff_eq.mp z))]
 unfold W.kitCls W.subIn W.mroIn;simp only[hT,if_true,h1,Option.bind_some,h2,List.isEmpty_cons,XU,if_false,BU];rfl
theorem ExH.cls{h:Do}{P:Da}{w:Cl}(e:ExH H a C b fs)(ok:HOk P w H h):∃o,h.get? a=Z o/\o.cls=.ref C:=by
 have go:∀dx,H a=Z (.ext (XAt a C dx b))->∃o,h.get? a=Z o/\o.cls=.ref C:=λdx e=>by
  let(y,(o,vs,z,q,g,_),_):=(ok a _ e).1;exact(o,q,g)
 obtain⟨_,e⟩|⟨d,_,e,_⟩:=e
 ·exact go _ e
 ·exact go _ e
theorem RK{c:B}{r:Bool}(I:Inv X gd σ H s)(e:ExH H a C b fs)(g:b7 X.K fn C bm ini)(ek:W.kitOne X.K (.ref C) c=Z r)(h:∀tk,Q (.bool r) {s with toks:=tk}):wpAny (model X.prog X.w) A (call (.builtin "isinstance") [.ref a,c]) Q E s:=
 W.kia_one (yI g) I.kIn (e.cls I.hok) ek (λz=>nomatch z) h
end
end L2
namespace PySem
open Sem (wp)
section
variable{M:Model}{A:Db}{E:B->ϋ->Prop}{env:Env}
variable{nm q nm' q':Str}{C N C' N':J}{bs bm bs' bm':List B}{kX U0:Bool}{sn sn':List Str}{sub Lw:List B}{ab ab':Bool}{col Ve:Option Bool}{dd dd':Option J}{k0 k1 k2 k3 k5 j0 j1 j2 j3 j5:Option B}{newId Rk:String}
def P6{s:ϋ}{x:Sem B}{Q:Flow->ϋ->Prop}(hh:A.handled=Y)
  (h:wpAny M A x (λv z=>∃e K C nm q N bs bm kX sn sub ab col dd k0 k1 k2 k3 k5 newId,v=.ref e/\z.heap.get? C=Z (excClassObj nm q C N bs bm kX sn sub ab col dd k0 k1 k2 k3 k5 newId)/\bm.contains (.type "BaseException")=O /\
   z.heap.get? e=Z K/\K.cls=.ref C/\(∃vs,K.data=.fields vs/\vs[1]?=Z .none)/\E (.ref e) z) E s):wpAny M A (raiseStmt env (Z x) Y) Q E s:=by
 unfold raiseStmt;refine fu (SH h (λv z h₁=>?_) λ_ _ x=>x)
 let(e,K,C,nm,q,N,bs,bm,kX,sn,sub,ab,col,dd,k0,k1,k2,k3,k5,newId,U,hC,hb,he,V,(vs,hd,h1),hE):=h₁;have P:(B.ref C::bm).contains (.type "BaseException")=true:=by rw[BU,hb,XY]
 let(hp,g,d,tk,os):=z;let(c0,d0,da,sl):=K;dsimp only at V hd;subst V hd
 repeat (first|with_reducible refine wpAny_loadPart_at he ?_|with_reducible refine wpAny_loadPart_at hC ?_|(with_reducible refine wpAny_isSubtype_exc hC ?_;rw[P])|wp_step)
 rw[h1]
 repeat (first|with_reducible refine wpAny_raiseNew_none hh hE|wp_step)
def Rl{h:Do}{g:Array YK}{d:Drawn}{t:Nat}{os:OsState}{e:J}{V:Obj}{Q:Bool->ϋ->Prop}
  (hC:h.get? C=Z (excClassObj nm q C N bs bm kX sn sub ab col dd k0 k1 k2 k3 k5 newId)) (z:h.get? C'=Z (excClassObj nm' q' C' N' bs' bm' U0 sn' Lw ab' Ve dd' j0 j1 j2 j3 j5 Rk)) (he:h.get? e=Z V) (yR:V.cls=.ref C)
  (hb:bm'.contains (.type "BaseException")=O) (hq:Q ((B.ref C::bm).contains (.ref C')) (h,g,d,t,os)):wpAny M A (excMatches (.ref e) (.ref C')) Q E (h,g,d,t,os):=by
 have P:(B.ref C'::bm').contains (.type "BaseException")=true:=by rw[BU,hb,XY]
 have f:=tc_notTuple;unfold excMatches
 repeat (first|(with_reducible refine wpAny_loadPart_at he ?_;rw[yR])|with_reducible refine wpAny_loadPart_at z ?_|(with_reducible refine wpAny_isSubtype_exc z ?_;rw[P])|wp_step)
 all_goals(cases K:(B.ref C::bm).contains (.ref C') <;>(rw[K]at hq;first|exact wpAny_isSubtype_exc hC (by rw[K];exact hq)|(refine wpAny_isSubtype_exc hC ?_;rw[K];repeat (first|exact hq|wp_step))))
end
end PySem
namespace L2
open PySem PySem.Spec PyProof.Rows
def CX1(P:Da)(w:Cl):CXT:=λouter H s E e s'=>∃a C dx T H',e=.ref a/\s'.os=s.os/\AllBare s'.gens/\Un (frs outer) [] H H' s.heap s'.heap/\HOk P w H' s'.heap /\
 H' a=Z (.ext (XAt a C dx ϊ))/\gA s'.heap a (.ref C) dx T .none/\H' T=Y/\s.heap.get? T=Y/\E (.ref C) (Z a) H'
variable{φ:Do->Prop}
section
variable{P:Da}{w:Cl}{bd H H':Hp}{h₀ h h':Do}{fs fr ex:List J}{a C T:J}{dx:Option J}{fl:B}
def Un.mf(u:Un fs [] bd H h₀ h)(k:dR fr ex h h')(hex:∀b∈ex,(∃φ,H b=Z (.ext φ))\/h₀.get? b=Y)(Q:∀b∈fr,b∈fs\/h₀.get? b=Y)(hH:∀b,H' b=H b\/∃φ K,H b=Z (.ext φ)/\H' b=Z (.ext K)):Un fs [] bd H' h₀ h':=by
 have nx:∀b o,h₀.get? b=Z o->H b=Y->b ∉ ex:=λb o e n z=>by
  obtain⟨φ,y⟩|y:=hex b z
  ·rw[n]at y;cases y
  ·rw[e]at y;cases y
 have st:∀b o,H b=Z o->(∀φ,o ≠ .ext φ)->H' b=Z o:=λb o e n=>by
  obtain z |⟨φ,K,z,_⟩:=hH b
  ·rw[z];exact e
  ·rw[e]at z;cases z;exact absurd U (n φ)
 refine(λb o e n q hx=>?_,λb o e n q hx=>?_,λb o e n hx=>?_,λb o e hx=>?_,λb xs e=>st b _ (u.lG b xs e) nofun,λb o xs e=>st b _ (u.jl b o xs e) nofun,λb ps e=>?_)
 ·refine k.keep b o (u.keep b o e n q hx) (λz=>?_) (nx b o e (u.free b o e n hx))
  obtain y|y:=Q b z
  ·exact q y
  ·rw[e]at y;cases y
 ·let(sl,g):=u.slot b o e n q hx;let(P,e2):=k.slot b _ g (nx b o e (u.free b o e n hx));exact(P,e2)
 ·have V:=u.free b o e n hx;obtain z |⟨φ,K,z,_⟩:=hH b
  ·rw[z];exact V
  ·rw[V]at z;cases z
 ·let(o',g):=u.there b o e hx;exact k.there b o' g
 ·let(more,g):=u.lH b ps e;exact(more,st b _ g nofun)
def HOk.mf(ok:HOk P w H h)(k:dR fr ex h h')(g:∀b∈fr,H b=Y)(hex:∀b∈ex,b=a\/H b=Y)(ha:H a=Z (.ext φ))(Q:∀b,b≠a->H' b=H b)(new:∀o,H' a=Z o->bH P w H' h' a o)
  (ak:∃V,H' a=Z (.ext V)):HOk P w H' h':=λc o e=>by
 by_cases K:c=a
 ·subst K;exact new o e
 ·rw[Q c K]at e;have st:∀b v,H b=Z v->(∀φ,v ≠ .ext φ)->H' b=Z v:=λb v q n=>by
   rw[Q b (λz=>by rw[z,ha]at q;cases q;exact n φ U)];exact q
  have go:∀b u v,H b=Z v->b≠a->h.get? b=Z u->h'.get? b=Z u:=λb u v q na r=>k.keep b u r (λz=>by rw[g b z]at q;cases q) λz=>by
   obtain y|y:=hex b z
   ·exact na y
   ·rw[y]at q;cases q
  refine(ok c o e).dq (λb u hb r=>?_) (λb q=>st b _ q nofun) λb xs q=>st b _ q nofun
  obtain y|y:=hb
  ·rw[y]at r ⊢;exact go c u o e K r
  ·exact go b u _ y (gZ y ha λz=>nomatch z) r
def _root_.PySem.gA.at(x:gA h a (.ref C) dx T fl):XAt a C dx ϊ h:=(_,x.2.1,λz=>nomatch z)
end
variable{P:Da}{mg:Str->Option B}{base:Do}{N:List Str}{qual:Str}{scope:Scope}{cd:B}{A:Db}{outer:List Env}{bd:Hp}{e:Ev}{te:TE}
section
variable{X:Cx}{gd:List (J×Obj)}{σ:St}{H:Hp}{s:ϋ}{a C T:J}{dx:Option J}{E:XK}{fn:List Str}
def mV(X:Cx)(Es:St->XK):Prop:=∀(gd:List (J×Obj))(σ:St)(H:Hp)(s:ϋ)(a C:J)(dx:Option J),Inv X gd σ H s->H a=Z (.ext (XAt a C dx O))->Es σ (.ref C) (Z a) (upd H a (.ext (XAt a C dx ϊ)))->X.xe (.ref a) s
def kf(CX:CXT)(X:Cx)(Es:St->XK):Prop:=∀(gd:List (J×Obj))(σ:St)(H:Hp)(s:ϋ)(e:B)(s':ϋ),Inv X gd σ H s->CX X.stack H s (Es σ) e s'->X.xe e s'
def F8{q:Do->Prop}(e:H a=Z (.ext φ))(b:J):upd H a (.ext q) b=H b\/∃φ g,H b=Z (.ext φ)/\upd H a (.ext q) b=Z (.ext g):=by
 by_cases z:b=a
 ·rw[z];exact .inr (φ,q,e,au)
 ·exact .inl (ao z)
theorem As{w:Cl}{K:BT}{f:J}{s₀:ϋ}:mV (nT (CX1 P w) P w K mg base N qual scope f cd A outer s₀ bd E) (λ_=>E):=by
 intro gd σ H s a C dx I e hE;obtain⟨y,hx,V⟩:XAt a C dx O s.heap:=(I.hok a _ e).1;rw[V rfl]at hx;refine rK (A:=A.deeper (envOfC qual scope s₀.heap.objs.size f cd)) (env:=envOfC qual scope s₀.heap.objs.size f cd) (outer:=outer) (base:=base) I.ok.frames I.stack U hx λh' T sz al Q=>?_
 have lt:∀b o,s₀.heap.get? b=Z o->b<s₀.heap.objs.size:=λb o q=>kn q
 refine(a,C,dx,T,upd H a (.ext (XAt a C dx ϊ)),U,I.os,I.bare,?_,?_,au,al,?_,U9 (ui I.sz sz),hE)
 ·refine Un.mf (fr:=frs (envOfC qual scope s₀.heap.objs.size f cd::outer)) I.base Q (λb g=>?_) (λb g=>?_) (F8 e)
  ·rw[fy.mp g];exact .inl (_,e)
  ·obtain z|z:=pj.mp (I.nq b g)
   ·exact .inr (by rw[z];exact U9 (ot _))
   ·exact .inl z
 ·exact HOk.mf (a:=a) I.hok Q (λb g=>I.jV b g) (λb g=>.inl (fy.mp g)) e (λb g=>ao g) (λo q=>by rw[au]at q;cases q;exact al.at.ok) (_,au)
 ·rw[ao al.1];exact I.hok.fresh sz
theorem AO{w:Cl}{K:BT}{f:J}{s₀:ϋ}:kf (CX1 P w) (nT (CX1 P w) P w K mg base N qual scope f cd A outer s₀ bd E) (λ_=>E):=by
 intro gd σ H s e s' I hx;let(a,C,dx,T,H',U,ar,hg,un,hok,V,al,hT,ay,hE):=hx;have g:=I.zk (ch:=[]) ar un hok hg (λb z=>nomatch z)
 refine uf (A:=A.deeper (envOfC qual scope s₀.heap.objs.size f cd)) (env:=envOfC qual scope s₀.heap.objs.size f cd) (outer:=outer) (base:=base) g.ok.frames g.stack U al λh' T' sz ak kx=>?_
 have aM:s₀.heap.get? T=none:=by
  cases q:s₀.heap.get? T with
  |none=>rfl
  |some o =>
   let(o',z):=I.base.there T o q (λz=>nomatch z)
   rw[ay]at z;cases z
 refine(a,C,dx,T',H',U,g.os,g.bare,?_,?_,V,ak,g.hok.fresh sz,U9 (ui g.sz sz),hE)
 ·refine Un.mf (fr:=frs (envOfC qual scope s₀.heap.objs.size f cd::outer)) g.base kx (λb Q=>?_) (λb Q=>?_) (λb=>.inl U)
  ·obtain z|z:=pj.mp Q
   ·rw[z];exact .inl (_,V)
   ·rw[fy.mp z];exact .inr aM
  ·obtain z|z:=pj.mp (g.nq b Q)
   ·exact .inr (by rw[z];exact U9 (ot _))
   ·exact .inl z
 ·refine HOk.mf (a:=a) g.hok kx (λb Q=>g.jV b Q) (λb Q=>?_) V (λb Q=>rfl) (λo q=>by rw[V]at q;cases q;exact ak.at.ok) (_,V)
  obtain z|z:=pj.mp Q
  ·exact .inl z
  ·rw[fy.mp z];exact .inr hT
def z8(K:BT)(fn:List Str)(Es:St->XK)(te:TE):TS:=λ_ σ H=>te σ H λv H1=>∃a C bm ini dx,v=.ref a/\b7 K fn C bm ini/\H1 a=Z (.ext (XAt a C dx O))/\Es σ (.ref C) (Z a) (upd H1 a (.ext (XAt a C dx ϊ)))
def HZ{Es:St->XK}{pos:Pos}(hc:X.calm=O)(hx:mV X Es)(he:PE X e te):PS X (.Raise (Z e) Y pos) (z8 X.K fn Es te):=by
 right;rw[arm_exec_Raise];refine fu (wpAny_standAt (P6 (I.ok.hd hc) (fu (thn (he gd s σ H _ I h) λv s1 Q=>?_))))
 let(x,H1,V,rx,a,C,bm,ini,dx,ex,c,ea,q):=Q;refine fu (wpAny_standAt (mX ?_));subst ex;obtain rfl:v=B.ref a:=rx;let(nm,q',N,bs,sn,sub,ab,col,dd,k0,k1,k2,k3,k5,mN,hC,hN,hS,hi,T):=c.all s1.heap V.kIn;let(y,(o,vs,a0,e1,P,ak,z,_,hy),g):=(V.hok a _ ea).1;rw[g rfl]at hy;exact(a,o,C,nm,q',N,bs,bm,O,sn,sub,ab,col,dd,k0,k1,k2,k3,k5,_,U,hC,T.hasType ac,e1,P,(vs,z,hy),hx gd σ H1 s1 a C dx V ea q)
end
abbrev Cx.inX(X:Cx)(a:J):Cx:={X with A:=X.A.mark (Z (.ref a)),calm:=ϊ,xe:=λ_ _=>False}
theorem Cx.Ok.inX{X:Cx}(ok:X.Ok)(a:J):(X.inX a).Ok:=
 (ok.mod,ok.kind,ok.glob,ok.blt,ok.above,ok.inj,ok.has,ok.cab,(λz=>nomatch z),ok.frames,ok.stk,ok.exf,ok.bs,ok.bsz,ok.AZ,ok.E6,ok.kl,ok.frf)
variable{M:Model}{E:B->ϋ->Prop}{x:Str}
section
variable{X:Cx}{gd:List (J×Obj)}{σ:St}{H:Hp}{s:ϋ}{a:J}
theorem Inv.inX(I:Inv X gd σ H s)(a:J):Inv (X.inX a) gd σ H s:=(I.ok.inX a,I.os,I.bare,I.base,I.loc,I.cell,I.free,I.dM,I.pin,I.hok,I.len)
def Inv.Eu(ok:X.Ok)(I:Inv (X.inX a) gd σ H s):Inv X gd σ H s:=(ok,I.os,I.bare,I.base,I.loc,I.cell,I.free,I.dM,I.pin,I.hok,I.len)
theorem SP.Eu(ok:X.Ok){D:Ends}{f:Flow}{s':ϋ}(h:SP (X.inX a) gd D f s'):SP X gd D f s':=by
 cases f with
 |next=>let(g,H',I,q):=h;exact(g,H',I.Eu ok,q)
 |brk=>let(g,H',I,q):=h;exact(g,H',I.Eu ok,q)
 |cont=>let(g,H',I,q):=h;exact(g,H',I.Eu ok,q)
 |ret u=>let(v,g,H',I,r,q):=h;exact(v,g,H',I.Eu ok,r,q)
abbrev Cx.oK(X:Cx)(pn:List (J×Obj))(xe:B->ϋ->Prop):Cx:={X with pn:=pn,xe:=xe}
theorem Cx.Ok.oK{X:Cx}(ok:X.Ok)(pn:List (J×Obj))(xe:B->ϋ->Prop):(X.oK pn xe).Ok:=
 (ok.mod,ok.kind,ok.glob,ok.blt,ok.above,ok.inj,ok.has,ok.cab,ok.hd,ok.frames,ok.stk,ok.exf,ok.bs,ok.bsz,ok.AZ,ok.E6,ok.kl,ok.frf)
theorem Inv.oK(I:Inv X gd σ H s)(xe:B->ϋ->Prop):Inv (X.oK (X.pn++gd) xe) [] σ H s:=(I.ok.oK _ _,I.os,I.bare,I.base,I.loc,I.cell,I.free,I.dM,λp hp=>I.pin p (by rw[rD]at hp;exact hp),I.hok,I.len)
def Inv.oh{xe:B->ϋ->Prop}{pins':List (J×Obj)}(ok:X.Ok)(I:Inv (X.oK (X.pn++gd) xe) pins' σ H s):Inv X gd σ H s:=(ok,I.os,I.bare,I.base,I.loc,I.cell,I.free,I.dM,λp hp=>I.pin p (qp _ hp),I.hok,I.len)
theorem SP.oh{xe:B->ϋ->Prop}(ok:X.Ok){D:Ends}{f:Flow}{s':ϋ}(h:SP (X.oK (X.pn++gd) xe) [] D f s'):SP X gd D f s':=by
 cases f with
 |next=>let(g,H',I,q):=h;exact(g,H',I.oh ok,q)
 |brk=>let(g,H',I,q):=h;exact(g,H',I.oh ok,q)
 |cont=>let(g,H',I,q):=h;exact(g,H',I.oh ok,q)
 |ret u=>let(v,g,H',I,r,q):=h;exact(v,g,H',I.oh ok,r,q)
structure Tb(X:Cx)(gd:List (J×Obj))(H:Hp)(T:J):Prop where
 n:H T=Y
 l:T≠X.env.locals
 z:X.s₀.heap.objs.size<=T
 c:∀x c,X.env.cells.lookup x=Z c->c≠T
 p:∀p∈X.pn++gd,p.1≠T
def Tb.of{T:J}(I:Inv X gd σ H s)(h:s.heap.objs.size<=T):Tb X gd H T where
 n:=I.hok.fresh h
 l:=E3 (sS I.lt h)
 z:=ui I.sz h
 c:=λx c e z=>by
  let(v,o,ho,_):=I.cell x c e;rw[z]at ho;exact absurd (sS (kn ho) h) (Kt _)
 p:=λp hp z=>by
  have e:=(I.pin p hp).1;rw[z]at e;exact absurd (sS (kn e) h) (Kt _)
def j6{i:Nat}{pos:Pos}{Q:Unit->ϋ->Prop}(I:Inv X gd σ H s)(hN:X.N.Nodup)(hi:X.N[i]?=Z x)(hk:BC X x)
  (h:∀s',Inv X gd (σ.set i Y) H s'->Q () s'):wpAny M A (do bindName X.env x .none;unbindBehindTheSuite X.env x pos) Q E s:=by
 let(m,hn,hl):=id I.loc;have yR:(X.env.scope.kind == .class ||(X.env.scope.kind == .module&&X.env.locals != X.env.globals))=false:=by rw[I.ok.kind];rfl
 have cne:=I.cne;refine wpAny_nameGoes_keeps hk hn yR λh' v P hs=>?_
 have sb:∀b o,X.s₀.heap.get? b=Z o->h'.get? b=s.heap.get? b:=λb o e=>hs.2 b (sT (sS (kn e) I.ok.above))
 let(oL,_,_,ak,_):=id hn;refine h _ (I.ok,I.os,I.bare,(λb o e n hb hx=>(sb b o e).trans (I.base.keep b o e n hb hx),λb o e n hb hx=>?_,I.base.free,λb o e hx=>?_,I.base.lG,I.base.jl,I.base.lH),(_,P,λj y v' K g e3=>?_),λy c e=>?_,I.free,I.dM,λp hp=>?_,λb ob e=>?_,(I.len:))
 ·let(sl,K):=I.base.slot b o e n hb hx;exact(sl,(sb b o e).trans K)
 ·let(o',K):=I.base.there b o e hx;exact(o',(sb b o e).trans K)
 ·by_cases V:j=i
  ·subst V;rw[List.getElem?_set]at g
   split at g
   ·split at g <;> cases g
   ·rename_i z;exact absurd U z
  ·rw[N8 (Ne.symm V)]at g;let(u',r',q):=hl j y v' K g e3;refine(u',r',?_);obtain⟨k,e⟩|⟨k,c,e,z⟩:=q
   ·refine .inl (k,?_)
    have:y≠x:=λe=>V (rB hN K (e▸hi))
    simp[this,e]
   ·exact .inr (k,c,e,z.sameBut hs (cne y c e))
 ·let(w',z):=I.cell y c e;exact(w',z.sameBut hs (cne y c e))
 ·let(e,n,ne,nf,d):=I.pin p hp;exact((hs.2 p.1 ne).trans e,n,ne,nf,d)
 ·refine(I.hok b ob e).dq (λc w' hc q=>(hs.2 c ?_).trans q) (λ_ q=>q) λ_ _ q=>q
  intro z;obtain y|y:=hc
  ·rw[<- y,z,I.free]at e;cases e
  ·rw[z,I.free]at y;cases y
end
abbrev TH:=J->J->TS
def PH(X:Cx)(hs:List ExceptHandler)(th:TH):Prop:=∀(gd:List (J×Obj))(s:ϋ)(σ:St)(H:Hp)(D:Ends)(a C T:J)(dx:Option J),Inv X gd σ H s->H a=Z (.ext (XAt a C dx ϊ))->gA s.heap a (.ref C) dx T .none->Tb X gd H T ->
 th a C D σ H->Zk X (handleBy (.ref a) X.env hs) (SP X gd D) X.xe s
def JG:TH:=λ_ _ _ _ _=>False
def Ends.go(D:Ends)(i:Nat):Ends:={nx:=λσ H=>D.nx (σ.set i Y) H,rt:=D.rt,bk:=λσ H=>D.bk (σ.set i Y) H,ct:=λσ H=>D.ct (σ.set i Y) H}
def hAs(K:BT)(fn:List Str)(C':J)(i:Nat)(ts:TS)(tr:TH):TH:=λa C D σ H=>∃bm ini,b7 K fn C bm ini/\((B.ref C::bm).contains (.ref C')=O->ts (D.go i) (σ.set i (Z (.ref a))) H)/\((B.ref C::bm).contains (.ref C')=ϊ->tr a C D σ H)
variable{hs:List ExceptHandler}{gd:List (J×Obj)}{H:Hp}{a:J}{C:J}{dx:Option J}{bm:List B}{ini:Option J}{R:Result->ϋ->Prop}{body:List EQ}
section
variable{X:Cx}{fn:List Str}{C':J}{bm':List B}{wQ:Option J}{n:Str}{p pos:Pos}{b0:EQ}{xQ:List EQ}{rest:List ExceptHandler}{ts:TS}{tr:TH}{i:Nat}
def Im:PH X hs JG:=λ_ _ _ _ _ _ _ _ _ _ _ _ _ h=>h.elim
def MD{s:ϋ}{σ:St}(hg:Gl X x)(hm:X.mg x=Z (.ref C'))(c':b7 X.K fn C' bm' wQ)(z:AS x)
  (I:Inv X gd σ H s) (ea:H a=Z (.ext (XAt a C dx ϊ))) (c:b7 X.K fn C bm ini) (h:R (.ok (if(B.ref C::bm).contains (.ref C')then .brk else .next)) s):
  codeAny (model X.prog X.w) (X.A.mark (Z (.ref a))) (.handlers (.ref a) [.ExceptHandler (Z (.Name x p)) Y [] pos] X.env) R s:=by
 refine codeAny_handlers_test (j7 (X:=X.inX a) (I.inX a) hg hm ?_ z);let(nm,q,N,bs,sn,sub,ab,col,dd,k0,k1,k2,k3,k5,mN,hC,_):=c.all s.heap I.kIn;let(nm',q',N',bs',sn',Lw,ab',Ve,dd',j0,j1,j2,j3,j5,V,Q,_,_,_,T'):=c'.all s.heap I.kIn;let(y,(o,vs,a0,e1,P,_),_):=(I.hok a _ ea).1;let(hh,g,dr,tk,os):=s;exact Rl hC Q e1 P (T'.hasType ac) h
def E5{s:ϋ}{σ:St}{T:J}{Q:Unit->ϋ->Prop}(I:Inv X gd σ H s)(q:H a=Z (.ext (XAt a C dx ϊ)))(al:gA s.heap a (.ref C) dx T .none)(tb:Tb X gd H T)
  (h:∀s',Inv X gd σ H s'->Q () s'):wpAny M A (setFlight (.ref a) Y) Q E s:=
 fO al λh' _ k=>h _ (I.turned (it:=T) (t':=s.toks) (λb o g e=>k.keep b o e (λz=>nomatch z) (λz=>g (fy.mp z))) tb.n tb.l (.inr tb.z) tb.c tb.p)
def Uk(Q:X.N.Nodup)(hi:X.N[i]?=Z n)(hk:BC X n)(hg:Gl X x)(hm:X.mg x=Z (.ref C'))(c':b7 X.K fn C' bm' wQ)(V:∀a,PSs (X.inX a) (b0::xQ) ts)(hr:PH X rest tr)(ak:autoParam (AS x) zdc._auto_1):
  PH X (.ExceptHandler (Z (.Name x p)) (Z n) (b0::xQ) pos::rest) (hAs X.K fn C' i ts tr):=by
 intro gd s σ H D a C T dx I ea al tb h;let(bm,ini,c,h1,h2):=h;refine wpAny_handleBy_cons (MD hg hm c' ak I ea c ?_) (by intro q;cases q)
 cases hz:(B.ref C::bm).contains (.ref C')with
 |true =>
  show codeAny _ _ _ _ _;refine codeAny_handlers_suite_as (E5 I ea al tb λs1 I1=>?_)
  refine gO I1 Q hi (.inl hk) (show RelV (.ref a) (B.ref a)from U) (λs2 I2=>?_) (.inr hk)
  refine SH (V a gd s2 _ H (D.go i) (I2.inX a) (h1 hz)) (λf s3 q=>?_) λ_ _ z=>False.elim z
  have q:=q.Eu I.ok;cases f with
  |next=>let(g,H',Zh,q):=q;exact j6 Zh Q hi hk λs4 P=>(_,H',P,q)
  |brk=>let(g,H',Zh,q):=q;exact j6 Zh Q hi hk λs4 P=>(_,H',P,q)
  |cont=>let(g,H',Zh,q):=q;exact j6 Zh Q hi hk λs4 P=>(_,H',P,q)
  |ret u=>let(v,g,H',Zh,r,q):=q;exact j6 Zh Q hi hk λs4 P=>(v,_,H',P,r,q)
 |false=>exact hr gd s σ H D a C T dx I ea al tb (h2 hz)
def Te(th:TH)(tb:(St->XK)->TS):TS:=λD σ H=>tb (λg cls oa H'=>∃a C,cls=.ref C/\oa=Z a/\th a C D g H') D σ H
def Qz{th:TH}{tb:(St->XK)->TS}{h0:ExceptHandler}(K:X.stack=X.env::X.outer)(hf:X.env.frame=Z X.env.locals)
  (g:∀(Es:St->XK)(pn:List (J×Obj))(xe:B->ϋ->Prop),kf (CX1 X.prog X.w) (X.oK pn xe) Es->mV (X.oK pn xe) Es->PSs (X.oK pn xe) body (tb Es)) (hh:PH X (h0::hs) th):PS X (.Try body (h0::hs) [] [] pos) (Te th tb):=by
 right;refine wpAny_Try_except (SH (g _ (X.pn++gd) (λe aR=>Zk X (noteFrame e X.env) (λ_ s₂=>Zk X (setFlight e Y) (λ_ aN=>Zk X (handleBy e X.env (h0::hs)) (SP X gd D) X.xe aN) X.xe s₂) X.xe aR) ?_ ?_ [] s σ H D (I.oK _) h) (λf s1 q=>?_) λe s1 q=>q)
 ·intro pins' P H1 s1 e s2 I1 hx;let(a,C,dx,T,H',U,a0,hg,un,hok,ea,al,hT,a3,a',C',ec,eo,hE):=hx;cases ec;cases eo;have Zh:=I1.oh I.ok;have J2:=Zh.zk (ch:=[]) a0 un hok hg (λb z=>nomatch z)
  have V:=J2.stack;rw[K]at V;refine rA (base:=X.base) (L:=X.env.locals) (by rw[<- K];exact J2.ok.frames) V hf al λh3 T3 Q ar k3=>?_
  refine fO ar λh4 ak k4=>?_
  have kx:dR ((X.env::X.outer).filterMap (·.frame)) [a,T] s2.heap h4:=k3.trans (k4.mono nofun λb z=>z) λb ob q z=>by
   rw[fy.mp z]at q;exact absurd (sS (kn q) Q) (Kt _)
  have ay:Un (frs X.stack) [] H1 H' s1.heap h4:=Un.mf un kx (λb g=>by
   obtain z|z:=pj.mp g
   ·rw[z];exact .inl (_,ea)
   ·rw[fy.mp z];exact .inr a3) (λb g=>.inl (by rw[K];exact g)) (λb=>.inl U)
  have aM:HOk X.prog X.w H' h4:=by
   refine HOk.mf (a:=a) J2.hok kx (λb g=>J2.jV b (by rw[K];exact g)) (λb g=>?_) ea (λb g=>rfl) (λo q=>by rw[ea]at q;cases q;exact ak.at.ok) (_,ea)
   obtain z|z:=pj.mp g
   ·exact .inl z
   ·rw[fy.mp z];exact .inr hT
  have J4:Inv X gd P H' {s2 with heap:=h4}:=Zh.zk (s':={s2 with heap:=h4}) (ch:=[]) a0 ay aM hg (λb z=>nomatch z)
  exact hh gd _ P H' D a C T3 dx J4 ea ak (Tb.of J2 Q) hE
 ·intro pins' P H1 s1 a C dx I1 ea hx;let(a',C',ec,eo,hE):=hx;cases ec;cases eo;have Zh:=I1.oh I.ok;obtain⟨y,aW,hy⟩:XAt a C dx O s1.heap:=(Zh.hok a _ ea).1;rw[hy rfl]at aW;have V:=Zh.stack;rw[K]at V;refine ou (base:=X.base) (L:=X.env.locals) (by rw[<- K];exact Zh.ok.frames) V hf aW λh3 T3 Q ar k3=>?_
  refine fO ar λh4 ak k4=>?_
  have kx:dR ((X.env::X.outer).filterMap (·.frame)) [a] s1.heap h4:=k3.trans (k4.mono nofun λb z=>z) λb ob q z=>by
   rw[fy.mp z]at q;exact absurd (sS (kn q) Q) (Kt _)
  have ay:Un (frs X.stack) [] H1 (upd H1 a (.ext (XAt a C dx ϊ))) s1.heap h4:=Un.mf Un.refl kx (λb g=>by
   rw[fy.mp g];exact .inl (_,ea)) (λb g=>.inl (by rw[K];exact g)) (F8 ea)
  have aM:HOk X.prog X.w (upd H1 a (.ext (XAt a C dx ϊ))) h4:=HOk.mf (a:=a) Zh.hok kx (λb g=>Zh.jV b (by rw[K];exact g)) (λb g=>.inl (fy.mp g)) ea (λb g=>ao g) (λo q=>by rw[au]at q;cases q;exact ak.at.ok) (_,au)
  have J4:Inv X gd P (upd H1 a (.ext (XAt a C dx ϊ))) {s1 with heap:=h4}:=Zh.zk (s':={s1 with heap:=h4}) (ch:=[]) U ay aM Zh.bare (λb z=>nomatch z)
  have tb:=Tb.of Zh Q;exact hh gd _ P _ D a C T3 dx J4 au ak (by rw[ao ar.1];exact tb.n,tb.l,tb.z,tb.c,tb.p) hE
 ·have q:=q.oh I.ok;cases f with
  |next=>exact wpAny_execs_nil q
  |brk=>exact q
  |cont=>exact q
  |ret u=>exact q
end
def Ab(sp:Sp)(Es:St->XK)(t:TA):TE:=λσ H Q=>t σ H λvs H1=>sp vs H1 Q (Es σ)
variable{st:EQ}
section
variable{X:Cx}{CX:CXT}{k:Nat}{f:J}{fd:Ch}{ps:List Str}{sp:Sp}{Es:St->XK}{p pos:Pos}{es:List Ev}{t:TA}
theorem Iz(F:bj X.prog X.w X.K X.mg X.base CX k f fd ps sp)(hr:cN k X.A)(hg:Gl X x)(hm:X.mg x=Z (.ref f))(hk:W.keepIn X.K (.ref f)=O)(hb:Binds X.K fd ps [])(hx:kf CX X Es)
  (ha:PA X (e::es) t) (V:autoParam (AS x) zdc._auto_1) (he:‹AC X e es›) (P:‹AM X pos es›):
  PE X (.Call (.Name x p) (e::es) [] pos) (Ab sp Es t):=by
 left;refine WK (j7 I hg hm ?_ V);refine W.callWith_K (h₀:=X.base) I.ok.mod.kin hk (thn (ha pos gd s σ H _ I h) λus s1 (vs,H1,z,r,q)=>(z.kIn,?_)) he P
 have hl:(us++[]).length=ps.length:=by rw[rD,<- r.length];exact F.len _ _ _ _ q
 have g:=hb s1 us z.kIn hl;rw[rD]at g;refine wpAny_call (codeAny_mono (F.run X.A X.stack s1 H1 (us,[]) us vs Q (Es σ) hr z.NO g r q) λr s' hq=>?_)
 cases r with
 |error e=>exact hx gd σ H1 s1 e s' z hq
 |ok fl =>
  cases fl with
  |ret u=>exact z.after hq
  |next=>exact False.elim hq
  |brk=>exact False.elim hq
  |cont=>exact False.elim hq
theorem Fun.okX{w:Cl}{K:BT}{f:J}{k:Nat}(F:Fun K x qual st f fd)(S:aG N ps (aw st))(len:∀vs H Q E,sp vs H Q E->vs.length=ps.length)
  (z:∀(cdv:B)(A:Db)(outer:List Env)(s:ϋ)(H:Hp)(vs:List V)(Q:VK)(E:XK),cN k (A.deeper (envOfC qual (aw st) s.heap.objs.size f cdv))->sp vs H Q E ->
   ∃t,PSs (nT (CX1 P w) P w K mg base N qual (aw st) f cdv A outer s H E) (bQ st) t/\t {nx:=λ_ H'=>Q .non H',rt:=Q} (start N vs) H):bj P w K mg base (CX1 P w) (k+1) f fd ps sp:=by
 let(oc,od,kV,doc,pm,an,cdv,ct,osl,U,lk,q):=F.ex;exact O2 lk q S len λA outer s H vs Q E hr g=>z cdv A outer s H vs Q E hr g
end
def len0{P:List B->Prop}(h:P [])(us:List B)(e:us.length=0):P us:=by rw[xw.mp e];exact h
def UA{P:List B->Prop}(h:∀a,P [a])(us:List B)(e:us.length=1):P us:=by
 cases us with
 |nil=>cases e
 |cons a r=>exact len0 (P:=λr=>P (a::r)) (h a) r (Nat.succ.inj e)
def Uz{P:List B->Prop}(h:∀a b,P [a,b])(us:List B)(e:us.length=2):P us:=by
 cases us with
 |nil=>cases e
 |cons a r=>exact UA (P:=λr=>P (a::r)) (h a) r (Nat.succ.inj e)
def Uy{P:List B->Prop}(h:∀a b c,P [a,b,c])(us:List B)(e:us.length=3):P us:=by
 cases us with
 |nil=>cases e
 |cons a r=>exact Uz (P:=λr=>P (a::r)) (h a) r (Nat.succ.inj e)
def Ux{P:List B->Prop}(h:∀a b c d,P [a,b,c,d])(us:List B)(e:us.length=4):P us:=by
 cases us with
 |nil=>cases e
 |cons a r=>exact Uy (P:=λr=>P (a::r)) (h a) r (Nat.succ.inj e)
def Uw{P:List B->Prop}(h:∀a b c d e,P [a,b,c,d,e])(us:List B)(e:us.length=5):P us:=by
 cases us with
 |nil=>cases e
 |cons a r=>exact Ux (P:=λr=>P (a::r)) (h a) r (Nat.succ.inj e)
set_option genInjectivity true in
inductive T where
 |n|b (x:Bool)|i (x:Int)|s (x:Str)|t (xs:List T)|l (xs:List T)|d (ks:List (Key×T))|dv|z (ns:List Int)|ty (x:String)|k (ws:List Str)|q|fd (o:Obj) (vs:List (Key×V)) (ks:List (Key×T))|xc (C:J) (ns:List Str) (ts:List T)|rm (u:Int)|ob (C:J) (ns:List Str) (ts:List T)|dp (a:J) (ks:List (Key×T))|lp (a:J) (xs:List T)|zl (xs:List T)|rf (a:J)|om (a C:J) (ns:List Str) (ts:List T)|fz (u:HO)
abbrev Dl:=List (J×J)
def FzL(K:BT)(H:Hp)(a:J)(xs:List V):Prop:=(∃o,H a=Z (.frz o (.lst xs))) \/
  ∃(o:Obj)(its:Array B)(n:Nat),K.lookup a=Z o/\o.cls=.type "list" /\ o.dict=Y/\o.data=.seq its n/\its.size<=pY/\Vals xs its.toList
theorem FzL.sq{K:BT}{xs:List V}(h:FzL K H a xs):SqL K H a xs:=by
 obtain h|h:=h
 ·exact .inl (.inr h)
 ·exact .inr h
def xv(a C dx:J)(h:Do):Prop:=h.get? a=Z (W.instObj C dx)
inductive ObH(H:Hp)(a C:J)(fs:List (Str×V)):Prop
 |mk(dx:_)(h1:dx≠a)(h2:H a=Z (.ext (xv a C dx)))(h3:H dx=Z (.ext (XD dx fs)))
mutual
inductive aJ(K:BT)(dl:Dl)(H:Hp):V->T->List J->Prop where
 |n:aJ K dl H .non .n []
 |b(x:Bool):aJ K dl H (.bl x) (.b x) []
 |i(x:Int):aJ K dl H (.int x) (.i x) []
 |s(x:Str):aJ K dl H (.str x) (.s x) []
 |ty(x:String):aJ K dl H (.ty x) (.ty x) []
 |t{a:J}{vs:List V}{ts:List T}{F:List J}:H a=Z (.tup vs)->az K dl H vs ts F->aJ K dl H (.ref a) (.t ts) F
 |l{a:J}{vs:List V}{ts:List T}{F:List J}:H a=Z (.lst vs)->az K dl H vs ts F->aJ K dl H (.ref a) (.l ts) (a::F)
 |d{a:J}{vs:List (Key×V)}{ts:List (Key×T)}{F:List J}:H a=Z (.dK vs)->a6 K dl H vs ts F->aJ K dl H (.ref a) (.d ts) (a::F)
 |x{a l:J}:(a,l)∈dl->aJ K dl H (.ref a) .dv []
 |z{a:J}{ns:List Int}:FzL K H a (ns.map V.int)->aJ K dl H (.ref a) (.z ns) []
 |q{a:J}{xs:List V}:H a=Z (.lst xs)->aJ K dl H (.ref a) .q []
 |fd{a:J}{o:Obj}{vs:List (Key×V)}{ts:List (Key×T)}:H a=Z (.frz o (.dK vs))->a6 K dl H vs ts []->aJ K dl H (.ref a) (.fd o vs ts) []
 |k{a:J}{ws:List Str}:(∀H':Hp,SqT K H' a (ws.map V.str))->aJ K dl H (.ref a) (.k ws) []
 |e{a C:J}{b:Bool}{ns:List Str}{vs:List V}{ts:List T}:ExH H a C b (ns.zip vs)->az K dl H vs ts []->aJ K dl H (.ref a) (.xc C ns ts) []
 |rm{a:J}{x u:Int}:H a=Z (.room x)->x<=u->aJ K dl H (.ref a) (.rm u) []
 |ob{a C:J}{ns:List Str}{vs:List V}{ts:List T}:ObH H a C (ns.zip vs)->az K dl H vs ts []->aJ K dl H (.ref a) (.ob C ns ts) []
 |dp{a:J}{vs:List (Key×V)}{ts:List (Key×T)}{F:List J}:H a=Z (.dK vs)->a6 K dl H vs ts F->aJ K dl H (.ref a) (.dp a ts) (a::F)
 |lp{a:J}{vs:List V}{ts:List T}{F:List J}:H a=Z (.lst vs)->az K dl H vs ts F->aJ K dl H (.ref a) (.lp a ts) (a::F)
 |zl{a:J}{o:Obj}{vs:List V}{ts:List T}:H a=Z (.frz o (.lst vs))->az K dl H vs ts []->aJ K dl H (.ref a) (.zl ts) []
 |rf(a:J):aJ K dl H (.ref a) (.rf a) []
 |om{a C dx:J}{ns:List Str}{vs:List V}{ts:List T}{F:List J}:H a=Z (.ins C dx (ns.zip vs))->H dx=Z (.own a)->ns.length=ts.length->az K dl H vs ts F->aJ K dl H (.ref a) (.om a C ns ts) (a::dx::F)
 |fz{a:J}{o:Obj}{u:HO}:H a=Z (.frz o u)->aJ K dl H (.ref a) (.fz u) []
inductive az(K:BT)(dl:Dl)(H:Hp):List V->List T->List J->Prop where
 |nil:az K dl H [] [] []
 |cons{v:V}{x:T}{vs:List V}{ts:List T}{F G:List J}:aJ K dl H v x F->az K dl H vs ts G->az K dl H (v::vs) (x::ts) (F++G)
inductive a6(K:BT)(dl:Dl)(H:Hp):List (Key×V)->List (Key×T)->List J->Prop where
 |nil:a6 K dl H [] [] []
 |cons{k:Key}{v:V}{x:T}{vs:List (Key×V)}{ts:List (Key×T)}{F G:List J}:aJ K dl H v x F->a6 K dl H vs ts G->a6 K dl H ((k,v)::vs) ((k,x)::ts) (F++G)
end
def HO.mt:HO->Bool
 |.lst _=>O
 |.dK _=>O
 |.ins _ _ _=>O
 |.own _=>O
 |_=>ϊ
inductive gx(H:Hp)(b:J):Prop
 |mk(o:_)(h1:H b=Z o)(h2:o.mt=O)
def gx.no{b:J}(h:gx H b)(e:H b=Y):False:=by
 let(_,h,_):=h;rw[e]at h;cases h
structure TF(H H':Hp):Prop where
 t:∀a vs,H a=Z (.tup vs)->H' a=Z (.tup vs)
 f:∀a o u,H a=Z (.frz o u)->H' a=Z (.frz o u)
 x:∀a φ,H a=Z (.ext φ)->H' a=Z (.ext φ)
 q:∀a xs,H a=Z (.lst xs)->∃ys,H' a=Z (.lst ys)
 r:∀a x,H a=Z (.room x)->∃y,y<=x/\H' a=Z (.room y)
variable{H':Hp}
def ObH.tf{fs:List (Str×V)}(h:ObH H a C fs)(k:TF H H'):ObH H' a C fs:=by
 let(d,h1,h2,h3):=h;exact(d,h1,k.x _ _ h2,k.x _ _ h3)
def ExH.tf{b:Bool}{fs:List (Str×V)}(h:ExH H a C b fs)(k:TF H H'):ExH H' a C b fs:=by
 obtain⟨h1,h2⟩|⟨d,h1,h2,h3⟩:=h
 ·exact .inl (h1,k.x _ _ h2)
 ·exact .inr (d,h1,k.x _ _ h2,k.x _ _ h3)
theorem FzL.tf{K:BT}{vs:List V}(h:FzL K H a vs)(k:TF H H'):FzL K H' a vs:=by
 obtain⟨o,h⟩|h:=h
 ·exact .inl (o,k.f _ _ _ h)
 ·exact .inr h
def bO{α:Type}{p:α->Prop}:∀b∈([]:List α),p b:=λ_ h=>absurd h xy
variable{dl:Dl}{dl':Dl}
theorem aJ.dq{K:BT}(k:TF H H')(hd:∀p∈dl,p∈dl'){v:V}{t:T}{F:List J}(h:aJ K dl H v t F):(∀b∈F,∀o,H b=Z o->H' b=Z o)->aJ K dl' H' v t F:=
 aJ.rec (motive_2:=λv t F _=>(∀b∈F,∀o,H b=Z o->H' b=Z o)->az K dl' H' v t F) (motive_3:=λv t F _=>(∀b∈F,∀o,H b=Z o->H' b=Z o)->a6 K dl' H' v t F)
  (λ_=>.n) (λx _=>.b x) (λx _=>.i x) (λx _=>.s x) (λx _=>.ty x) (λh _ g q=>.t (k.t _ _ h) (g q))
  (λh _ g q=>.l (q _ lj _ h) (g λb P=>q b (jQ _ P))) (λh _ g q=>.d (q _ lj _ h) (g λb P=>q b (jQ _ P)))
  (λh _=>.x (hd _ h)) (λh _=>.z (h.tf k)) (λh _=>Exists.elim (k.q _ _ h) λ_ e=>.q e) (λh _ g _=>.fd (k.f _ _ _ h) (g bO)) (λh _=>.k h) (λh _ g _=>.e (h.tf k) (g bO))
  (λh hx _=>Exists.elim (k.r _ _ h) λ_ e=>.rm e.2 (XH e.1 hx)) (λh _ g _=>.ob (h.tf k) (g bO)) (λh _ g q=>.dp (q _ lj _ h) (g λb P=>q b (jQ _ P))) (λh _ g q=>.lp (q _ lj _ h) (g λb P=>q b (jQ _ P))) (λh _ g _=>.zl (k.f _ _ _ h) (g bO)) (λa _=>.rf a) (λh1 h2 h3 _ g q=>.om (q _ lj _ h1) (q _ (jQ _ lj) _ h2) h3 (g λb P=>q b (jQ _ (jQ _ P)))) (λh _=>.fz (k.f _ _ _ h))
  (λ_=>.nil) (λ_ _ i1 i2 q=>.cons (i1 λb P=>q b (qp _ P)) (i2 λb P=>q b (qg _ P)))
  (λ_=>.nil) (λ_ _ i1 i2 q=>.cons (i1 λb P=>q b (qp _ P)) (i2 λb P=>q b (qg _ P))) h
@[elab_as_elim]
theorem az.ind{K:BT}{M:List V->List T->List J->Prop}(nil:M [] [] [])(cons:∀v x vs ts F G,aJ K dl H v x F->az K dl H vs ts G->M vs ts G->M (v::vs) (x::ts) (F++G)){vs:List V}{ts:List T}{F:List J}(h:az K dl H vs ts F):M vs ts F:=
 az.rec (motive_1:=λ_ _ _ _=>True) (motive_3:=λ_ _ _ _=>True) trivial (λ_=>trivial) (λ_=>trivial) (λ_=>trivial) (λ_=>trivial) (λ_ _ _=>trivial) (λ_ _ _=>trivial) (λ_ _ _=>trivial)
  (λ_=>trivial) (λ_=>trivial) (λ_=>trivial) (λ_ _ _=>trivial) (λ_=>trivial) (λ_ _ _=>trivial) (λ_ _=>trivial) (λ_ _ _=>trivial) (λ_ _ _=>trivial) (λ_ _ _=>trivial) (λ_ _ _=>trivial) (λ_=>trivial) (λ_ _ _ _ _=>trivial) (λ_=>trivial) nil (λh r _ g=>cons _ _ _ _ _ _ h r g) trivial (λ_ _ _ _=>trivial) h
@[elab_as_elim]
theorem a6.ind{K:BT}{M:List (Key×V)->List (Key×T)->List J->Prop}(nil:M [] [] [])(cons:∀k v x vs ts F G,aJ K dl H v x F->a6 K dl H vs ts G->M vs ts G->M ((k,v)::vs) ((k,x)::ts) (F++G)){vs:List (Key×V)}{ts:List (Key×T)}{F:List J}(h:a6 K dl H vs ts F):M vs ts F:=
 a6.rec (motive_1:=λ_ _ _ _=>True) (motive_2:=λ_ _ _ _=>True) trivial (λ_=>trivial) (λ_=>trivial) (λ_=>trivial) (λ_=>trivial) (λ_ _ _=>trivial) (λ_ _ _=>trivial) (λ_ _ _=>trivial)
  (λ_=>trivial) (λ_=>trivial) (λ_=>trivial) (λ_ _ _=>trivial) (λ_=>trivial) (λ_ _ _=>trivial) (λ_ _=>trivial) (λ_ _ _=>trivial) (λ_ _ _=>trivial) (λ_ _ _=>trivial) (λ_ _ _=>trivial) (λ_=>trivial) (λ_ _ _ _ _=>trivial) (λ_=>trivial) trivial (λ_ _ _ _=>trivial) nil (λh r _ g=>cons _ _ _ _ _ _ _ h r g) h
theorem az.dq{K:BT}{dl dl':Dl}{H H':Hp}(k:TF H H')(hd:∀p∈dl,p∈dl'){vs:List V}{ts:List T}{F:List J}(h:az K dl H vs ts F):(∀b∈F,∀o,H b=Z o->H' b=Z o)->az K dl' H' vs ts F:=
 h.ind (λ_=>.nil) (λ_ _ _ _ _ _ h _ z q=>.cons (h.dq k hd λb g=>q b (qp _ g)) (z λb g=>q b (qg _ g)))
theorem a6.dq{K:BT}{dl dl':Dl}{H H':Hp}(k:TF H H')(hd:∀p∈dl,p∈dl'){vs:List (Key×V)}{ts:List (Key×T)}{F:List J}(h:a6 K dl H vs ts F):(∀b∈F,∀o,H b=Z o->H' b=Z o)->a6 K dl' H' vs ts F:=
 h.ind (λ_=>.nil) (λ_ _ _ _ _ _ _ h _ z q=>.cons (h.dq k hd λb g=>q b (qp _ g)) (z λb g=>q b (qg _ g)))
variable{G:List J}
def ni{F:List J}(h:∀b∈F,gx H b)(r:∀b∈G,gx H b):∀b∈F++G,gx H b:=λb g=>(n6.mp g).elim (h b) (r b)
theorem aJ.there{K:BT}{v:V}{t:T}{F:List J}(h:aJ K dl H v t F):∀b∈F,gx H b:=
 aJ.rec
  bO (λ_=>bO) (λ_=>bO) (λ_=>bO) (λ_=>bO) (λ_ _ g=>g)
  (λh _ g b q=>(pj.mp q).elim (λe=>by rw[e];exact(_,h,U)) (g b)) (λh _ g b q=>(pj.mp q).elim (λe=>by rw[e];exact(_,h,U)) (g b))
  (λ_=>bO) (λ_=>bO) (λ_=>bO) (λ_ _ _=>bO) (λ_=>bO) (λ_ _ _=>bO)
  (λ_ _=>bO) (λ_ _ _=>bO) (λh _ g b q=>(pj.mp q).elim (λe=>by rw[e];exact(_,h,U)) (g b)) (λh _ g b q=>(pj.mp q).elim (λe=>by rw[e];exact(_,h,U)) (g b)) (λ_ _ _=>bO) (λ_=>bO) (λh1 h2 _ _ g b q=>(pj.mp q).elim (λe=>by rw[e];exact(_,h1,U)) λq=>(pj.mp q).elim (λe=>by rw[e];exact(_,h2,U)) (g b)) (λ_=>bO)
  bO (λ_ _ i1 i2=>ni i1 i2) bO (λ_ _ i1 i2=>ni i1 i2) h
theorem az.there{K:BT}{dl:Dl}{H:Hp}{vs:List V}{ts:List T}{F:List J}(h:az K dl H vs ts F):∀b∈F,gx H b:=h.ind bO (λ_ _ _ _ _ _ h _ g=>ni h.there g)
def Nd(dl:Dl)(b:J):Prop:=∀p∈dl,b≠p.1/\b≠p.2
def Dls(dl:Dl)(H:Hp):Prop:=∀p∈dl,m4 H p.1 p.2
def Dls.nd(D:Dls dl H){b:J}{o:HO}(h:H b=Z o)(h1:∀xs,o ≠ .lst xs)(h2:∀ks,o ≠ .dK ks):Nd dl b:=λp hp=>by
 let(s,n,ls,Q):=D p hp;exact(gZ h Q.hd (h2 _),gZ h Q.hl (h1 _))
def Dls.nd0(D:Dls dl H){b:J}(h:H b=Y):Nd dl b:=λp hp=>by
 let(s,n,ls,Q):=D p hp;exact((aO Q.hd h).symm,(aO Q.hl h).symm)
def NR(o:HO):Prop:=∀x,o ≠ .room x
structure Evo(dl:Dl)(H H':Hp):Prop where
 k:∀b o,H b=Z o->Nd dl b->NR o->H' b=Z o
 d:Dls dl H'
 r:∀a x,H a=Z (.room x)->∃y,y<=x/\H' a=Z (.room y)
def NR.of{b:J}{o:HO}(h:gx H b)(e:H b=Z o):NR o:=λx z=>by
 let(_,h,m):=h;rw[e,z]at h;cases h;cases m
def Evo.refl(D:Dls dl H):Evo dl H H:=(λ_ _ h _ _=>h,D,λ_ x h=>(x,WZ _,h))
variable{H1:Hp}{H2:Hp}
def Evo.trans(a:Evo dl H H1)(b:Evo dl H1 H2):Evo dl H H2:=(λc o h n r=>b.k c o (a.k c o h n r) n r,b.d,λc x h=>let(y,q,e):=a.r c x h;let(z,g,K):=b.r c y e;(z,XH g q,K))
def Evo.tf(e:Evo dl H H')(D:Dls dl H):TF H H':=
 (λa vs h=>e.k a _ h (D.nd h nofun nofun) nofun,λa o u h=>e.k a _ h (D.nd h nofun nofun) nofun,λa φ h=>e.k a _ h (D.nd h nofun nofun) nofun,λa xs h=>(by
  by_cases hn:Nd dl a
  ·exact(xs,e.k a _ h hn nofun)
  ·obtain⟨p,hp,z⟩:∃p∈dl,¬(a≠p.1/\a≠p.2):=Classical.byContradiction λc=>hn λp hp=>Classical.byContradiction λz=>c (p,hp,z)
   let(s,n,ls,Q):=D p hp;let(s',q,ls',Q'):=e.d p hp;have h1:=gZ h Q.hd (λz=>nomatch z)
   have h2:=Classical.byContradiction λg=>z (h1,g)
   exact(_,by rw[h2];exact Q'.hl)),e.r)
theorem Evo.new{p:J}{o:HO}(e:Evo dl H H1)(hp:H1 p=Y):Evo dl H (upd H1 p o):=
 (λc u h n r=>by rw[ao (aO (e.k c u h n r) hp)];exact e.k c u h n r,λq hq=>(e.d q hq).new hp,λc x h=>let(y,z,g):=e.r c x h;(y,z,by rw[ao (aO g hp)];exact g))
def Evo.free(e:Evo dl H H'){p:J}(hp:H' p=Y):H p=none:=by
 cases q:H p with
 |none=>rfl
 |some o =>
  by_cases hn:NR o
  ·rw[e.k p o q (e.d.nd0 hp) hn]at hp;cases hp
  ·obtain⟨x,hx⟩:∃x,o=.room x:=Classical.byContradiction λc=>hn λx z=>c (x,z)
   subst hx;let(y,_,g):=e.r p x q;rw[g]at hp;cases hp
structure Rp(K:BT)(dl:Dl)(H:Hp)(v:V)(t:T)(F:List J):Prop where
 r:aJ K dl H v t F
 n:∀b∈F,Nd dl b
structure Rps(K:BT)(dl:Dl)(H:Hp)(vs:List V)(ts:List T)(F:List J):Prop where
 r:az K dl H vs ts F
 n:∀b∈F,Nd dl b
theorem Rp.evo{K:BT}{v:V}{t:T}{F:List J}(h:Rp K dl H v t F)(D:Dls dl H)(e:Evo dl H H'):Rp K dl H' v t F:=
 (h.r.dq (e.tf D) (λ_ q=>q) λb g o q=>e.k b o q (h.n b g) (.of (h.r.there b g) q),h.n)
theorem Rps.evo{K:BT}{v:List V}{t:List T}{F:List J}(h:Rps K dl H v t F)(D:Dls dl H)(e:Evo dl H H'):Rps K dl H' v t F:=
 (h.r.dq (e.tf D) (λ_ q=>q) λb g o q=>e.k b o q (h.n b g) (.of (h.r.there b g) q),h.n)
inductive Sl where
 |no|o (t:T)|r (t:T)
abbrev Sq:=List Sl
def Sl.get:Sl->Option T
 |.no=>Y
 |.o t=>Z t
 |.r t=>Z t
structure RdR(K:BT)(dl:Dl)(H:Hp)(σ:St)(q:Sq):Prop where
 d:Dls dl H
 g:∀(i:Nat)(x:Sl)(t:T),q[i]?=Z x->x.get=Z t->∃v F,σ[i]?=Z (Z v)/\Rp K dl H v t F
theorem RdR.evo{K:BT}{dl:Dl}{H H':Hp}{σ:St}{q:Sq}(h:RdR K dl H σ q)(e:Evo dl H H'):RdR K dl H' σ q:=
 (e.d,λi x t h1 h2=>let(v,F,h3,h4):=h.g i x t h1 h2;(v,F,h3,h4.evo h.d e))
abbrev QE:=Sq->(T->Prop)->Prop
abbrev QT:=Sq->(Bool->Prop)->Prop
abbrev QA:=Sq->(List T->Prop)->Prop
def gf(K:BT)(te:TE)(tq:QE):Prop:=∀(dl:Dl)(H:Hp)(σ:St)(q:Sq)(Q:T->Prop)(R:V->Hp->Prop),RdR K dl H σ q->tq q Q ->
 (∀v t F H',Evo dl H H'->Rp K dl H' v t F->Q t->R v H')->te σ H R
def iV(K:BT)(te:TE)(tq:QE):Prop:=∀(dl:Dl)(H:Hp)(σ:St)(q:Sq)(Q:T->Prop)(R:V->Hp->Prop),RdR K dl H σ q->tq q Q ->
 (∀v t F H',Evo dl H H'->Rp K dl H' v t F->(∀b∈F,H b=Y)->F.Nodup->Q t->R v H')->te σ H R
def k9(K:BT)(te:TT)(tq:QT):Prop:=∀(dl:Dl)(H:Hp)(σ:St)(q:Sq)(Q:Bool->Prop)(R:Bool->Hp->Prop),RdR K dl H σ q->tq q Q ->
 (∀b H',Evo dl H H'->Q b->R b H')->te σ H R
def Kq(K:BT)(n:Nat)(te:TA)(tq:QA):Prop:=∀(dl:Dl)(H:Hp)(σ:St)(q:Sq)(Q:List T->Prop)(R:List V->Hp->Prop),RdR K dl H σ q->tq q Q ->
 (∀vs ts F H',Evo dl H H'->Rps K dl H' vs ts F->vs.length=n->Q ts->R vs H')->te σ H R
def Vu(K:BT)(n:Nat)(te:TA)(tq:QA):Prop:=∀(dl:Dl)(H:Hp)(σ:St)(q:Sq)(Q:List T->Prop)(R:List V->Hp->Prop),RdR K dl H σ q->tq q Q ->
 (∀vs ts F H',Evo dl H H'->Rps K dl H' vs ts F->vs.length=n->(∀b∈F,H b=Y)->F.Nodup->Q ts->R vs H')->te σ H R
structure QPE(X:Cx)(K:BT)(e:Ev)(te:TE)(tq:QE):Prop where
 h:PE X e te
 s:gf K te tq
structure QPF(X:Cx)(K:BT)(e:Ev)(te:TE)(tq:QE):Prop where
 h:PE X e te
 s:iV K te tq
structure QPT(X:Cx)(K:BT)(e:Ev)(te:TT)(tq:QT):Prop where
 h:PT X e te
 s:k9 K te tq
structure QPW(X:Cx)(K:BT)(e:Ev)(te:TT)(tq:QT):Prop where
 h:PW X e te
 s:k9 K te tq
structure QPA(X:Cx)(K:BT)(es:List Ev)(te:TA)(tq:QA):Prop where
 h:PA X es te
 s:Kq K es.length te tq
structure xu(X:Cx)(K:BT)(es:List Ev)(te:TA)(tq:QA):Prop where
 h:PA X es te
 s:Vu K es.length te tq
variable{ws:List Str}
section
variable{X:Cx}{K:BT}{a b:Ev}{ta tb:TE}{qa qb qe:QE}{pos:Pos}
def Zi(h:QPF X K e te qe):QPE X K e te qe:=(h.h,λdl H σ q Q R rd hq k=>h.s dl H σ q Q R rd hq λv t F H' e r _ _ z=>k v t F H' e r z)
mutual
def T.im:T->Bool
 |.t xs=>T.ims xs
 |.l _=>ϊ
 |.d _=>ϊ
 |.dp _ _=>ϊ
 |.lp _ _=>ϊ
 |.om _ _ _ _=>ϊ
 |_=>O
def T.ims:List T->Bool
 |[]=>O
 |x::r=>x.im&&T.ims r
end
def Bn{F:List J}{x y:Bool}(h:x=O->F=[])(r:y=O->G=[])(q:(x&&y)=O):F++G=[]:=by rw[h (u6 _ _▸q).1,r (u6 _ _▸q).2];rfl
theorem aJ.im{dl:Dl}{H:Hp}{v:V}{t:T}{F:List J}(h:aJ K dl H v t F):t.im=O->F=[]:=
 aJ.rec (motive_3:=λ_ _ _ _=>True)
  (λ_=>rfl) (λ_ _=>rfl) (λ_ _=>rfl) (λ_ _=>rfl) (λ_ _=>rfl) (λ_ _ g=>g) (λ_ _ _ h=>absurd h sU) (λ_ _ _ h=>absurd h sU)
  (λ_ _=>rfl) (λ_ _=>rfl) (λ_ _=>rfl) (λ_ _ _ _=>rfl) (λ_ _=>rfl) (λ_ _ _ _=>rfl) (λ_ _ _=>rfl) (λ_ _ _ _=>rfl) (λ_ _ _ h=>absurd h sU) (λ_ _ _ h=>absurd h sU) (λ_ _ _ _=>rfl) (λ_ _=>rfl) (λ_ _ _ _ _ h=>absurd h sU) (λ_ _=>rfl) (λ_=>rfl) (λ_ _ i1 i2=>Bn i1 i2) trivial (λ_ _ _ _=>trivial) h
theorem az.im{dl:Dl}{H:Hp}{v:List V}{t:List T}{F:List J}(h:az K dl H v t F):T.ims t=O->F=[]:=h.ind (λ_=>rfl) (λ_ _ _ _ _ _ h _ g=>Bn h.im g)
inductive Ex2{α:Type}(p:α->Prop)(Q:α->Prop):Prop
 |mk(x:α)(h:p x)(k:Q x)
inductive Ex3{α β:Type}(p:α->Prop)(g:α->β)(Q:β->Prop):Prop
 |mk(x:α)(h:p x)(k:Q (g x))
inductive Ex4{α β:Type}(p r:α->Prop)(g:α->β)(Q:β->Prop):Prop
 |mk(x:α)(h:p x)(h2:r x)(k:Q (g x))
def on1(ts:List T)(P:T->Prop):Prop:=match ts with|[t]=>P t|_=>False
def on1.inv{ts:List T}{P:T->Prop}(h:on1 ts P):∃t,ts=[t]/\P t:=by
 cases ts with
 |nil=>exact h.elim
 |cons t r=>cases r with
  |nil=>exact(t,U,h)
  |cons=>exact h.elim
def on2(ts:List T)(P:T->T->Prop):Prop:=match ts with|[t,u]=>P t u|_=>False
def on2.inv{ts:List T}{P:T->T->Prop}(h:on2 ts P):∃t u,ts=[t,u]/\P t u:=by
 cases ts with
 |nil=>exact h.elim
 |cons t r=>cases r with
  |nil=>exact h.elim
  |cons u r=>cases r with
   |nil=>exact(t,u,U,h)
   |cons=>exact h.elim
def qIm(qe:QE):QE:=λq Q=>qe q λt=>t.im=O/\Q t
theorem Zj(h:QPE X K e te qe):QPF X K e te (qIm qe):=(h.h,λdl H σ q Q R rd hq k=>h.s dl H σ q _ R rd hq λv t F H' e r (P,g)=>by
 have f:=r.r.im P;subst f;exact k v t [] H' e r nofun p7 g)
def aT(i:Nat):QE:=λq Q=>match q[i]? with
 |some (.o t)=>Q t
 |some (.r t)=>Q t
 |_=>False
def Ly(i:Nat):gf K (bZ i) (aT i):=by
 intro dl H σ q Q R rd hq k;unfold aT at hq
 split at hq
 ·rename_i t e;let(v,F,h1,h2):=rd.g i _ t e U;exact(v,h1,k v t F H (.refl rd.d) h2 hq)
 ·rename_i t e;let(v,F,h1,h2):=rd.g i _ t e U;exact(v,h1,k v t F H (.refl rd.d) h2 hq)
 ·exact hq.elim
def qv(i:Nat){pos:Pos}(q:‹X.N[i]?=Z x›)(hv:Vis X.env.scope x:=by first|exact Or.inl rfl|exact Or.inr (Or.inl U)|exact Or.inr (Or.inr U))(hd:autoParam (AS x) zdc._auto_1)
  (g:autoParam ((x ==("__classdict__":Str))=false) zdc._auto_1):QPE X K (.Name x pos) (bZ i) (aT i):=(Ip q hv hd g,Ly i)
def qC(t:T):QE:=λ_ Q=>Q t
def uJ{v:V}{t:T}(h:∀dl H,aJ K dl H v t []):iV K (tC v) (qC t):=λdl H σ q Q R rd hq k=>k v t [] H (.refl rd.d) (h dl H,nofun) nofun p7 hq
def bw{i j pos}:QPF X K (.Constant (.int i) j pos) (tC (.int i)) (qC (.i i)):=(bF,uJ λ_ _=>.i i)
def yc{b j pos}:QPF X K (.Constant (.bool b) j pos) (tC (.bl b)) (qC (.b b)):=(Um,uJ λ_ _=>.b b)
def cD{j pos}:QPF X K (.Constant .none j pos) (tC .non) (qC .n):=(Q7,uJ λ_ _=>.n)
def aH{x j pos}:QPF X K (.Constant (.str x) j pos) (tC (.str x)) (qC (.s x)):=(du,uJ λ_ _=>.s x)
def Oq{n:String}{pos:Pos}(hg:Gl X x)(hm:X.mg x=Y)(hv:bootBuiltins x=Z (.type n))(hn:autoParam (x ≠ "__name__") zdc._auto_1)(hd:autoParam (AS x) zdc._auto_1):QPF X K (.Name x pos) (tC (.ty n)) (qC (.ty n)):=
 (CA hg hm hv U hn hd,uJ λ_ _=>.ty n)
theorem kJ{dl:Dl}{H:Hp}:∀(ws:List Str),az K dl H (ws.map V.str) (ws.map T.s) []
 |[]=>.nil
 |w::r=>.cons (.s w) (kJ r)
theorem kK{dl:Dl}{H:Hp}:∀(ws:List Int),az K dl H (ws.map V.int) (ws.map T.i) []
 |[]=>.nil
 |w::r=>.cons (.i w) (kK r)
def HC{y:J}{pos:Pos}(hg:Gl X x)(hm:X.mg x=Z (.ref y))(hk:∀H,SqT K H y (ws.map V.str))(hd:autoParam (AS x) zdc._auto_1):QPF X K (.Name x pos) (tC (.ref y)) (qC (.k ws)):=
 (rg hg hm hd,uJ λdl H=>.k hk)
abbrev Q2:=T->T->(T->Prop)->Prop
def Ko(K:BT)(r:R2)(rq:Q2):Prop:=∀(dl:Dl)(H:Hp)(x y:V)(t u:T)(F G:List J)(Q:T->Prop)(R:V->Hp->Prop),Dls dl H->Rp K dl H x t F->Rp K dl H y u G->rq t u Q ->
 (∀v z F' H',Evo dl H H'->Rp K dl H' v z F'->Q z->R v H')->r x y H R
def dQ(K:BT)(r:R2)(rq:Q2):Prop:=∀(dl:Dl)(H:Hp)(x y:V)(t u:T)(F G:List J)(Q:T->Prop)(R:V->Hp->Prop),Dls dl H->Rp K dl H x t F->Rp K dl H y u G->rq t u Q ->
 (∀v z F' H',Evo dl H H'->Rp K dl H' v z F'->(∀b∈F',H b=Y)->F'.Nodup->Q z->R v H')->r x y H R
variable{rq:Q2}
def dQ.w{r:R2}(h:dQ K r rq):Ko K r rq:=λdl H x y t u F G Q R d a b hq k=>h dl H x y t u F G Q R d a b hq λv z F' H' e r _ _ g=>k v z F' H' e r g
def qOp(rq:Q2)(qa qb:QE):QE:=λq Q=>qa q λt=>qb q λu=>rq t u Q
def vQ{r:R2}(ho:Ko K r rq)(ha:gf K ta qa)(hb:gf K tb qb):gf K (tOp r ta tb) (qOp rq qa qb):=by
 intro dl H σ q Q R rd hq k;exact ha dl H σ q _ _ rd hq λv t F H1 e1 r1 P=>(hb dl H1 σ q _ _ (rd.evo e1) P λw u G H2 V r2 g=>(ho dl H2 v w t u F G Q R V.d (r1.evo e1.d V) r2 g λv' z F' H3 e3 r3 hz=>k v' z F' H3 ((e1.trans V).trans e3) r3 hz))
def B9{r:R2}(ho:dQ K r rq)(ha:gf K ta qa)(hb:gf K tb qb):iV K (tOp r ta tb) (qOp rq qa qb):=by
 intro dl H σ q Q R rd hq k;exact ha dl H σ q _ _ rd hq λv t F H1 P r1 ak=>(hb dl H1 σ q _ _ (rd.evo P) ak λw u G H2 g r2 V=>(ho dl H2 v w t u F G Q R g.d (r1.evo P.d g) r2 V λv' z F' H3 e3 r3 f3 n3 hz=>k v' z F' H3 ((P.trans g).trans e3) r3 (λb hb=>(P.trans g).free (f3 b hb)) n3 hz))
def kM{op:Operator}{r:R2}(ho:OpR X (binaryOp op) r)(hs:dQ K r rq)(ha:QPE X K a ta qa)(g:QPE X K b tb qb):QPF X K (.BinOp a op b pos) (tOp r ta tb) (qOp rq qa qb):=(cP ho ha.h g.h,B9 hs ha.s g.s)
end
end L2
namespace L2
open PySem PySem.Spec PyProof.Rows
variable{x:Str}{C:J}{a:J}{ns:List Int}{ws:List Str}{G:List J}
section
variable{X:Cx}{K:BT}{dl:Dl}{H:Hp}{v:V}{F:List J}
def WE(K:BT)(dl:Dl)(H:Hp)(v:V)(F:List J):T->Prop
 |.n=>v=.non/\F=[]
 |.b x=>v=.bl x/\F=[]
 |.i x=>v=.int x/\F=[]
 |.s x=>v=.str x/\F=[]
 |.ty x=>v=.ty x
 |.t ts=>∃a vs,v=.ref a/\H a=Z (.tup vs)/\az K dl H vs ts F
 |.l ts=>∃a vs G,v=.ref a/\F=a::G/\H a=Z (.lst vs)/\az K dl H vs ts G
 |.d ts=>∃a vs G,v=.ref a/\F=a::G/\H a=Z (.dK vs)/\a6 K dl H vs ts G
 |.dv=>∃a l,v=.ref a/\(a,l)∈dl/\F=[]
 |.z ns=>∃a,v=.ref a/\FzL K H a (ns.map V.int)/\F=[]
 |.k ws=>∃a,v=.ref a/\(∀H',SqT K H' a (ws.map V.str))/\F=[]
 |.xc C ns ts=>∃a b vs,v=.ref a/\F=[]/\ExH H a C b (ns.zip vs)/\az K dl H vs ts []
 |.q=>True
 |.fd _ _ _=>True
 |.rm u=>∃a x,v=.ref a/\H a=Z (.room x)/\x<=u/\F=[]
 |.ob C ns ts=>∃a vs,v=.ref a/\F=[]/\ObH H a C (ns.zip vs)/\az K dl H vs ts []
 |.dp a ts=>∃vs G,v=.ref a/\F=a::G/\H a=Z (.dK vs)/\a6 K dl H vs ts G
 |.lp a ts=>∃vs G,v=.ref a/\F=a::G/\H a=Z (.lst vs)/\az K dl H vs ts G
 |.zl ts=>∃a o vs,v=.ref a/\F=[]/\H a=Z (.frz o (.lst vs))/\az K dl H vs ts []
 |.rf a=>v=.ref a/\F=[]
 |.om a C ns ts=>∃dx vs G,v=.ref a/\F=a::dx::G/\H a=Z (.ins C dx (ns.zip vs))/\H dx=Z (.own a)/\ns.length=ts.length/\az K dl H vs ts G
 |.fz u=>∃a o,v=.ref a/\F=[]/\H a=Z (.frz o u)
def aJ.inv{t:T}(h:aJ K dl H v t F):WE K dl H v F t:=
 aJ.rec (motive_2:=λ_ _ _ _=>True) (motive_3:=λ_ _ _ _=>True) (U,U) (λ_=>(U,U)) (λ_=>(U,U)) (λ_=>(U,U)) (λ_=>rfl)
  (λh r _=>(_,_,U,h,r)) (λh r _=>(_,_,_,U,U,h,r)) (λh r _=>(_,_,_,U,U,h,r)) (λh=>(_,_,U,h,U)) (λh=>(_,U,h,U)) (λ_=>trivial) (λ_ _ _=>trivial) (λh=>(_,U,h,U)) (λh r _=>(_,_,_,U,U,h,r)) (λh hx=>(_,_,U,h,hx,U)) (λh r _=>(_,_,U,U,h,r)) (λh r _=>(_,_,U,U,h,r)) (λh r _=>(_,_,U,U,h,r)) (λh r _=>(_,_,_,U,U,h,r)) (λ_=>(U,U)) (λh1 h2 h3 r _=>(_,_,_,U,U,h1,h2,h3,r)) (λh=>(_,_,U,U,h))
  trivial (λ_ _ _ _=>trivial) trivial (λ_ _ _ _=>trivial) h
theorem aJ.int{x:Int}(h:aJ K dl H v (.i x) F):v=.int x/\F=[]:=h.inv
theorem aJ.str(h:aJ K dl H v (.s x) F):v=.str x/\F=[]:=h.inv
theorem aJ.bl{x:Bool}(h:aJ K dl H v (.b x) F):v=.bl x/\F=[]:=h.inv
theorem aJ.non(h:aJ K dl H v .n F):v=.non/\F=[]:=h.inv
def aJ.tyy{x:String}(h:aJ K dl H v (.ty x) F):v=.ty x:=h.inv
theorem aJ.tup{ts:List T}(h:aJ K dl H v (.t ts) F):∃a vs,v=.ref a/\H a=Z (.tup vs)/\az K dl H vs ts F:=h.inv
theorem aJ.lst{ts:List T}(h:aJ K dl H v (.l ts) F):∃a vs G,v=.ref a/\F=a::G/\H a=Z (.lst vs)/\az K dl H vs ts G:=h.inv
def aJ.dic{ts:List (Key×T)}(h:aJ K dl H v (.d ts) F):∃a vs G,v=.ref a/\F=a::G/\H a=Z (.dK vs)/\a6 K dl H vs ts G:=h.inv
def aJ.roo{u:Int}(h:aJ K dl H v (.rm u) F):∃a x,v=.ref a/\H a=Z (.room x)/\x<=u/\F=[]:=h.inv
def aJ.obj{ns:List Str}{ts:List T}(h:aJ K dl H v (.ob C ns ts) F):∃a vs,v=.ref a/\F=[]/\ObH H a C (ns.zip vs)/\az K dl H vs ts []:=h.inv
def aJ.dpp{ts:List (Key×T)}(h:aJ K dl H v (.dp a ts) F):∃vs G,v=.ref a/\F=a::G/\H a=Z (.dK vs)/\a6 K dl H vs ts G:=h.inv
def aJ.lpp{ts:List T}(h:aJ K dl H v (.lp a ts) F):∃vs G,v=.ref a/\F=a::G/\H a=Z (.lst vs)/\az K dl H vs ts G:=h.inv
def aJ.zls{ts:List T}(h:aJ K dl H v (.zl ts) F):∃a o vs,v=.ref a/\F=[]/\H a=Z (.frz o (.lst vs))/\az K dl H vs ts []:=h.inv
def aJ.omm{ns:List Str}{ts:List T}(h:aJ K dl H v (.om a C ns ts) F):∃dx vs G,v=.ref a/\F=a::dx::G/\H a=Z (.ins C dx (ns.zip vs))/\H dx=Z (.own a)/\ns.length=ts.length/\az K dl H vs ts G:=h.inv
def aJ.dea(h:aJ K dl H v .dv F):∃a l,v=.ref a/\(a,l)∈dl/\F=[]:=h.inv
def aJ.scr(h:aJ K dl H v (.z ns) F):∃a,v=.ref a/\FzL K H a (ns.map V.int)/\F=[]:=h.inv
def aJ.kst(h:aJ K dl H v (.k ws) F):∃a,v=.ref a/\(∀H',SqT K H' a (ws.map V.str))/\F=[]:=h.inv
def az.len{vs:List V}{ts:List T}{F:List J}(h:az K dl H vs ts F):vs.length=ts.length:=h.ind U λ_ _ _ _ _ _ _ _ g=>congrArg (· + 1) g
def a6.len{vs:List (Key×V)}{ts:List (Key×T)}{F:List J}(h:a6 K dl H vs ts F):vs.length=ts.length:=h.ind U λ_ _ _ _ _ _ _ _ _ g=>congrArg (· + 1) g
def az.U7{vs:List V}{ts:List T}{F:List J}{i:Nat}{t:T}(h:az K dl H vs ts F)(e:ts[i]?=Z t):∃v G,vs[i]?=Z v/\aJ K dl H v t G/\G.Sublist F:=
 h.ind (λ_ _ e=>nomatch e) (λv x vs ts F G h _ g i t e=>by
  cases i with
  |zero=>cases e;exact(v,F,U,h,List.sublist_append_left _ _)
  |succ i =>
   let(w,q,h1,h2,h3):=g i t e;exact(w,q,h1,h2,h3.trans (Yi _ _))) i t e
def az.get{vs:List V}{ts:List T}{F:List J}{i:Nat}{t:T}(h:az K dl H vs ts F)(e:ts[i]?=Z t):∃v G,vs[i]?=Z v/\aJ K dl H v t G/\∀b∈G,b∈F:=
 Exists.elim (h.U7 e) λv z=>Exists.elim z λG z=>(v,G,z.1,z.2.1,λ_ g=>z.2.2.subset g)
def az.append{vs ws:List V}{ts us:List T}{F:List J}(h:az K dl H vs ts F)(h2:az K dl H ws us G):az K dl H (vs++ws) (ts++us) (F++G):=
 h.ind h2 λ_ _ _ _ _ _ h _ g=>by rw[xx];exact .cons h g
def az.iJ{vs:List V}{ts:List T}(h:az K dl H vs ts F):vs=[] ↔ ts=[]:=by
 cases h with
 |nil=>simp
 |cons _ _=>simp
theorem az.drop:∀{vs:List V}{ts:List T}{F:List J}(n:Nat),az K dl H vs ts F->∃G,az K dl H (vs.drop n) (ts.drop n) G/\G.Sublist F
 |_,_,F,0,h=>(F,h,List.Sublist.refl _)
 |_,_,_,_+1,.nil=>([],.nil,List.Sublist.refl _)
 |_,_,_,n+1,.cons h r=>by
  let(G,h1,h2):=az.drop n r;exact(G,h1,h2.trans (Yi _ _))
theorem az.take:∀{vs:List V}{ts:List T}{F:List J}(n:Nat),az K dl H vs ts F->∃G,az K dl H (vs.take n) (ts.take n) G/\G.Sublist F
 |_,_,F,0,h=>([],.nil,List.nil_sublist _)
 |_,_,_,_+1,.nil=>([],.nil,List.Sublist.refl _)
 |_,_,_,n+1,.cons h r=>by
  let(G,h1,h2):=az.take n r;exact(_,.cons h h1,h2.append_left _)
def Rp.sub{t:T}{F:List J}(r:aJ K dl H v t G)(n:∀b∈F,Nd dl b)(h:∀b∈G,b∈F):Rp K dl H v t G:=(r,λb g=>n b (h b g))
def Rp.c{t:T}(r:aJ K dl H v t []):Rp K dl H v t []:=(r,nofun)
theorem Rps.tup{vs:List V}{ts:List T}{p:J}(h:Rps K dl H vs ts F)(D:Dls dl H)(hp:H p=Y):Rp K dl (upd H p (.tup vs)) (.ref p) (.t ts) F:=
 have h2:=h.evo D ((Evo.refl D).new hp)
 (.t au h2.r,h2.n)
theorem Rps.lst{vs:List V}{ts:List T}{p:J}(h:Rps K dl H vs ts F)(D:Dls dl H)(hp:H p=Y):Rp K dl (upd H p (.lst vs)) (.ref p) (.l ts) (p::F):=
 have h2:=h.evo D ((Evo.refl D).new hp)
 (.l au h2.r,λb g=>by
  obtain e|g:=pj.mp g
  ·rw[e];exact D.nd0 hp
  ·exact h2.n b g)
theorem Rps.fresh{vs:List V}{ts:List T}{p:J}(h:Rps K dl H vs ts F)(hp:H p=Y)(hn:F.Nodup):(p::F).Nodup:=v3.mpr (λz=>(h.r.there p z).no hp,hn)
def qII(C:Int->Int->Prop)(g:Int->Int->T):Q2:=λt u Q=>match t with
 |.i a=>match u with|.i b=>C a b/\Q (g a b)|_=>False
 |_=>False
def GQ{C:Int->Int->Prop}{g:Int->Int->V}{g':Int->Int->T}(hg:∀a b dl H,aJ K dl H (g a b) (g' a b) []):dQ K (rI C g) (qII C g'):=by
 intro dl H x y t u F G Q R D P q hq k;unfold qII at hq
 split at hq
 ·split at hq
  ·let(U,U):=P.r.int;let(U,U):=q.r.int;exact(_,_,U,U,hq.1,k _ _ [] H (.refl D) (.c (hg _ _ _ _)) nofun p7 hq.2)
  ·exact hq.elim
 ·exact hq.elim
def qI0(g:Int->Int->T):Q2:=λt u Q=>match t with
 |.i a=>match u with|.i b=>Q (g a b)|_=>False
 |_=>False
def vT{g:Int->Int->V}{g':Int->Int->T}(hg:∀a b dl H,aJ K dl H (g a b) (g' a b) []):dQ K (rI0 g) (qI0 g'):=by
 intro dl H x y t u F G Q R D P q hq k;unfold qI0 at hq
 split at hq
 ·split at hq
  ·let(U,U):=P.r.int;let(U,U):=q.r.int;exact(_,_,U,U,k _ _ [] H (.refl D) (.c (hg _ _ _ _)) nofun p7 hq)
  ·exact hq.elim
 ·exact hq.elim
def MX:OpR X (binaryOp .Add) (λx y H Q=>∃a b xs ys,x=.ref a/\y=.ref b/\SqT X.K H a xs/\SqT X.K H b ys/\xs.length+ys.length<=pY /\
  (xs=[]->Q (.ref b) H)/\(xs ≠ []->ys=[]->Q (.ref a) H)/\(xs ≠ []->ys ≠ []->∀p,H p=Y->Q (.ref p) (upd H p (.tup (xs++ys))))):=by
 intro gd s σ H x y v u Q I rx V h;let(a,b,xs,ys,U,U,ha,hb,hz,q0,q1,q2):=h;by_cases hx:xs=[]
 ·cases rx;cases V;let(its,r1,p1,_):=I.tuple ha;let(iL,r2,p2,_):=I.tuple hb;have e:=r1.iJ.mpr hx;subst e;let((cls,dd,data,sl),ho,hc,n,hd):=id p1;let((Wr,P,data2,q),g,z,n2,hd2):=id p2;subst hc hd z hd2;exact concat_meets (_,ho,U) (_,g,U) noFill_tuple_add seq_tuple_add PySem.F.slot_tuple_add PySem.F.entry_tuple_add (PySem.F.args_tuple_add_2 _ _)
   (tuple_addW0 a b ([]).toArray iL.toArray n n2 dd P sl q ad) (ho,g,(.ref b,H,I,U,q0 hx))
 ·exact MY gd s σ H _ _ v u Q I rx V (a,b,xs,ys,U,U,ha,hb,hx,hz,q1 hx,q2 hx)
def Hm(K:BT):R2:=λx y H Q=>rI0 (λi j=>.int (i+j)) x y H Q\/(∃i j,x=.str i/\y=.str j/\i.length+j.length<=pY/\Q (.str (i++j)) H)\/TJ x y H Q \/
 (∃a b xs ys,x=.ref a/\y=.ref b/\SqT K H a xs/\SqT K H b ys/\xs.length+ys.length<=pY /\
  (xs=[]->Q (.ref b) H)/\(xs ≠ []->ys=[]->Q (.ref a) H)/\(xs ≠ []->ys ≠ []->∀p,H p=Y->Q (.ref p) (upd H p (.tup (xs++ys)))))
def MZ(g:X.K=K):OpR X (binaryOp .Add) (Hm K):=by subst g;exact nK.or (AV.or (Rc.or MX))
def kh:Q2:=λt u Q=>match t with
 |.i a=>match u with|.i b=>Q (.i (a+b))|_=>False
 |.s a=>match u with|.s b=>a.length+b.length<=pY/\Q (.s (a++b))|_=>False
 |.l a=>match u with|.l b=>a.length+b.length<=pY/\T.ims a=O/\T.ims b=O/\Q (.l (a++b))|_=>False
 |.t a=>match u with|.t b=>a.length+b.length<=pY/\T.ims a=O/\T.ims b=O/\Q (.t (a++b))|_=>False
 |_=>False
def LN:dQ K (Hm K) kh:=by
 intro dl H x y t u F G Q R D q g hq k;have no:∀b,b∈([])->H b=none:=nofun
 cases t with
 |i a =>
  dsimp only[kh]at hq
  split at hq
  ·let(U,U):=q.r.int;let(U,U):=g.r.int;exact .inl (_,_,U,U,k _ _ [] H (.refl D) (.c (.i _)) no p7 hq)
  ·exact hq.elim
 |s a =>
  dsimp only[kh]at hq
  split at hq
  ·let(U,U):=q.r.str;let(U,U):=g.r.str;exact .inr (.inl (_,_,U,U,hq.1,k _ _ [] H (.refl D) (.c (.s _)) no p7 hq.2))
  ·exact hq.elim
 |l a =>
  dsimp only[kh]at hq
  split at hq
  ·let(a,vs,F1,U,U,h1,s1):=q.r.lst;let(b,ws,G1,U,U,h2,s2):=g.r.lst;obtain rfl:=s1.im hq.2.1;obtain rfl:=s2.im hq.2.2.1;refine .inr (.inr (.inl (a,b,vs,ws,U,U,h1,h2,by rw[s1.len,s2.len];exact hq.1,λp hp=>?_)))
   have rs:Rps K dl H (vs++ws) _ ([]++[]):=(s1.append s2,λc V=>nomatch V)
   exact k _ _ _ _ ((Evo.refl D).new hp) (rs.lst D hp) (λb hb=>by rw[fy.mp hb];exact hp) ad hq.2.2.2
  ·exact hq.elim
 |t a =>
  dsimp only[kh]at hq
  split at hq
  ·let(a,vs,U,h1,s1):=q.r.tup;let(b,ws,U,h2,s2):=g.r.tup;obtain rfl:=s1.im hq.2.1;obtain rfl:=s2.im hq.2.2.1;refine .inr (.inr (.inr (a,b,vs,ws,U,U,SqT.of h1,SqT.of h2,by rw[s1.len,s2.len];exact hq.1,λe=>?_,λe1 e2=>?_,λ_ _ p hp=>?_)))
   ·refine k _ _ [] H (.refl D) g no p7 ?_;have z:=s1.iJ.mp e;subst z;exact hq.2.2.2
   ·refine k _ _ [] H (.refl D) q no p7 ?_;have z:=s2.iJ.mp e2;subst z;have P:=hq.2.2.2;rw[rD]at P;exact P
   ·have rs:Rps K dl H (vs++ws) _ ([]++[]):=(s1.append s2,λc V=>nomatch V)
    exact k _ _ _ _ ((Evo.refl D).new hp) (rs.tup D hp) no p7 hq.2.2.2
  ·exact hq.elim
 |_=>exact hq.elim
def Mi:Q2:=λt u Q=>match t with
 |.i a=>match u with|.i b=>KO a b/\Q (.i (a*b))|_=>False
 |.s a=>match u with|.i b=>0<=b/\b<=1000/\a.length<=1000/\Q (.s (jk a b.toNat))|_=>False
 |_=>False
def Hf:R2:=λx y H Q=>rI KO (λi j=>.int (i*j)) x y H Q\/(∃z n,x=.str z/\y=.int n/\0<=n/\n<=1000/\z.length<=1000/\Q (.str (jk z n.toNat)) H)
def MW:OpR X (binaryOp .Mult) Hf:=kP.or AR
def LH:dQ K Hf Mi:=by
 intro dl H x y t u F G Q R D q g hq k;cases t with
 |i a =>
  dsimp only[Mi]at hq
  split at hq
  ·let(U,U):=q.r.int;let(U,U):=g.r.int;exact .inl (_,_,U,U,hq.1,k _ _ [] H (.refl D) (.c (.i _)) nofun p7 hq.2)
  ·exact hq.elim
 |s a =>
  dsimp only[Mi]at hq
  split at hq
  ·let(U,U):=q.r.str;let(U,U):=g.r.int;exact .inr (_,_,U,U,hq.1,hq.2.1,hq.2.2.1,k _ _ [] H (.refl D) (.c (.s _)) nofun p7 hq.2.2.2)
  ·exact hq.elim
 |_=>exact hq.elim
end
section
variable{X:Cx}{K:BT}{a b:Ev}{ta tb:TE}{qa qb:QE}{pos:Pos}
def a8(ha:QPE X K a ta qa)(g:QPE X K b tb qb)(q:‹X.K=K›):QPF X K (.BinOp a .Add b pos) (tOp (Hm K) ta tb) (qOp kh qa qb):=kM (MZ q) LN ha g
def qV(ha:QPE X K a ta qa)(g:QPE X K b tb qb):QPF X K (.BinOp a .Sub b pos) (tOp (rI0 λi j=>.int (i-j)) ta tb) (qOp (qI0 λi j=>.i (i-j)) qa qb):=kM AQ (vT λ_ _ _ _=>.i _) ha g
def eJ(ha:QPE X K a ta qa)(g:QPE X K b tb qb):QPF X K (.BinOp a .Mult b pos) (tOp Hf ta tb) (qOp Mi qa qb):=kM MW LH ha g
def HA(ha:QPE X K a ta qa)(g:QPE X K b tb qb):QPF X K (.BinOp a .Mod b pos) (tOp (rI (λ_ j=>0<j) λi j=>.int (i % j)) ta tb) (qOp (qII (λ_ j=>0<j) λi j=>.i (i % j)) qa qb):=kM iI (GQ λ_ _ _ _=>.i _) ha g
def Cn(ha:QPE X K a ta qa)(g:QPE X K b tb qb):QPF X K (.BinOp a .FloorDiv b pos) (tOp (rI KP λi j=>.int (i / j)) ta tb) (qOp (qII KP λi j=>.i (i / j)) qa qb):=kM yq (GQ λ_ _ _ _=>.i _) ha g
def Hy(ha:QPE X K a ta qa)(g:QPE X K b tb qb):QPF X K (.BinOp a .Pow b pos) (tOp (rI Oa λi j=>.int (i ^ j.toNat)) ta tb) (qOp (qII Oa λi j=>.i (i ^ j.toNat)) qa qb):=kM IJ (GQ λ_ _ _ _=>.i _) ha g
end
variable{dl:Dl}{H:Hp}{op:CmpOp}{rq:Q2}{j:Nat}
section
variable{X:Cx}{K:BT}{a b c e:Ev}{es rest:List Ev}{ta tb te:TE}{qa qb qe:QE}{tA tB:TT}{qA qB:QT}{tl:TA}{ql:QA}{pos:Pos}
def T.v:T->V
 |.n=>.non|.b x=>.bl x|.i x=>.int x|.s x=>.str x|_=>.ty ""
def T.fl:T->Bool
 |.n=>O|.b _=>O|.i _=>O|.s _=>O|_=>ϊ
theorem aJ.v{dl:Dl}{H:Hp}{v:V}{t:T}{F:List J}(h:aJ K dl H v t F)(f:t.fl=O):v=t.v/\F=[]:=by
 cases h <;> first|exact(U,U)|exact absurd (f) sU
def qEq:Q2:=λt u Q=>(t.fl&&u.fl&&LP t.v u.v)=O/\Q (.b (decide (t.v=u.v)))
def qNe:Q2:=λt u Q=>(t.fl&&u.fl&&LP t.v u.v)=O/\Q (.b (!decide (t.v=u.v)))
def P1:dQ K rEq qEq:=by
 intro dl H x y t u F G Q R D q g hq k;let(h,hq):=hq;rw[u6,u6]at h;let(U,U):=q.r.v h.1.1;let(U,U):=g.r.v h.1.2;exact(h.2,k _ _ [] H (.refl D) (.c (.b _)) nofun p7 hq)
def GD:dQ K rNe qNe:=by
 intro dl H x y t u F G Q R D q g hq k;let(h,hq):=hq;rw[u6,u6]at h;let(U,U):=q.r.v h.1.1;let(U,U):=g.r.v h.1.2;exact(h.2,k _ _ [] H (.refl D) (.c (.b _)) nofun p7 hq)
def Eh(neg:Bool):Q2:=λt u Q=>match u with
 |.n=>Q (.b (match t with|.n=>!neg|_=>neg))
 |_=>False
def aJ.VS{v:V}{t:T}{F:List J}(h:aJ K dl H v t F):decide (v=.non)=match(generalizing:=false) t with|.n=>!false|_=>false:=by cases h <;> rfl
def aJ.VT{v:V}{t:T}{F:List J}(h:aJ K dl H v t F):(!decide (v=.non))=match(generalizing:=false) t with|.n=>!true|_=>true:=by cases h <;> rfl
def jW:dQ K (λx y H Q=>y=.non/\Q (.bl (decide (x=.non))) H) (Eh ϊ):=by
 intro dl H x y t u F G Q R D q g hq k;unfold Eh at hq
 split at hq
 ·let(U,U):=g.r.non;refine(U,k _ _ [] H (.refl D) (.c (.b _)) nofun p7 ?_)
  rw[q.r.VS];exact hq
 ·exact hq.elim
def qE:dQ K (λx y H Q=>y=.non/\Q (.bl (!decide (x=.non))) H) (Eh O):=by
 intro dl H x y t u F G Q R D q g hq k;unfold Eh at hq
 split at hq
 ·let(U,U):=g.r.non;refine(U,k _ _ [] H (.refl D) (.c (.b _)) nofun p7 ?_)
  rw[q.r.VT];exact hq
 ·exact hq.elim
def inT(x:T)(xs:List T):Bool:=xs.any λy=>eqV y.v x.v
def fls(xs:List T):Bool:=xs.all T.fl
theorem az.vs{dl:Dl}{H:Hp}{vs:List V}{ts:List T}{F:List J}(h:az K dl H vs ts F):fls ts=O->vs=ts.map T.v/\F=[]:=
 h.ind (λ_=>(U,U)) λ_ _ _ _ _ _ h _ g f=>by
  have f:(_&&_)=true:=f;rw[u6]at f;let(U,U):=h.v f.1;let(U,U):=g f.2;exact(U,U)
def rZ{ts:List T}(f:fls ts=O):(ts.map T.v).all gq=true:=by
 rw[WU];intro x hx;let(t,g,U):=n8.mp hx
 have:=WU.mp f t g
 cases t <;> first|rfl|exact absurd this sU
def NM{t:T}(f:t.fl=O):gq t.v=true:=by cases t <;> first|rfl|exact absurd f sU
def LZ(K:BT)(neg:Bool):R2:=λx y H Q=>rIn K neg x y H Q\/∃i j,x=.str i/\y=.str j/\Q (.bl (if neg then !(!(Builtin.Str.occurrences j i 0 j.length 1).isEmpty)else !(Builtin.Str.occurrences j i 0 j.length 1).isEmpty)) H
def wB(g:X.K=K):OpR X (compareOp .In) (LZ K ϊ):=by subst g;exact Ey.or Ex
def Ew(g:X.K=K):OpR X (compareOp .NotIn) (LZ K O):=by subst g;exact wA.or wy
def qIn(neg:Bool):Q2:=λt u Q=>match u with
 |.l xs=>(t.fl&&fls xs)=O/\Q (.b (if neg then !inT t xs else inT t xs))
 |.t xs=>(t.fl&&fls xs)=O/\Q (.b (if neg then !inT t xs else inT t xs))
 |.k ws=>match t with
  |.s y=>Q (.b (if neg then !inT (.s y) (ws.map T.s)else inT (.s y) (ws.map T.s)))
  |_=>False
 |.s z=>match t with
  |.s y=>Q (.b (if neg then !(!(Builtin.Str.occurrences z y 0 z.length 1).isEmpty)else !(Builtin.Str.occurrences z y 0 z.length 1).isEmpty))
  |_=>False
 |_=>False
def qF{neg:Bool}:dQ K (LZ K neg) (qIn neg):=by
 intro dl H x y t u F G Q R D q g hq k;have go:∀xs p vs,y=.ref p->(SqL K H p vs\/SqT K H p vs)->(∃G,az K dl H vs xs G)->(t.fl&&fls xs)=O/\Q (.b (if neg then !inT t xs else inT t xs))->LZ K neg x y H R:=by
  rintro xs p vs rfl hs ⟨G,rs⟩ ⟨f,hq⟩
  rw[u6]at f;let(U,U):=q.r.v f.1;let(U,_):=rs.vs f.2;refine .inl (p,_,U,hs,NM f.1,rZ f.2,k _ (.b _) [] H (.refl D) (.c (.b _)) nofun p7 ?_)
  have e:inV t.v (xs.map T.v)=inT t xs:=by unfold inV inT;rw[Xs];rfl
  rw[e];exact hq
 cases u with
 |l xs =>
  let(p,vs,G,U,_,h1,h2):=g.r.lst;exact go _ p vs U (.inl (SqL.of h1)) (_,h2) hq
 |t xs =>
  let(p,vs,U,h1,h2):=g.r.tup;exact go _ p vs U (.inr (SqT.of h1)) (_,h2) hq
 |k ws =>
  dsimp only[qIn]at hq
  split at hq
  ·let(p,U,h1,_):=g.r.kst;refine go _ p _ U (.inr (h1 H)) (_,kJ _) (?_,hq);rw[u6];refine(U,?_);unfold fls;rw[Y3,WU];exact λ_ _=>rfl
  ·exact hq.elim
 |s z =>
  dsimp only[qIn]at hq
  split at hq
  ·let(U,U):=q.r.str;let(U,U):=g.r.str;exact .inr (_,_,U,U,k _ _ [] H (.refl D) (.c (.b _)) nofun p7 hq)
  ·exact hq.elim
 |_=>exact hq.elim
def wg{r:R2}(ho:OpR X (compareOp op) r)(hs:dQ K r rq)(hm:behindInMarks op b=ϊ)(ha:QPE X K a ta qa)(g:QPE X K b tb qb):QPF X K (.Compare a [op] [b] pos) (tOp r ta tb) (qOp rq qa qb):=
 (MK ho ha.h g.h hm,B9 hs ha.s g.s)
def lO(qe:QE):QT:=λq Q=>qe q λt=>match t with
 |.b x=>Q x
 |_=>False
def GA(h:gf K te qe):k9 K (B2 te) (lO qe):=by
 intro dl H σ q Q R rd hq k;refine h dl H σ q _ _ rd hq λv t F H' e r g=>?_
 split at g
 ·let(U,U):=r.r.bl;exact(_,U,k _ H' e g)
 ·exact g.elim
def bV{r:R2}(ho:OpR X (compareOp op) r)(hs:dQ K r rq)(hm:behindInMarks op b=ϊ)(ha:QPE X K a ta qa)(g:QPE X K b tb qb):QPT X K (.Compare a [op] [b] pos) (B2 (tOp r ta tb)) (lO (qOp rq qa qb)):=
 (lP ho ha.h g.h hm,GA (vQ hs.w ha.s g.s))
def TN(qe:QE):QT:=λq Q=>qe q λt=>match t with
 |.b x=>Q x
 |.n=>Q ϊ
 |.i x=>Q (x != 0)
 |.s x=>x.length<=pY/\Q ((x.length:Int) != 0)
 |.l xs=>Q (!xs.isEmpty)
 |.t xs=>Q (!xs.isEmpty)
 |.d xs=>Q (!xs.isEmpty)
 |_=>False
def LB(h:gf K te qe):k9 K (λσ H Q=>te σ H λx H'=>∃k,N4 K x H' k/\Q k H') (TN qe):=by
 intro dl H σ q Q R rd hq k;refine h dl H σ q _ _ rd hq λv t F H' e r g=>?_
 have emp:∀{α β:Type}{xs:List α}{ys:List β},xs.length=ys.length->(!xs.isEmpty) = !ys.isEmpty:=λ{α β xs ys} h=>by
  cases xs <;> cases ys <;> first|rfl|(simp at h)
 cases t with
 |b x =>
  let(U,U):=r.r.bl;exact(_,U,k _ H' e g)
 |n =>
  let(U,U):=r.r.non;exact(_,U,k _ H' e g)
 |i x =>
  let(U,U):=r.r.int;exact(_,U,k _ H' e g)
 |s x =>
  let(U,U):=r.r.str;exact(_,(g.1,U),k _ H' e g.2)
 |l xs =>
  let(p,vs,G,U,_,h1,h2):=r.r.lst;exact(_,.inl (vs,SqL.of h1,U),k _ H' e (by rw[emp h2.len];exact g))
 |t xs =>
  let(p,vs,U,h1,h2):=r.r.tup;exact(_,.inr (.inl (vs,SqT.of h1,U)),k _ H' e (by rw[emp h2.len];exact g))
 |d xs =>
  let(p,vs,G,U,_,h1,h2):=r.r.dic;exact(_,.inr (.inr (vs,h1,U)),k _ H' e (by rw[emp h2.len];exact g))
 |_=>exact g.elim
def gR(h:QPE X K e te qe)(he:∀whole,isTrue e X.env whole=(do let v <- whole;standAt e.pos;holding [v] (truthy v)):=by intro _;rfl)(g:‹X.K=K›):
  QPT X K e (λσ H Q=>te σ H λx H'=>∃k,N4 K x H' k/\Q k H') (TN qe):=(by subst g;exact HY h.h he,LB h.s)
def TU(t:QT):QT:=λq Q=>t q λc=>Q (!c)
def T9(t u:QT):QT:=λq Q=>t q λc=>if c=O then u q Q else Q ϊ
def qOr(t u:QT):QT:=λq Q=>t q λc=>if c=O then Q O else u q Q
def LG(h:k9 K tA qA):k9 K (Py tA) (TU qA):=λdl H σ q _ R rd hq k=>h dl H σ q _ _ rd hq λb H' e g=>k _ H' e g
def LM(h:k9 K tA qA)(h2:k9 K tB qB):k9 K (PJ tA tB) (T9 qA qB):=λdl H σ q Q R rd hq k=>h dl H σ q _ _ rd hq λb H' e g=>by
 cases b with
 |false=>exact k _ H' e g
 |true=>exact h2 dl H' σ q Q R (rd.evo e) g λc H2 P z=>k c H2 (e.trans P) z
def PZ(h:k9 K tA qA)(h2:k9 K tB qB):k9 K (tOr tA tB) (qOr qA qB):=λdl H σ q Q R rd hq k=>h dl H σ q _ _ rd hq λb H' e g=>by
 cases b with
 |true=>exact k _ H' e g
 |false=>exact h2 dl H' σ q Q R (rd.evo e) g λc H2 P z=>k c H2 (e.trans P) z
def Ho(h:QPT X K a tA qA):QPT X K (.UnaryOp .Not a pos) (Py tA) (TU qA):=(Qy h.h,LG h.s)
def pI(h:QPT X K a tA qA):QPW X K (.BoolOp .And [a] pos) tA qA:=(Cp h.h,h.s)
def Aw(h:QPT X K a tA qA):QPW X K (.BoolOp .Or [a] pos) tA qA:=(Qu h.h,h.s)
def qP(h:QPT X K a tA qA)(h2:QPW X K (.BoolOp .And (b::rest) pos) tB qB):QPW X K (.BoolOp .And (a::b::rest) pos) (PJ tA tB) (T9 qA qB):=(HR h.h h2.h,LM h.s h2.s)
def x5(h:QPT X K a tA qA)(h2:QPW X K (.BoolOp .Or (b::rest) pos) tB qB):QPW X K (.BoolOp .Or (a::b::rest) pos) (tOr tA tB) (qOr qA qB):=(Ua h.h h2.h,PZ h.s h2.s)
theorem QPW.pt(h:QPW X K e tA qA):QPT X K e tA qA:=(h.h.pt,h.s)
def HQ(qa qb:QE):QE:=λq Q=>qa q λt=>match t with
 |.b c=>if c=O then qb q Q else Q (.b ϊ)
 |_=>False
def Ot(qa:QE):QE:=λq Q=>qa q λt=>match t with
 |.b c=>Q (.b (!c))
 |_=>False
def GP(h:gf K ta qa)(h2:iV K tb qb):iV K (Gq ta tb) (HQ qa qb):=λdl H σ q Q R rd hq k=>h dl H σ q _ _ rd hq λv t F H' e r g=>by
 split at g
 ·rename_i c;let(U,U):=r.r.bl;refine(c,U,?_);cases c with
  |false=>exact k _ _ [] H' e r nofun p7 g
  |true=>exact h2 dl H' σ q Q R (rd.evo e) g λw u G H2 e2 P f2 V z=>k w u G H2 (e.trans e2) P (λb hb=>e.free (f2 b hb)) V z
 ·exact g.elim
def GC(h:gf K ta qa):iV K (Gg ta) (Ot qa):=λdl H σ q Q R rd hq k=>h dl H σ q _ _ rd hq λv t F H' e r g=>by
 split at g
 ·rename_i c;let(U,U):=r.r.bl;exact(c,U,k _ _ [] H' e (.c (.b _)) nofun p7 g)
 ·exact g.elim
def Hz{op}(h:QPF X K a ta qa):QPF X K (.BoolOp op [a] pos) ta qa:=(Q5 h.h,h.s)
def Az(ha:QPE X K a ta qa)(g:QPF X K (.BoolOp .And (b::rest) pos) tb qb):QPF X K (.BoolOp .And (a::b::rest) pos) (Gq ta tb) (HQ qa qb):=(Q8 ha.h g.h,GP ha.s g.s)
def Qe(ha:QPE X K a ta qa):QPF X K (.UnaryOp .Not a pos) (Gg ta) (Ot qa):=(Q6 ha.h,GC ha.s)
def nE(ha:QPE X K a ta qa):QPF X K (.UnaryOp .USub a pos) (tUn (rU λi=>.int (-i)) ta) (λq Q=>qa q λt=>match t with|.i x=>Q (.i (-x))|_=>False):=(Ul Pn ha.h,λdl H σ q Q R rd hq k=>ha.s dl H σ q _ _ rd hq λv t F H' e r g=>by
 split at g
 ·let(U,U):=r.r.int;exact(_,U,k _ _ [] H' e (.c (.i _)) nofun p7 g)
 ·exact g.elim)
def cB:QA:=λ_ Q=>Q []
def aE(qa:QE)(ql:QA):QA:=λq Q=>qa q λt=>ql q λts=>Q (t::ts)
def ai:xu X K [] fg cB:=(cM,λdl H σ q Q R rd hq k=>k [] [] [] H (.refl rd.d) (.nil,nofun) U nofun p7 hq)
def xu.w(h:xu X K es tl ql):QPA X K es tl ql:=(h.h,λdl H σ q Q R rd hq k=>h.s dl H σ q Q R rd hq λvs ts F H' e r l _ _ z=>k vs ts F H' e r l z)
theorem Rps.cons{dl:Dl}{H:Hp}{v:V}{t:T}{vs:List V}{ts:List T}{F G:List J}(h:Rp K dl H v t F)(r:Rps K dl H vs ts G):Rps K dl H (v::vs) (t::ts) (F++G):=(.cons h.r r.r,λb g=>(n6.mp g).elim (h.n b) (r.n b))
def ae(ha:QPE X K e te qe)(hr:QPA X K es tl ql)(hs:‹AC X e es›):QPA X K (e::es) (bM te tl) (aE qe ql):=
 (bq ha.h hr.h hs,λdl H σ q Q R rd hq k=>ha.s dl H σ q _ _ rd hq λv t F H1 g r1 hz=>hr.s dl H1 σ q _ _ (rd.evo g) hz λvs ts G H2 P V l2 z=>k _ _ _ H2 (g.trans P) (.cons (r1.evo g.d P) V) (by simp[l2]) z)
def af(ha:QPF X K e te qe)(hr:xu X K es tl ql)(hs:‹AC X e es›):xu X K (e::es) (bM te tl) (aE qe ql):=
 (bq ha.h hr.h hs,λdl H σ q Q R rd hq k=>ha.s dl H σ q _ _ rd hq λv t F H1 g r1 f1 n1 hz=>hr.s dl H1 σ q _ _ (rd.evo g) hz λvs ts G H2 e2 r2 l2 f2 n2 z =>
  k _ _ _ H2 (g.trans e2) (.cons (r1.evo g.d e2) r2) (by simp[l2]) (λb P=>(n6.mp P).elim (f1 b) λP=>g.free (f2 b P)) (Fs.mpr (n1,n2,λx hx y hy V=>by
   subst V;exact(r1.r.there x hx).no (f2 x hy))) z)
def kN(ql:QA):QE:=λq Q=>ql q λts=>Q (.t ts)
def HM(ql:QA):QE:=λq Q=>ql q λts=>Q (.l ts)
def aq{P}(h:xu X K es tl ql)(hz:autoParam (es.length<=1000) zdc._auto_1):QPF X K (.Tuple es P pos) (Gf tl) (kN ql):=(AL h.h,λdl H σ q Q R rd hq k=>h.s dl H σ q _ _ rd hq λvs ts F H1 g V l1 f1 n1 z =>
 (vr (aF (by lia)),λp hp=>k _ _ F _ (g.new hp) (V.tup g.d hp) f1 n1 z))
def L7{P}(h:QPA X K es tl ql)(hz:autoParam (es.length<=1000) zdc._auto_1):QPE X K (.Tuple es P pos) (Gf tl) (kN ql):=(AL h.h,λdl H σ q Q R rd hq k=>h.s dl H σ q _ _ rd hq λvs ts F H1 g V l1 z =>
 (vr (aF ap),λp hp=>k _ _ F _ (g.new hp) (V.tup g.d hp) z))
def aP(h:xu X K es tl ql)(hz:autoParam (es.length<=1000) zdc._auto_1):QPF X K (.List es pos) (Pz tl) (HM ql):=(Iu h.h,λdl H σ q Q R rd hq k=>h.s dl H σ q _ _ rd hq λvs ts F H1 P V l1 f1 n1 z =>
 (vr (aF ap),λp hp=>k _ _ (p::F) _ (P.new hp) (V.lst P.d hp) (λb g=>by
  obtain e|g:=pj.mp g
  ·rw[e];exact P.free hp
  ·exact f1 b g) (V.fresh hp n1) z))
def lN(h:strsOf es=Z ws)(hl:‹es.length=ws.length›):xu X K es (λ_ H Q=>Q (ws.map V.str) H) (λ_ Q=>Q (ws.map T.s)):=
 (MN h,λdl H σ q Q R rd hq k=>k _ _ [] H (.refl rd.d) (kJ ws,nofun) (by rw[dN];exact hl.symm) nofun p7 hq)
def qIx:Q2:=λt u Q=>match u with
 |.i k=>match t with
  |.l xs=>Ex2 (λx=>atI xs k=Z x) Q
  |.t xs=>Ex2 (λx=>atI xs k=Z x) Q
  |.z ns=>Ex3 (λx=>atI ns k=Z x) (λx=>(.i x)) Q
  |.zl xs=>Ex2 (λx=>atI xs k=Z x) Q
  |.s z=>z.length<=pY/\Ex3 (λc=>atI z.cps.toList k=Z c) (λc=>(.s ⟨#[c]⟩)) Q
  |_=>False
 |_=>False
def mS{α β:Type}{xs:List α}{ys:List β}{k:Int}{x:α}(h:atI xs k=Z x)(hl:xs.length=ys.length):∃j:Nat,xs[j]?=Z x/\ixN ys.length k=Z j:=by
 unfold atI at h;cases e:ixN xs.length k with
 |none=>rw[e]at h;cases h
 |some j=>rw[e]at h;exact(j,h,by rw[<- hl];exact e)
def sL{α:Type}{xs:List α}{k:Int}{x:α}(h:ixN xs.length k=Z j)(hx:xs[j]?=Z x):atI xs k=Z x:=by unfold atI;rw[h];exact hx
def P0:Ko K (rIx K) qIx:=by
 intro dl H x y t u F G Q R D g r2 hq k;unfold qIx at hq
 split at hq
 ·rename_i k0;let(U,U):=r2.r.int;cases t with
  |l xs =>
   let(p,vs,G,U,U,h1,h2):=g.r.lst;let(z,q,hq):=hq;let(j,P,hi):=mS q h2.len.symm;let(v,G',hv,rv,hs):=h2.get P;exact .inl (p,vs,k0,v,U,U,SqL.of h1,sL hi hv,k v z G' H (.refl D) (Rp.sub rv g.n λb hb=>jQ _ (hs b hb)) hq)
  |t xs =>
   let(p,vs,U,h1,h2):=g.r.tup;let(z,q,hq):=hq;let(j,P,hi):=mS q h2.len.symm;let(v,G',hv,rv,hs):=h2.get P;exact .inr (.inl (p,vs,k0,v,U,U,SqT.of h1,sL hi hv,k v z G' H (.refl D) (Rp.sub rv g.n hs) hq))
  |z ns =>
   let(p,U,h1,_):=g.r.scr;let(z,q,hq):=hq;refine .inl (p,_,k0,.int z,U,U,h1.sq,?_,k _ _ [] H (.refl D) (.c (.i _)) hq);let(j,P,hi):=mS (ys:=(_:List Int).map V.int) q (by rw[dN])
   exact sL hi (by rw[gV,P];rfl)
  |zl xs =>
   let(p,o,vs,U,U,h1,h2):=g.r.zls;let(z,q,hq):=hq;let(j,P,hi):=mS q h2.len.symm;let(v,G',hv,rv,hs):=h2.get P;exact .inl (p,vs,k0,v,U,U,.inl (.inr (o,h1)),sL hi hv,k v z G' H (.refl D) (Rp.sub rv g.n hs) hq)
  |s z =>
   let(U,U):=g.r.str;let(hl,c,hc,hq):=hq;exact .inr (.inr (_,k0,c,U,U,hl,hc,k _ _ [] H (.refl D) (.c (.s _)) hq))
  |_=>exact hq.elim
 ·exact hq.elim
def av(ha:QPE X K a ta qa)(g:QPE X K b tb qb)(hs:ke b:=by intro _ _;rfl)(q:‹X.K=K›):QPE X K (.Subscript a b pos) (tOp (rIx K) ta tb) (qOp qIx qa qb):=(by subst q;exact uQ Bh ha.h g.h hs,vQ P0 ha.s g.s)
end
variable{prog:Da}{A:Db}{E:B->ϋ->Prop}{items:Array B}{Q:B->ϋ->Prop}{p2:Pos}{n:Nat}{r:List V->Hp->VK->Prop}{us:List B}
section
variable{X:Cx}{K:BT}{a b c e:Ev}{es:List Ev}{te:TE}{qe:QE}{tl:TA}{ql:QA}{pos p:Pos}
abbrev QO:=Sq->(Option Int->Prop)->Prop
def WB(K:BT)(t:TO)(tq:QO):Prop:=∀(dl:Dl)(H:Hp)(σ:St)(q:Sq)(Q:Option Int->Prop)(R:Option Int->Hp->Prop),RdR K dl H σ q->tq q Q->(∀o H',Evo dl H H'->Q o->R o H')->t σ H R
structure QPO(X:Cx)(K:BT)(e:Option Ev)(t:TO)(tq:QO):Prop where
 h:PO X e t
 s:WB K t tq
def iG:QPO X K Y B3 (λ_ Q=>Q Y):=(MA,λ_ _ _ _ _ _ rd hq k=>k Y _ (.refl rd.d) hq)
def iF(h:QPE X K e te qe):QPO X K (Z e) (Oc te) (λq Q=>qe q λt=>match t with|.i x=>Q (Z x)|_=>False):=(wq h.h,λdl H σ q Q R rd hq k=>h.s dl H σ q _ _ rd hq λv t F H' e r g=>by
 split at g
 ·let(U,U):=r.r.int;exact(_,U,k _ H' e g)
 ·exact g.elim)
def d9{α:Type}(xs:List α)(lo hi:Option Int):List α:=(xs.drop (HT.sIx xs.length 0 lo)).take (HT.sIx xs.length xs.length hi-HT.sIx xs.length 0 lo)
def az.cut{vs:List V}{ts:List T}{F:List J}(lo hi:Option Int)(h:az K dl H vs ts F):∃G,az K dl H (mM vs lo hi) (d9 ts lo hi) G/\G.Sublist F:=by
 unfold mM d9;rw[h.len];let(G,h1,s1):=h.drop (HT.sIx ts.length 0 lo);let(g,h2,s2):=h1.take (HT.sIx ts.length ts.length hi-HT.sIx ts.length 0 lo);exact(g,h2,s2.trans s1)
def kj{w:Cl}{s:ϋ}{t sl:J}{V P:B}{lo hi:Option Int}(g:IsTup s.heap t items)(hs:s.heap.IsSliceOf sl V P .none)(pl:IsPart V lo)(pu:IsPart P hi)
  (hw:HT.sIx items.size 0 lo=0/\HT.sIx items.size items.size hi=items.size)
  (h:Q (.ref t) s):wpAny (model prog w) A (getItem (.ref t) (.ref sl)) Q E s:=by
 let(os,q,z,ak):=id hs;have K:s.TypeIs (.ref sl) "slice":=(os,q,z);have hT:=g.typeIs;unfold getItem
 try with_reducible refine FH ?_
 refine fu (wpAny_sequenceKey g.typeIs ac ?_)
 refine fu (wpAny_callSpecial?_slot g.typeIs PyProof.Rows.slot_tuple_getitem
  (S9 PyProof.Rows.slot_tuple_getitem g.typeIs entry_tuple_getitem ?_ (args_tuple_getitem _ _)))
 show wpAny _ _ (Builtin.Tuple.tupleItemsOf (.ref t) >>= _) _ _ s;refine fu (tupleItemsOf_ g (fu (WV K ?_)));refine fu (HT.gP hs pl pu ?_);have hy:(((HT.sIx items.size 0 lo):Int)==0&&(1:Int)==1&&(HT.sIx items.size items.size hi-HT.sIx items.size 0 lo)==items.size)=true:=by
  rw[hw.1,hw.2];simp
 show wpAny _ _ (if(((HT.sIx items.size 0 lo):Int)==0&&(1)==1&&(HT.sIx items.size items.size hi-HT.sIx items.size 0 lo)==items.size)=O then _ else _) _ _ s
 rw[if_pos hy];exact fu (fu (WV hT (mX (by rw[if_pos ac];exact fu (Xc (mX (_,U,mX h)))))))
inductive Tq(K:BT)(x:V)(lo:Option Int)(hi:Option Int)(H:Hp)(Q:VK):Prop
 |mk(a xs:_)(h1:x=.ref a)(h2:SqT K H a xs)(h3:((HT.sIx xs.length 0 lo=0/\HT.sIx xs.length xs.length hi=xs.length)->Q (.ref a) H))(h4:(¬(HT.sIx xs.length 0 lo=0/\HT.sIx xs.length xs.length hi=xs.length)->∀p,H p=Y->Q (.ref p) (upd H p (.tup (mM xs lo hi)))))
def Lx:SlR X (Tq X.K):=by
 intro gd s σ H x v V P lo hi sl Q I g hs q pu h;let(a,xs,U,hx,q1,q2):=h;by_cases hw:HT.sIx xs.length 0 lo=0/\HT.sIx xs.length xs.length hi=xs.length
 ·cases g;let(its,r,z,hz):=I.tuple hx;have hlen:its.toArray.size=xs.length:=by exact r.length.symm
  exact("tuple",_,PyProof.Rows.slot_tuple_getitem.lookup,z.typeIs,kj z hs q pu (by rw[hlen];exact hw) (.ref a,H,I,U,q1 hw))
 ·exact PX gd s σ H _ v V P lo hi sl Q I g hs q pu (a,xs,U,hx,hw,q2 hw)
def Fe{α:Type}{xs:List α}{lo hi:Option Int}(h:HT.sIx xs.length 0 lo=0/\HT.sIx xs.length xs.length hi=xs.length):d9 xs lo hi=xs:=by
 unfold d9;rw[h.1,h.2];simp
def Tt(K:BT):V->Option Int->Option Int->Hp->VK->Prop:=λx lo hi H Q=>Ts K x lo hi H Q\/Tq K x lo hi H Q\/Tr x lo hi H Q
def VB(g:X.K=K):SlR X (Tt K):=by subst g;exact B7.or (Lx.or PY)
def qSl(qe:QE)(l u:QO):QE:=λq Q=>qe q λt=>l q λlo=>u q λhi=>match t with
 |.l xs=>T.ims xs=O/\Q (.l (d9 xs lo hi))
 |.t xs=>T.ims xs=O/\Q (.t (d9 xs lo hi))
 |.z ns=>Q (.l ((d9 ns lo hi).map T.i))
 |.zl xs=>Q (.l (d9 xs lo hi))
 |.s z=>z.length<=pY/\Q (.s (Txt.slice z lo hi))
 |_=>False
def fS{l u:Option Ev}{ak ar:TO}{ay aM:QO}(he:QPE X K e te qe)(hl:QPO X K l ak ay)(hu:QPO X K u ar aM)(hK:‹X.K=K›):QPF X K (.Subscript e (.Slice l u Y p2) pos) (tSl (Tt K) te ak ar) (qSl qe ay aM):=
 (yj (VB hK) he.h hl.h hu.h,λdl H σ q Q R rd hq k=>he.s dl H σ q _ _ rd hq λv t F H1 e1 r1 g=>hl.s dl H1 σ q _ _ (rd.evo e1) g λlo H2 e2 g=>hu.s dl H2 σ q _ _ ((rd.evo e1).evo e2) g λhi H3 e3 g=>by
  have r3:=(r1.evo e1.d e2).evo e2.d e3;have P:=(e1.trans e2).trans e3;have no:∀b,b∈([])->H b=none:=nofun
  cases t with
  |l xs =>
   let(p,vs,G,U,U,h1,h2):=r3.r.lst;obtain rfl:=h2.im g.1;let(G,h3,s3):=h2.cut lo hi;obtain rfl:=Yw.mp s3;refine .inl (p,vs,U,SqL.of h1,λp hp=>?_)
   have rs:Rps K dl H3 (mM vs lo hi) _ []:=(h3,λc hc=>nomatch hc)
   exact k _ _ _ _ (P.new hp) (rs.lst e3.d hp) (λb hb=>by rw[fy.mp hb];exact P.free hp) ad g.2
  |t xs =>
   let(p,vs,U,h1,h2):=r3.r.tup;obtain rfl:=h2.im g.1;let(G,h3,s3):=h2.cut lo hi;obtain rfl:=Yw.mp s3;refine .inr (.inl (p,vs,U,SqT.of h1,λhw=>?_,λ_ p hp=>?_))
   ·refine k _ _ _ _ P r3 no p7 ?_;rw[h2.len]at hw;have aN:=g.2;rw[Fe hw]at aN;exact aN
   ·have rs:Rps K dl H3 (mM vs lo hi) _ []:=(h3,λc hc=>nomatch hc)
    exact k _ _ _ _ (P.new hp) (rs.tup e3.d hp) no p7 g.2
  |z ns =>
   let(p,U,h1,_):=r3.r.scr;refine .inl (p,_,U,h1.sq,λp hp=>?_)
   have e:mM (ns.map V.int) lo hi=(d9 ns lo hi).map V.int:=by unfold mM d9;rw[dN,<- Yp,<- X6]
   rw[e];have rs:Rps K dl H3 ((d9 ns lo hi).map V.int) ((d9 ns lo hi).map T.i) []:=(kK _,λc hc=>nomatch hc)
   exact k _ _ _ _ (P.new hp) (rs.lst e3.d hp) (λb hb=>by rw[fy.mp hb];exact P.free hp) ad g
  |zl xs =>
   let(p,o,vs,U,U,h1,h2):=r3.r.zls;let(G,h3,s3):=h2.cut lo hi;obtain rfl:=Yw.mp s3;refine .inl (p,vs,U,.inl (.inr (o,h1)),λp hp=>?_)
   have rs:Rps K dl H3 (mM vs lo hi) _ []:=(h3,λc hc=>nomatch hc)
   exact k _ _ _ _ (P.new hp) (rs.lst e3.d hp) (λb hb=>by rw[fy.mp hb];exact P.free hp) ad g
  |s z =>
   let(U,U):=r3.r.str;exact .inr (.inr (_,U,g.1,k _ _ [] H3 P (.c (.s _)) no p7 g.2))
  |_=>exact g.elim)
abbrev QC:=List T->(T->Prop)->Prop
def mU(K:BT)(r:List V->Hp->VK->Prop)(rq:QC):Prop:=∀(dl:Dl)(H:Hp)(vs:List V)(ts:List T)(F:List J)(Q:T->Prop)(R:V->Hp->Prop),Dls dl H->Rps K dl H vs ts F->rq ts Q ->
 (∀v z F' H',Evo dl H H'->Rp K dl H' v z F'->(∀b∈F',H b=Y)->F'.Nodup->Q z->R v H')->r vs H R
def qCB(rq:QC)(ql:QA):QE:=λq Q=>ql q λts=>rq ts Q
def GN{rq:QC}(h:mU K r rq)(hl:Kq K n tl ql):iV K (tCB r tl) (qCB rq ql):=λdl H σ q Q R rd hq k=>hl dl H σ q _ _ rd hq λvs ts F H1 P r1 _ g =>
 h dl H1 vs ts F Q R P.d r1 g λv z F' H2 e2 V f2 n2 g=>k v z F' H2 (P.trans e2) V (λb hb=>P.free (f2 b hb)) n2 g
def cF{id:String}{rq:QC}(z:b8 X (.builtin id) r)(hs:mU K r rq)(hg:Gl X x)(hm:X.mg x=Y)(hv:bootBuiltins x=Z (.builtin id))(ha:QPA X K (e::es) tl ql)(hn:autoParam (x ≠ "__name__") zdc._auto_1)(q:autoParam (AS x) zdc._auto_1)
  (he:‹AC X e es›) (g:‹AM X pos es›):QPF X K (.Call (.Name x p) (e::es) [] pos) (tCB r tl) (qCB rq ql):=(gW z hg hm hv ha.h hn q he g,GN hs ha.s)
def aV{id:String}{rq:QC}(z:b8 X (.type id) r)(hs:mU K r rq)(hg:Gl X x)(hm:X.mg x=Y)(hv:bootBuiltins x=Z (.type id))(ha:QPA X K (e::es) tl ql)(hn:autoParam (x ≠ "__name__") zdc._auto_1)(q:autoParam (AS x) zdc._auto_1)
  (he:‹AC X e es›) (g:‹AM X pos es›):QPF X K (.Call (.Name x p) (e::es) [] pos) (tCB r tl) (qCB rq ql):=(uR z hg hm hv ha.h hn q he g,GN hs ha.s)
def Rps.one{vs:List V}{t:T}{F:List J}(h:Rps K dl H vs [t] F):∃v,vs=[v]/\Rp K dl H v t F:=by
 let(r,n):=h;cases r with
 |cons q g =>
  cases g;rw[rD]at n;rw[rD];exact(_,U,q,n)
def Rps.two{vs:List V}{t u:T}{F:List J}(h:Rps K dl H vs [t,u] F):∃v w Q P,vs=[v,w]/\Rp K dl H v t Q/\Rp K dl H w u P:=by
 let(r,n):=h;cases r with
 |cons z q =>
  let(w,U,h2):=Rps.one (q,λb g=>n b (qg _ g))
  exact(_,w,_,_,U,(z,λb g=>n b (qp _ g)),h2)
def Hg(K:BT):List V->Hp->VK->Prop:=λxs H Q=>(∃p ys,xs=[.ref p]/\(SqL K H p ys\/SqT K H p ys)/\Q (.int ys.length) H)\/(∃z,xs=[.str z]/\z.length<=pY/\Q (.int z.length) H)\/∃a kvs,xs=[V.ref a]/\H a=Z (.dK kvs)/\Q (.int kvs.length) H
def Fx(g:X.K=K):b8 X (.builtin "len") (Hg K):=by subst g;exact mQ.or (xn.or Fv)
def AE:QC:=λts Q=>on1 ts λt=>match t with
 |.l xs=>Q (.i xs.length)
 |.t xs=>Q (.i xs.length)
 |.z xs=>Q (.i xs.length)
 |.zl xs=>Q (.i xs.length)
 |.d xs=>Q (.i xs.length)
 |.s x=>x.length<=pY/\Q (.i x.length)
 |_=>False
def LI:mU K (Hg K) AE:=by
 intro dl H vs ts F Q R D r hq k;have fin:∀n,Q (.i n)->R (.int n) H:=λn hq=>k _ _ [] H (.refl D) (.c (.i _)) nofun p7 hq
 replace hq:=on1.inv hq
 let(t,U,hq):=hq;let(v,U,g):=r.one;cases t with
 |l xs =>
  let(p,vs,G,U,_,h1,h2):=g.r.lst;exact .inl (p,vs,U,.inl (SqL.of h1),fin _ (by rw[h2.len];exact hq))
 |t xs =>
  let(p,vs,U,h1,h2):=g.r.tup;exact .inl (p,vs,U,.inr (SqT.of h1),fin _ (by rw[h2.len];exact hq))
 |z xs =>
  let(p,U,h1,_):=g.r.scr;exact .inl (p,_,U,.inl h1.sq,fin _ (by rw[dN];exact hq))
 |zl xs =>
  let(p,o,vs,U,_,h1,h2):=g.r.zls;exact .inl (p,vs,U,.inl (.inl (.inr (o,h1))),fin _ (by rw[h2.len];exact hq))
 |d xs =>
  let(p,vs,G,U,_,h1,h2):=g.r.dic;exact .inr (.inr (p,vs,U,h1,fin _ (by rw[h2.len];exact hq)))
 |s x =>
  let(U,_):=g.r.str;exact .inr (.inl (_,U,hq.1,fin _ hq.2))
 |_=>exact hq.elim
def qI2(g:Int->Int->Int):QC:=λts Q=>on2 ts λt u=>match t with
 |.i a=>match u with
  |.i b=>Q (.i (g a b))
  |_=>False
 |_=>False
def vR{g:Int->Int->Int}:mU K (λxs H Q=>∃i j,xs=[.int i,.int j]/\Q (.int (g i j)) H) (qI2 g):=by
 intro dl H vs ts F Q R D r hq k
 replace hq:=on2.inv hq
 let(t,u,U,hq):=hq
 split at hq
 ·split at hq
  ·let(v,w,F1,V,U,P,q):=r.two;let(U,_):=P.r.int;let(U,_):=q.r.int;exact(_,_,U,k _ _ [] H (.refl D) (.c (.i _)) nofun p7 hq)
  ·exact hq.elim
 ·exact hq.elim
def VM:QC:=λts Q=>on1 ts λt=>match t with
 |.i a=>Q (.i a)
 |.b k=>Q (.i (if k then 1 else 0))
 |_=>False
def Cc:mU K (λxs H Q=>(∃i,xs=[.int i]/\Q (.int i) H)\/∃k,xs=[.bl k]/\Q (.int (if k then 1 else 0)) H) VM:=by
 intro dl H vs ts F Q R D r hq k
 replace hq:=on1.inv hq
 let(t,U,hq):=hq;cases t with
 |i a =>
  let(v,U,g):=r.one;let(U,_):=g.r.int;exact .inl (_,U,k _ _ [] H (.refl D) (.c (.i _)) nofun p7 hq)
 |b c =>
  let(v,U,g):=r.one;let(U,_):=g.r.bl;exact .inr (_,U,k _ _ [] H (.refl D) (.c (.i _)) nofun p7 hq)
 |_=>exact hq.elim
def Qj:QC:=λts Q=>on1 ts λt=>match t with
 |.l xs=>T.ims xs=O/\Q (.t xs)
 |.t xs=>T.ims xs=O/\Q (.t xs)
 |_=>False
def cy(g:X.K=K):b8 X (.type "tuple") (λxs H Q=>∃p ys,xs=[.ref p]/\((SqL K H p ys/\∀l,H l=Y->Q (.ref l) (upd H l (.tup ys)))\/(SqT K H p ys/\Q (.ref p) H))):=by subst g;exact uu
def cq:mU K (λxs H Q=>∃p ys,xs=[.ref p]/\((SqL K H p ys/\∀l,H l=Y->Q (.ref l) (upd H l (.tup ys)))\/(SqT K H p ys/\Q (.ref p) H))) Qj:=by
 intro dl H vs ts F Q R D r hq k;have no:∀b,b∈([])->H b=none:=nofun
 replace hq:=on1.inv hq
 let(t,U,hq):=hq;cases t with
 |l xs =>
  let(v,U,g):=r.one;let(p,vs,G,U,U,h1,h2):=g.r.lst;obtain rfl:=h2.im hq.1;refine(p,vs,U,.inl (SqL.of h1,λl hl=>?_))
  have rs:Rps K dl H vs _ []:=(h2,λc q=>nomatch q)
  exact k _ _ _ _ ((Evo.refl D).new hl) (rs.tup D hl) no p7 hq.2
 |t xs =>
  let(v,U,g):=r.one;let(p,vs,U,h1,h2):=g.r.tup;obtain rfl:=h2.im hq.1;exact(p,vs,U,.inr (SqT.of h1,k _ _ [] H (.refl D) g no p7 hq.2))
 |_=>exact hq.elim
def Qk:QC:=λts Q=>on1 ts λt=>match t with
 |.l xs=>T.ims xs=O/\Q (.l xs)
 |.t xs=>T.ims xs=O/\Q (.l xs)
 |_=>False
def Ft(g:X.K=K):b8 X (.type "list") (λxs H Q=>∃p ys,xs=[.ref p]/\(SqL K H p ys\/SqT K H p ys)/\∀l,H l=Y->Q (.ref l) (upd H l (.lst ys))):=by subst g;exact xm
def D7:mU K (λxs H Q=>∃p ys,xs=[.ref p]/\(SqL K H p ys\/SqT K H p ys)/\∀l,H l=Y->Q (.ref l) (upd H l (.lst ys))) Qk:=by
 intro dl H vs ts F Q R D r hq k
 replace hq:=on1.inv hq
 let(t,U,hq):=hq;cases t with
 |l xs =>
  let(v,U,g):=r.one;let(p,vs,G,U,U,h1,h2):=g.r.lst;obtain rfl:=h2.im hq.1;refine(p,vs,U,.inl (SqL.of h1),λl hl=>?_)
  have rs:Rps K dl H vs _ []:=(h2,λc q=>nomatch q)
  exact k _ _ _ _ ((Evo.refl D).new hl) (rs.lst D hl) (λb z=>by rw[fy.mp z];exact hl) ad hq.2
 |t xs =>
  let(v,U,g):=r.one;let(p,vs,U,h1,h2):=g.r.tup;obtain rfl:=h2.im hq.1;refine(p,vs,U,.inr (SqT.of h1),λl hl=>?_)
  have rs:Rps K dl H vs _ []:=(h2,λc q=>nomatch q)
  exact k _ _ _ _ ((Evo.refl D).new hl) (rs.lst D hl) (λb z=>by rw[fy.mp z];exact hl) ad hq.2
 |_=>exact hq.elim
def picks{α:Type}(f:T->Option α):List T->Option (List α)
 |[]=>Z []
 |t::r=>(f t).bind λa=>(picks f r).map (a :: ·)
theorem az.picks{dl:Dl}{H:Hp}{α:Type}{f:T->Option α}{g:α->V}(hf:∀(v:V)(t:T)(F:List J)(a:α),aJ K dl H v t F->f t=Z a->v=g a){vs:List V}{ts:List T}{F:List J}(h:az K dl H vs ts F):∀{bs:List α},L2.picks f ts=Z bs->vs=bs.map g:=
 h.ind (M:=λvs ts F=>∀{bs:List α},L2.picks f ts=Z bs->vs=bs.map g) (λe=>by cases e;rfl) λv t vs ts F G h _ q bs e=>by
  let(a,Q,P):=Yu.mp e;let(as,z,U):=g5.mp P;rw[hf v t F a h Q,q z];rfl
def asI:T->Option Int
 |.i x=>Z x
 |_=>Y
def T.tyN:T->Option String
 |.n=>Z "NoneType" |.b _=>Z "bool" |.i _=>Z "int" |.s _=>Z "str" |.l _=>Z "list" |.q=>Z "list" |.t _=>Z "tuple" |.d _=>Z "dict" |_=>Y
def aJ.Vz{v:V}{t:T}{F:List J}{n:String}(h:aJ K dl H v t F)(e:t.tyN=Z n):km K H v (.type n):=by
 cases h <;> first|(cases e;constructor;assumption)|(cases e;constructor)|(cases e)
theorem vi(g:X.K=K):b8 X (.builtin "isinstance") (λxs H Q=>∃x T t b,xs=[x,.ty T]/\km K H x t/\W.kitOne K t (.type T)=Z b/\Q (.bl b) H):=by subst g;exact J9
def UH(a b:String):Bool:=a==b ||(a == "bool" && b == "int")
def T4:QC:=λts Q=>match ts with
 |[t,.ty n]=>match t.tyN with
  |some m=>(n == "tuple" || n == "list" || n == "str" || n == "int" || n == "bool" || n == "dict")=O/\Q (.b (UH m n))
  |none=>False
 |_=>False
theorem Nr{n m:String}(h:(n == "tuple" || n == "list" || n == "str" || n == "int" || n == "bool" || n == "dict")=O)(hm:m ∈ ["NoneType","bool","int","str","list","tuple","dict"]):W.kitOne K (.type m) (.type n)=Z (UH m n):=by
 simp only[Bool.or_eq_true,beq_iff_eq]at h;simp only[pj,xy,or_false]at hm;obtain((((rfl|rfl)|rfl)|rfl)|rfl)|rfl:=h <;> obtain rfl|rfl|rfl|rfl|rfl|rfl|rfl:=hm <;> rfl
def Lm{t:T}{m:String}(h:t.tyN=Z m):m ∈ ["NoneType","bool","int","str","list","tuple","dict"]:=by
 cases t <;> cases h <;> decide
theorem Ca:mU K (λxs H Q=>∃x T t b,xs=[x,.ty T]/\km K H x t/\W.kitOne K t (.type T)=Z b/\Q (.bl b) H) T4:=by
 intro dl H vs ts F Q R D r hq k;unfold T4 at hq
 split at hq
 ·let(v,w,V,P,U,q,g):=r.two;have e:=g.r.tyy;subst e
  split at hq
  ·rename_i m em;exact(v,_,_,_,U,q.r.Vz em,Nr hq.1 (Lm em),k _ _ [] H (.refl D) (.c (.b _)) nofun p7 hq.2)
  ·exact hq.elim
 ·exact hq.elim
def Ls(ns:List Int):preSum (λi=>ns.getD i 0) ns.length=ns.sum:=by
 have h:∀n,n<=ns.length->preSum (λi=>ns.getD i 0) n=(ns.take n).sum:=λn=>by
  induction n with
  |zero=>simp[preSum]
  |succ n q =>
   intro hn;have g:=by omega
   show preSum _ n+ns.getD n 0=_;rw[q (by lia),ro,BV,gs g]
   simp only[Option.toList_some,List.sum_append,XN,List.sum_nil,Option.getD_some,Int.add_zero]
 rw[h _ (ot _),sP]
def F4{i:Nat}{v:B}(r:Vals (ns.map V.int) us)(h:us[i]?=Z v):∃t,v=.int (ns.getD i 0) t:=by
 have hl:=r.length;rw[dN]at hl;have hi:i<ns.length:=by have:=(iY.mp h).1;lia
 let(u,h1,t,h2):=r.get (i:=i) (x:=.int ns[i]) (by simp[hi])
 rw[h]at h1;cases h1;exact(t,by rw[h2];simp[hi])
def nU(hK:X.K=K)(hc:X.calm=O):b8 X (.builtin "sum") (λxs H Q=>∃(l:J)(ns:List Int),xs=[.ref l]/\SqL K H l (ns.map V.int)/\Q (.int ns.sum) H):=by
 subst hK;intro gd s σ H xs us Q I r h;let(l,ns,U,hl,q):=h;let(u,U,ru):=vals1 r;cases ru;let(its,rv,z,hz):=I.list hl;have g:l<s.heap.objs.size:=by let(_,e,_):=z.isList;exact kn e
 have hlen:its.toArray.size=ns.length:=by
  have e:=rv.length;rw[dN]at e;simp[e]
 refine call_sum_walkG (wpAny_pyIter_list z.isList ((s.heap.objs.size,[s.heap.objs.size,l],[s.heap.objs.size],its.toArray.size,_,_,λi=>ns.getD i 0,U,Walks.list (show X.A.in1.handled=Y from I.ok.hd hc) s.heap.objs.size l (sT g) its.toArray,((_,px _ U,U,U),z.isList.push _),?_,?_,λh' tk t' hk=>?_)))
 ·intro b P;rw[BS];obtain e|P:=pj.mp P
  ·rw[e];exact W7 _
  ·rw[fy.mp P];exact Xk g
 ·intro i v hP;exact F4 rv (hP:)
 ·refine(.int ns.sum,H,I.kept λb o e=>hk b o (sT (kn e):) (f9 _ e),(t',?_),q)
  rw[hlen,Ls]
abbrev ins:List T->Option (List Int):=picks asI
theorem az.ins{dl:Dl}{H:Hp}{vs:List V}{ts:List T}{F:List J}{bs:List Int}(h:az K dl H vs ts F)(e:L2.ins ts=Z bs):vs=bs.map V.int:=
 h.picks (λv t F a h e=>by cases t <;> first|(cases e;exact h.int.1)|cases e) e
def ins_map(bs:List Int):ins (bs.map T.i)=Z bs:=by
 induction bs with
 |nil=>rfl
 |cons b r g=>show(ins (r.map T.i)).map (b :: ·)=_;rw[g];rfl
def VI:QC:=λts Q=>on1 ts λt=>match t with
 |.l xs=>Ex3 (λbs=>ins xs=Z bs) (λbs=>(.i bs.sum)) Q
 |_=>False
def vP:mU K (λxs H Q=>∃(l:J)(ns:List Int),xs=[.ref l]/\SqL K H l (ns.map V.int)/\Q (.int ns.sum) H) VI:=by
 intro dl H vs ts F Q R D r hq k
 replace hq:=on1.inv hq
 let(t,U,hq):=hq
 split at hq
 ·let(v,U,g):=r.one;let(p,vs,G,U,U,h1,h2):=g.r.lst;let(bs,q,hq):=hq;have e:=h2.ins q;subst e;exact(p,bs,U,SqL.of h1,k _ _ [] H (.refl D) (.c (.i _)) nofun p7 hq)
 ·exact hq.elim
end
structure dm where
 nx:Sq->Prop
 rt:T->Prop
 bk:Sq->Prop:=λ_=>False
 ct:Sq->Prop:=λ_=>False
 ru:Sq->T->Prop:=λ_ _=>False
abbrev QS:=dm->Sq->Prop
def dm.lp(D:dm)(N:Sq->Prop):dm:={D with nx:=N,ct:=N,bk:=D.nx}
def dm.fn(Q:T->Prop):dm:={nx:=λ_=>Q .n,rt:=Q}
structure Frm(dl:Dl)(bd H:Hp):Prop where
 k:∀b o,bd b=Z o->Nd dl b->NR o->H b=Z o
 r:∀a x,bd a=Z (.room x)->∃y,y<=x/\H a=Z (.room y)
variable{bd:Hp}
def Frm.evo(f:Frm dl bd H)(D:Dls dl H):Evo dl bd H:=(f.k,D,f.r)
def Frm.refl:Frm dl H H:=(λ_ _ h _ _=>h,λ_ x h=>(x,WZ _,h))
variable{H':Hp}
def Frm.trans(f:Frm dl bd H)(e:Evo dl H H'):Frm dl bd H':=(λb o h n r=>e.k b o (f.k b o h n r) n r,λa x h=>let(y,q,h1):=f.r a x h;let(z,g,h2):=e.r a y h1;(z,XH g q,h2))
structure Rel(K:BT)(dl:Dl)(bd:Hp)(hs:List (V×T))(H:Hp)(σ:St)(q:Sq)(F:Nat->List J):Prop where
 d:Dls dl H
 g:∀(i:Nat)(x:Sl)(t:T),q[i]?=Z x->x.get=Z t->∃v,σ[i]?=Z (Z v)/\Rp K dl H v t (F i)
 n:∀(i:Nat)(x:Sl),q[i]?=Z x->x.get=Y->F i=[]
 z:∀(i:Nat),q.length<=i->F i=[]
 o:∀(i:Nat)(t:T),q[i]?=Z (.o t)->(F i).Nodup/\(∀b∈F i,bd b=Y)/\(∀j,j≠i->∀b∈F i,b ∉ F j)
 h:∀p∈hs,∃Fp,Rp K dl H p.1 p.2 Fp/\∀(i:Nat)(t:T),q[i]?=Z (.o t)->∀b∈F i,b ∉ Fp
 f:Frm dl bd H
 l:q.length=σ.length
def eQ(K:BT)(dl:Dl)(bd:Hp)(hs:List (V×T))(H:Hp)(σ:St)(q:Sq):Prop:=∃F,Rel K dl bd hs H σ q F
variable{F':List J}
section
variable{K:BT}{hs:List (V×T)}{σ:St}{q:Sq}{F:Nat->List J}
def Rel.rd(r:Rel K dl bd hs H σ q F):RdR K dl H σ q:=(r.d,λi x t h1 h2=>let(v,e,p):=r.g i x t h1 h2;(v,F i,e,p))
def Rel.fz(r:Rel K dl bd hs H σ q F){b:J}(h:H b=Y):bd b=none:=(r.f.evo r.d).free h
def Rel.gC(r:Rel K dl bd hs H σ q F){i:Nat}{b:J}(P:b∈F i):gx H b:=by
 by_cases hi:i<q.length
 ·have e:q[i]?=Z q[i]:=by simp[hi]
  cases ex:q[i].get with
  |none=>rw[r.n i _ e ex]at P;cases P
  |some t =>
   let(v,_,p):=r.g i _ t e ex;exact p.r.there b P
 ·rw[r.z i (by lia)]at P;cases P
theorem Rel.evo(r:Rel K dl bd hs H σ q F)(e:Evo dl H H'):Rel K dl bd hs H' σ q F where
 d:=e.d
 g:=λi x t h1 h2=>let(v,P,p):=r.g i x t h1 h2;(v,P,p.evo r.d e)
 n:=r.n
 z:=r.z
 o:=r.o
 h:=λp hp=>let(Fp,h1,h2):=r.h p hp;(Fp,h1.evo r.d e,h2)
 f:=r.f.trans e
 l:=r.l
def oM(F:Nat->List J)(i:Nat)(x:List J):Nat->List Addr:=λj=>if j=i then x else F j
def aY{i:Nat}{x:List J}:oM F i x i=x:=if_pos U
def aK{i:Nat}{x:List J}(h:j≠i):oM F i x j=F j:=if_neg h
def get_set{α:Type}{xs:List α}{i:Nat}{x y:α}(h:(xs.set i x)[j]?=Z y):(j=i/\y=x/\i<xs.length)\/(j≠i/\xs[j]?=Z y):=by
 by_cases e:j=i
 ·subst e;rw[List.getElem?_set_self']at h;by_cases hl:j<xs.length
  ·rw[gs hl]at h;exact .inl (U,(Option.some.inj h).symm,hl)
  ·rw[UZ (by lia)]at h;cases h
 ·rw[N8 (λz=>e z.symm)]at h
  exact .inr (e,h)
def Rel.put{i:Nat}{v:V}{t:T}(r:Rel K dl bd hs H σ q F)(hi:i<q.length)(e:Evo dl H H')(hv:Rp K dl H' v t F')(hf:∀b∈F',H b=Y)(hn:F'.Nodup):Rel K dl bd hs H' (σ.set i (Z v)) (q.set i (.o t)) (oM F i F'):=by
 have r':=r.evo e;have out:∀j,∀b∈F',b ∉ F j:=λj b P Q=>(r.gC Q).no (hf b P)
 refine(e.d,λj x u h1 h2=>?_,λj x h1 h2=>?_,λj Q=>?_,λj u h1=>?_,λp hp=>?_,r'.f,by simp[r.l])
 ·obtain⟨rfl,rfl,_⟩|⟨ne,h1⟩:=get_set h1
  ·cases h2;exact(v,by rw[W0 (by rw[<- r.l];exact hi)],by rw[aY];exact hv)
  ·let(w,h3,h4):=r'.g j x u h1 h2;exact(w,by rw[N8 (λz=>ne z.symm)];exact h3,by rw[aK ne];exact h4)
 ·obtain⟨rfl,rfl,_⟩|⟨ne,h1⟩:=get_set h1
  ·cases h2
  ·rw[aK ne];exact r.n j x h1 h2
 ·rw[SO]at Q;rw[aK (by lia)]
  exact r.z j Q
 ·obtain⟨rfl,_,_⟩|⟨ne,h1⟩:=get_set h1
  ·rw[aY];exact(hn,λb P=>r.fz (hf b P),λk hk b P=>by rw[aK hk];exact out k b P)
  ·rw[aK ne];let(o1,o2,o3):=r.o j u h1;refine(o1,o2,λk hk b P=>?_)
   by_cases ek:k=i
   ·subst ek;rw[aY];exact λz=>out j b z P
   ·rw[aK ek];exact o3 k hk b P
 ·let(Fp,h1,h2):=r.h p hp;refine(Fp,h1.evo r.d e,λj u Q b P z=>?_)
  obtain⟨rfl,_,_⟩|⟨ne,Q⟩:=get_set Q
  ·rw[aY]at P;exact gx.no (h1.r.there b z) (hf b P)
  ·rw[aK ne]at P;exact h2 j u Q b P z
def Rel.Mp{i:Nat}{v:V}{t:T}(r:Rel K dl bd hs H σ q F)(hi:i<q.length)(hv:Rp K dl H v t F')(hf:∀(j:Nat)(u:T),q[j]?=Z (.o u)->j≠i->∀b∈F j,b ∉ F'):Rel K dl bd hs H (σ.set i (Z v)) (q.set i (.r t)) (oM F i F'):=by
 refine(r.d,λj x u h1 h2=>?_,λj x h1 h2=>?_,λj P=>?_,λj u h1=>?_,λp hp=>?_,r.f,by simp[r.l])
 ·obtain⟨rfl,rfl,_⟩|⟨ne,h1⟩:=get_set h1
  ·cases h2;exact(v,by rw[W0 (by rw[<- r.l];exact hi)],by rw[aY];exact hv)
  ·let(w,h3,h4):=r.g j x u h1 h2;exact(w,by rw[N8 (λz=>ne z.symm)];exact h3,by rw[aK ne];exact h4)
 ·obtain⟨rfl,rfl,_⟩|⟨ne,h1⟩:=get_set h1
  ·cases h2
  ·rw[aK ne];exact r.n j x h1 h2
 ·rw[SO]at P;rw[aK ap]
  exact r.z j P
 ·obtain⟨rfl,e,_⟩|⟨ne,h1⟩:=get_set h1
  ·cases e
  ·rw[aK ne];let(o1,o2,o3):=r.o j u h1;refine(o1,o2,λk hk b Q=>?_)
   have z:=hf j u h1 ne b Q;by_cases ek:k=i
   ·subst ek;rw[aY];exact z
   ·rw[aK ek];exact o3 k hk b Q
 ·let(Fp,h1,h2):=r.h p hp;refine(Fp,h1,λj u P b Q z=>?_)
  obtain⟨rfl,e,_⟩|⟨ne,P⟩:=get_set P
  ·cases e
  ·rw[aK ne]at Q;exact h2 j u P b Q z
def Rel.hold{v:V}{t:T}(r:Rel K dl bd hs H σ q F)(hv:Rp K dl H v t F')(hf:∀(j:Nat)(u:T),q[j]?=Z (.o u)->∀b∈F j,b ∉ F'):Rel K dl bd ((v,t)::hs) H σ q F:=
 (r.d,r.g,r.n,r.z,r.o,λp hp=>by
  obtain e|hp:=pj.mp hp
  ·subst e;exact(F',hv,hf)
  ·exact r.h p hp,r.f,r.l)
def Rel.down{i:Nat}{t:T}(r:Rel K dl bd hs H σ q F)(hi:q[i]?=Z (.o t)):Rel K dl bd hs H σ (q.set i (.r t)) F:=by
 refine(r.d,λj x u h1 h2=>?_,λj x h1 h2=>?_,λj P=>r.z j (by rw[SO]at P;exact P),λj u h1=>?_,λp hp=>?_,r.f,by simp[r.l])
 ·obtain⟨rfl,rfl,_⟩|⟨ne,h1⟩:=get_set h1
  ·cases h2;exact r.g j _ t hi U
  ·exact r.g j x u h1 h2
 ·obtain⟨rfl,rfl,_⟩|⟨ne,h1⟩:=get_set h1
  ·cases h2
  ·exact r.n j x h1 h2
 ·obtain⟨rfl,e,_⟩|⟨ne,h1⟩:=get_set h1
  ·cases e
  ·exact r.o j u h1
 ·let(Fp,h1,h2):=r.h p hp;refine(Fp,h1,λj u P=>?_)
  obtain⟨rfl,e,_⟩|⟨ne,P⟩:=get_set P
  ·cases e
  ·exact h2 j u P
def Rel.write{i:Nat}{v:V}{t t':T}{p:J}{o:HO}(r:Rel K dl bd hs H σ q F)(hi:q[i]?=Z (.o t))(hv:σ[i]?=Z (Z v))(hp:p∈F i)(ho:∀xs,H p=Z (.lst xs)->∃ys,o=.lst ys)(hr:Rp K dl (upd H p o) v t' F')(hn:F'.Nodup)
  (hf:∀b∈F',b∈F i\/(bd b=Y/\(∀j,b ∉ F j)/\∀w u Fp,Rp K dl H w u Fp->(w,u)∈hs->b ∉ Fp)):Rel K dl bd hs (upd H p o) σ (q.set i (.o t')) (oM F i F'):=by
 let(o1,o2,o3):=r.o i t hi;have ar:=(iY.mp hi).1;let(v',ak,rp):=r.g i _ t hi U;have pn:=rp.n p hp;have Q:=r.gC hp;have tf:TF H (upd H p o):=(λa vs h=>(by
  rw[ao];exact h;intro z;subst z;let(_,e,m):=Q;rw[h]at e;cases e;cases m),λa ob u h=>(by
  rw[ao];exact h;intro z;subst z;let(_,e,m):=Q;rw[h]at e;cases e;cases m),λa φ h=>(by
  rw[ao];exact h;intro z;subst z;let(_,e,m):=Q;rw[h]at e;cases e;cases m),λa xs h=>(by
  by_cases z:a=p
  ·subst z;let(ys,e):=ho xs h;exact(ys,by rw[au,e])
  ·exact(xs,by rw[ao z];exact h)),λa x h=>(x,WZ _,by
  rw[ao];exact h;intro z;subst z;let(_,e,m):=Q;rw[h]at e;cases e;cases m))
 have st:∀{w:V}{u:T}{Fw:List J},Rp K dl H w u Fw->p ∉ Fw->Rp K dl (upd H p o) w u Fw:=λ{w u Fw} h np =>
  (h.r.dq tf (λ_ z=>z) λb P ob e=>(by
   have ne:b≠p:=by
    intro z;subst z;exact np P
   rw[ao ne];exact e),h.n)
 refine(λd hd=>(r.d d hd).other (pn d hd).1 (pn d hd).2,λj x u h1 h2=>?_,λj x h1 h2=>?_,λj hj=>?_,λj u h1=>?_,λw hw=>?_,(λb ob P nb nr=>?_,λb x P=>?_),by simp[r.l])
 ·obtain⟨rfl,rfl,_⟩|⟨ne,h1⟩:=get_set h1
  ·cases h2;exact(v,hv,by rw[aY];exact hr)
  ·let(w,h3,h4):=r.g j x u h1 h2;exact(w,h3,by rw[aK ne];exact st h4 (o3 j ne p hp))
 ·obtain⟨rfl,rfl,_⟩|⟨ne,h1⟩:=get_set h1
  ·cases h2
  ·rw[aK ne];exact r.n j x h1 h2
 ·rw[SO]at hj;rw[aK ap]
  exact r.z j hj
 ·obtain⟨rfl,e,_⟩|⟨ne,h1⟩:=get_set h1
  ·rw[aY];refine(hn,λb P=>?_,λk hk b P=>?_)
   ·obtain z|z:=hf b P
    ·exact o2 b z
    ·exact z.1
   ·rw[aK hk];obtain z|z:=hf b P
    ·exact o3 k hk b z
    ·exact z.2.1 k
  ·rw[aK ne];let(p1,p2,p3):=r.o j u h1;refine(p1,p2,λk hk b P=>?_)
   by_cases ek:k=i
   ·subst ek;rw[aY];intro z;obtain z|z:=hf b z
    ·exact o3 j ne b z P
    ·exact z.2.1 j P
   ·rw[aK ek];exact p3 k hk b P
 ·let(Fp,h1,h2):=r.h w hw;refine(Fp,st h1 (h2 i t hi p hp),λj u hj b P z=>?_)
  obtain⟨rfl,e,_⟩|⟨ne,hj⟩:=get_set hj
  ·rw[aY]at P;obtain y|y:=hf b P
   ·exact h2 j t hi b y z
   ·exact y.2.2 w.1 w.2 Fp h1 hw z
  ·rw[aK ne]at P;exact h2 j u hj b P z
 ·rw[ao]
  ·exact r.f.k b ob P nb nr
  ·intro z;subst z;rw[o2 b hp]at P;cases P
 ·let(y,hy,e):=r.f.r b x P;refine(y,hy,?_);rw[ao]
  ·exact e
  ·intro z;subst z;rw[o2 b hp]at P;cases P
end
structure BW(K:BT)(dl:Dl)(bd:Hp)(hs:List (V×T))(Dq:dm)(D:Ends):Prop where
 nx:∀H σ q,eQ K dl bd hs H σ q->Dq.nx q->D.nx σ H
 bk:∀H σ q,eQ K dl bd hs H σ q->Dq.bk q->D.bk σ H
 ct:∀H σ q,eQ K dl bd hs H σ q->Dq.ct q->D.ct σ H
 rt:∀v t F H,Dls dl H->Rp K dl H v t F->(∀b∈F,bd b=Y)->F.Nodup->Frm dl bd H->Dq.rt t->D.rt v H
 ru:∀H σ q F0 v t F,Rel K dl bd hs H σ q F0->Rp K dl H v t F->(∀b∈F,bd b=Y)->F.Nodup->(∀j,∀b∈F,b ∉ F0 j)->Dq.ru q t->D.rt v H
def la(K:BT)(ts:TS)(qs:QS):Prop:=∀(dl:Dl)(bd:Hp)(hs:List (V×T))(H:Hp)(σ:St)(q:Sq)(Dq:dm)(D:Ends),eQ K dl bd hs H σ q->qs Dq q->BW K dl bd hs Dq D->ts D σ H
structure QPS(X:Cx)(K:BT)(st:EQ)(ts:TS)(qs:QS):Prop where
 h:PS X st ts
 s:la K ts qs
structure ph(X:Cx)(K:BT)(st:List EQ)(ts:TS)(qs:QS):Prop where
 h:PSs X st ts
 s:la K ts qs
variable{q:Sq}{pos':Pos}
section
variable{X:Cx}{K:BT}{st:EQ}{rest sa sb:List EQ}{t u:TS}{qt qu:QS}{e c:Ev}{te:TE}{qe:QE}{tc:TT}{qc:QT}{pos:Pos}
def uO:QS:=λD q=>D.nx q
def dm.seq(D:dm)(u:QS):dm:={D with nx:=u D}
def nF(t u:QS):QS:=λD q=>t (D.seq u) q
def aC:ph X K [] Od uO:=(Cs,λ_ _ _ H σ q _ _ r hq E=>E.nx H σ q r hq)
def ag(h1:QPS X K st t qt)(h2:ph X K rest u qu):ph X K (st::rest) (Pu t u) (nF qt qu):=(bC h1.h h2.h,λdl bd hs H σ q Dq D r hq E =>
 h1.s dl bd hs H σ q _ _ r hq (λH σ q z g=>h2.s dl bd hs H σ q _ _ z g E,E.bk,E.ct,E.rt,E.ru))
def aj(h1:QPS X K st t qt):ph X K [st] t qt:=(eT h1.h,h1.s)
def Ht:QPS X K (.Break pos) Gp (λD q=>D.bk q):=(Ia,λ_ _ _ H σ q _ _ r hq E=>E.bk H σ q r hq)
def aD(he:QPF X K e te qe):QPS X K (.Return (Z e) pos) (Pw te) (λD q=>qe q D.rt):=(qW he.h,λdl bd hs H σ q Dq D (F,r) hq E =>
 he.s dl H σ q _ _ r.rd hq λv t F' H' g z f1 P Q=>E.rt v t F' H' g.d z (λb V=>r.fz (f1 b V)) P (r.evo g).f Q)
def fF{i:Nat}(he:PE X e (bZ i)):QPS X K (.Return (Z e) pos) (Pw (bZ i)) (λD q=>match q[i]? with|some (.o t)=>D.rt t|_=>False):=(qW he,λdl bd hs H σ q Dq D (F,r) hq E=>by
 split at hq
 ·rename_i t z;let(v,hv,P):=r.g i _ t z U;let(o1,o2,Q):=r.o i t z;exact(v,hv,E.rt v t (F i) H r.d P o2 o1 r.f hq)
 ·exact hq.elim)
def Ei(c:QT)(t u:QS):QS:=λD q=>c q λb=>if b=O then t D q else u D q
def aX(z:QPT X K c tc qc)(ha:ph X K sa t qt)(P:ph X K sb u qu):QPS X K (.If c sa sb pos) (PB tc t u) (Ei qc qt qu):=(H0 z.h ha.h P.h,λdl bd hs H σ q Dq D (F,r) hq E =>
 z.s dl H σ q _ _ r.rd hq λb H' Q g=>by
  cases b with
  |true=>exact ha.s dl bd hs H' σ q Dq D (F,r.evo Q) g E
  |false=>exact P.s dl bd hs H' σ q Dq D (F,r.evo Q) g E)
def oN(i:Nat)(qe:QE):QS:=λD q=>qe q λt=>D.nx (q.set i (.o t))
def Rel.HV{hs:List (V×T)}{σ:St}{F:Nat->List J}{i:Nat}{v:V}{t:T}(r:Rel K dl bd hs H σ q F)(e:Evo dl H H')(hv:Rp K dl H' v t F')(hf:∀b∈F',H b=Y)(hn:F'.Nodup):eQ K dl bd hs H' (σ.set i (Z v)) (q.set i (.o t)):=by
 by_cases hi:i<q.length
 ·exact(_,r.put hi e hv hf hn)
 ·have hl:=r.l;rw[Xo (by lia),Xo (by lia)]
  exact(F,r.evo e)
def B8{i:Nat}(he:iV K te qe):la K (ix te (fB i)) (oN i qe):=λdl bd hs H σ q Dq D (F,r) hq E=>he dl H σ q _ _ r.rd hq λv t F' H' Q g f1 z P=>E.nx H' _ _ (r.HV Q g f1 z) P
def Qc{i:Nat}(g:X.N.Nodup)(hi:X.N[i]?=Z x)(hx:Loc X.env.scope x)(he:QPF X K e te qe)(hs:‹swapsWith e (Z (.Name x pos')) pos.line X.env=pure false›)(hf:AT X x:=by first|exact .inl rfl|exact .inr rfl|assumption):
  QPS X K (.Assign [.Name x pos'] e pos) (ix te (fB i)) (oN i qe):=(gI g hi hx he.h hs hf,B8 he.s)
inductive Vs(tb:QS)(D:dm)(W:Nat->Sq->Prop)(m:Nat)(q:Sq):Prop
 |mk(N:Sq->Prop)(less:∀q',N q'->∃m',m'<m/\W m' q')(body:tb (D.lp N) q)
inductive WhileI(c:QT)(tb:QS)(D:dm)(q:Sq):Prop
 |mk (W:Nat->Sq->Prop) (h0:∃m,W m q) (turn:∀m q,W m q->c q λb=>if b=O then Vs tb D W m q else D.nx q)
def Qh(c:QT)(tb:QS):QS:=λD q=>WhileI c tb D q
def x6(hp:YL (model X.prog X.w) X.A X.env X.xe)(P:QPT X K c tc qc)(Q:ph X K rest t qt):QPS X K (.While c rest [] pos) (z7 tc t) (Qh qc qt):=(yf hp P.h Q.h,λdl bd hs H σ q Dq D r hq E=>by
 let(W,(m0,w0),turn):=hq;refine(λm σ H=>∃q,eQ K dl bd hs H σ q/\W m q,(m0,q,r,w0),?_)
 rintro m σ H ⟨q,⟨F,r⟩,w⟩
 refine P.s dl H σ q _ _ r.rd (turn m q w) λb H1 V z=>?_
 cases b with
 |false=>exact E.nx H1 σ q (F,r.evo V) z
 |true =>
  let(N,hN,z):=z;refine(λg H'=>∃q',eQ K dl bd hs H' g q'/\N q',λg H' (q',r',n')=>?_,?_)
  ·let(m',hm,w'):=hN q' n';exact(m',hm,q',r',w')
  ·exact Q.s dl bd hs H1 σ q _ _ (F,r.evo V) z (λH σ q r n=>(q,r,n),λH σ q r n=>E.nx H σ q r n,λH σ q r n=>(q,r,n),E.rt,E.ru))
end
abbrev PSp:=List T->(T->Prop)->Prop
inductive spQ(K:BT)(ps:PSp)(vs:List V)(H:Hp)(Q:VK)(_:XK):Prop
 |mk(dl:Dl)(ts:List T)(F:List J)(Qp:T->Prop)(h1:Dls dl H)(h2:Rps K dl H vs ts F)(h3:ps ts Qp)(h4:∀v t F' H',Evo dl H H'->Rp K dl H' v t F'->(∀b∈F',H b=Y)->F'.Nodup->Qp t->Q v H')
section
variable{X:Cx}{K:BT}{e:Ev}{es:List Ev}{tl:TA}{ql:QA}{pos p:Pos}{k:Nat}{f:J}{fd:Ch}{prs:List Str}{ps:PSp}
def fb(ps:PSp)(ql:QA):QE:=λq Q=>ql q λts=>ps ts Q
def GO(ha:Kq K n tl ql):iV K (B4 (spQ K ps) [] E0 tl) (fb ps ql):=λdl H σ q Q R rd hq k=>ha dl H σ q _ _ rd hq λvs ts F H1 z P _ g=>by
 rw[rD];exact(dl,ts,F,Q,z.d,P,g,λv t F' H' e r f n g=>k v t F' H' (z.trans e) r (λb V=>z.free (f b V)) n g)
theorem Mh(F:bj X.prog X.w X.K X.mg X.base CX0 k f fd prs (spQ K ps))(hr:cN k X.A)(hg:Gl X x)(hm:X.mg x=Z (.ref f))(hk:W.keepIn X.K (.ref f)=O)(z:Binds X.K fd prs [])(ha:QPA X K (e::es) tl ql)
  (q:autoParam (AS x) zdc._auto_1) (he:‹AC X e es›) (g:‹AM X pos es›):
  QPF X K (.Call (.Name x p) (e::es) [] pos) (B4 (spQ K ps) [] E0 tl) (fb ps ql):=(Cy F hr hg hm hk z .nil IB ha.h q he g,GO ha.s)
end
theorem nA{K:BT}{vs:List V}{ts:List T}{F:List J}(D:Dls dl H)(r:Rps K dl H vs ts F)(hn:vs.length<=n):eQ K dl H [] H (vs.map Z++uA (n-vs.length) Y) (ts.map Sl.r++uA (n-vs.length) .no):=by
 have hl:=r.r.len;have main:∀{vs:List V}{ts:List T}{F:List J},az K dl H vs ts F->(∀b∈F,Nd dl b)->∃g:Nat->List J,(∀i t,ts[i]?=Z t->∃v,vs[i]?=Z v/\Rp K dl H v t (g i))/\∀i,ts.length<=i->g i=[]:=by
  intro vs ts F h
  induction ts generalizing vs F with
  |nil=>intro _;exact(λ_=>[],λi t e=>by simp at e,λ_ _=>rfl)
  |cons t ts ih =>
   cases h with
   |@cons v0 _ ak _ F1 G1 h1 h2 =>
    intro hn;let(g,g1,g2):=ih h2 λb P=>hn b (qg _ P)
    refine(λi=>match i with | 0=>F1|i+1=>g i,λi u e=>?_,λi hi=>?_)
    ·cases i with
     |zero =>
      simp at e;subst e;exact(_,by simp,h1,λb P=>hn b (qp _ P))
     |succ i =>
      let(v,q,Q):=g1 i u (e:)
      exact(v,(q:),Q)
    ·cases i with
     |zero=>simp at hi
     |succ i=>exact g2 i (hi:)
 let(g,g1,g2):=main r.r r.n;have lk:∀i y,(ts.map Sl.r++uA (n-vs.length) Sl.no)[i]?=Z y->(∃t,ts[i]?=Z t/\y=.r t)\/(ts.length<=i/\y=.no):=λi y h=>by
  by_cases hi:i<ts.length
  ·rw[Dr (hi:),gV,gs hi]at h
   exact .inl (ts[i],by simp,(Option.some.inj h).symm)
  ·rw[M1 (hi:),Yr]at h
   split at h
   ·exact .inr (by lia,(Option.some.inj h).symm)
   ·cases h
 refine(g,D,λi y t h1 h2=>?_,λi y h1 h2=>?_,λi hi=>?_,λi t h1=>?_,λp hp=>(by cases hp),.refl,by simp[hl])
 ·obtain⟨u,e,rfl⟩|⟨_,rfl⟩:=lk i y h1
  ·cases h2;let(v,q,Q):=g1 i t e;refine(v,?_,Q);have hi:=(iY.mp q).1;rw[Dr (hi:),gV,q]
   rfl
  ·cases h2
 ·obtain⟨u,e,rfl⟩|⟨hi,rfl⟩:=lk i y h1
  ·cases h2
  ·exact g2 i hi
 ·refine g2 i ?_;simp at hi
  lia
 ·obtain⟨u,e,z⟩|⟨_,z⟩:=lk i _ h1 <;> cases z
variable{P:Da}{mg:Str->Option B}{base:Do}{qual:Str}{st:EQ}{fd:Ch}{N:List Str}{ps:List Str}
theorem Fun.okQ{w:Cl}{K:BT}{f:J}{k:Nat}{g:PSp}(F:Fun K x qual st f fd)(S:aG N ps (aw st))
  (jK:∀(cdv:B)(A:Db)(outer:List Env)(s:ϋ)(H:Hp)(E:XK),cN k (A.deeper (envOfC qual (aw st) s.heap.objs.size f cdv)) ->
   ∃t qs,ph (nT CX0 P w K mg base N qual (aw st) f cdv A outer s H E).nox K (bQ st) t qs/\∀ts Q,g ts Q->qs (.fn Q) (ts.map Sl.r++uA (N.length-ts.length) .no))(len:∀ts Q,g ts Q->ts.length=ps.length:=by intro _ _ h;cases h;subst_vars;rfl):bj P w K mg base CX0 (k+1) f fd ps (spQ K g):=by
 have ak:=by have:=congrArg N9 S.pre;rw[sR]at this;omega
 refine F.ok S (λvs H Q E h=>?_) (λcdv A outer s H vs Q E hr h=>?_)
 ·let(dl,ts,F,Qp,_,r,h,_):=h;rw[r.r.len];exact len ts Qp h
 ·let(dl,ts,Fp,Qp,D,r,h,fin):=h;let(t,qs,hb,hq):=jK cdv A outer s H E hr;refine(t,hb.h,?_);have hlen:=len ts Qp h;have hl:=r.r.len;have z:=hq ts Qp h;have R:=nA (n:=N.length) D r (by lia)
  rw[<- hl]at z;refine hb.s dl H [] H _ _ _ _ R z (λH' σ q (F,r') V=>?_,λ_ _ _ _ V=>V.elim,λ_ _ _ _ V=>V.elim,λv t F H' D' r' f' n' fr V=>?_,λ_ _ _ _ _ _ _ _ _ _ _ _ z=>z.elim)
  ·exact fin .non .n [] H' (r'.f.evo r'.d) (.n,nofun) nofun p7 V
  ·exact fin v t F H' (fr.evo D') r' f' n' V
structure uz(K:BT)(dl:Dl)(Zh:It)(xs:List T)(hv:List (V×T)):Prop where
 go:∀(H:Hp)(i:Nat),Dls dl H->(∀p∈hv,∃F,Rp K dl H p.1 p.2 F)->i<xs.length->Zh.go i H
 yld:∀(H:Hp)(i:Nat)(x:T)(fp:V×T->List J)(v:V)(H':Hp),Dls dl H->(∀p∈hv,Rp K dl H p.1 p.2 (fp p))->xs[i]?=Z x->Zh.yld i H v H'->Evo dl H H'/\∃F,Rp K dl H' v x F/\∀b∈F,H b=Y\/∃p∈hv,b∈fp p
 stop:∀(H:Hp),Dls dl H->(∀p∈hv,∃F,Rp K dl H p.1 p.2 F)->Zh.stop xs.length H
variable{lo:Int}
section
variable{X:Cx}{K:BT}
def mj{xs:List T}:uz K dl (Itl K a) xs [(.ref a,.l xs)] where
 go:=λH i D h hi=>by
  let(F,r):=h _ (fy.mpr U);let(p,vs,G,e,_,h1,h2):=r.r.lst;cases e;exact(vs,vs[i]'(by rw[h2.len];exact hi),SqL.of h1,by simp[hi])
 yld:=λH i x fp v H' D h hx y=>by
  have r:=h _ (fy.mpr U);let(p,vs,G,e,Q,h1,h2):=r.r.lst;cases e;let(U,y):=y;let(w,P,hw,q,hs):=h2.get hx;have z:=y vs (SqL.of h1);rw[hw]at z;cases z;have sub:∀b∈P,b∈fp (V.ref a,T.l xs):=λb g=>by
   rw[Q];exact jQ _ (hs b g)
  exact(.refl D,P,(q,λb g=>r.n b (sub b g)),λb g=>.inr (_,fy.mpr U,sub b g))
 stop:=λH D h=>by
  let(F,r):=h _ (fy.mpr U);let(p,vs,G,e,_,h1,h2):=r.r.lst;cases e;exact(vs,SqL.of h1,by rw[h2.len];exact ot _)
def OE{xs:List T}:uz K dl (Itl K a) xs [(.ref a,.zl xs)] where
 go:=λH i D h hi=>by
  let(F,r):=h _ (fy.mpr U);let(p,o,vs,e,_,h1,h2):=r.r.zls;cases e;exact(vs,vs[i]'(by rw[h2.len];exact hi),.inl (.inr (o,h1)),by simp[hi])
 yld:=λH i x fp v H' D h hx y=>by
  have r:=h _ (fy.mpr U);let(p,o,vs,e,Q,h1,h2):=r.r.zls;cases e;let(U,y):=y;let(w,P,hw,g,hs):=h2.get hx;have z:=y vs (.inl (.inr (o,h1)));rw[hw]at z;cases z;exact(.refl D,P,(g,λb q=>nomatch hs b q),λb q=>nomatch hs b q)
 stop:=λH D h=>by
  let(F,r):=h _ (fy.mpr U);let(p,o,vs,e,_,h1,h2):=r.r.zls;cases e;exact(vs,.inl (.inr (o,h1)),by rw[h2.len];exact ot _)
def Bi{xs:List T}:uz K dl (Itt K a) xs [(.ref a,.t xs)] where
 go:=λH i D h hi=>by
  let(F,r):=h _ (fy.mpr U);let(p,vs,e,h1,h2):=r.r.tup;cases e;exact(vs,vs[i]'(by rw[h2.len];exact hi),SqT.of h1,by simp[hi])
 yld:=λH i x fp v H' D h hx y=>by
  have r:=h _ (fy.mpr U);let(p,vs,e,h1,h2):=r.r.tup;cases e;let(U,y):=y;let(w,P,hw,g,hs):=h2.get hx;have z:=y vs (SqT.of h1);rw[hw]at z;cases z;exact(.refl D,P,(g,λb q=>r.n b (hs b q)),λb q=>.inr (_,fy.mpr U,hs b q))
 stop:=λH D h=>by
  let(F,r):=h _ (fy.mpr U);let(p,vs,e,h1,h2):=r.r.tup;cases e;exact(vs,SqT.of h1,by rw[h2.len];exact ot _)
def Jq:uz K dl (Itr lo n) ((N6 n).map λi=>.i (lo+(i:Nat))) [] where
 go:=λH i D h hi=>by
  show i<n;simpa using hi
 yld:=λH i x fp v H' D h hx y=>by
  let(U,U):=y;rw[gV]at hx;cases e:(N6 n)[i]? with
  |none=>rw[e]at hx;cases hx
  |some j =>
   rw[e]at hx;have g:j=i:=by
    have:=iY.mp e
    let(h1,h2):=this;simp at h2;exact h2.symm
   subst g;cases hx;exact(.refl D,[],.c (.i _),nofun)
 stop:=λH D h=>by show n<=_;simp
abbrev QI:=Sq->(List T->Prop)->Prop
def Vt(K:BT)(wi:TI)(iq:QI):Prop:=∀(dl:Dl)(H:Hp)(σ:St)(q:Sq)(Q:List T->Prop)(R:It->Hp->Prop),RdR K dl H σ q->iq q Q ->
 (∀xs Zh hv H',Evo dl H H'->uz K dl Zh xs hv->(∀p∈hv,∃F,Rp K dl H' p.1 p.2 F)->Q xs->R Zh H')->wi σ H R
structure QPI(X:Cx)(K:BT)(tg iter:Ev)(wi:TI)(iq:QI):Prop where
 h:PI X tg iter wi
 s:Vt K wi iq
abbrev QJ:=Sq->(List T->Sq->Prop)->Prop
def WC(K:BT)(wi:TI)(iq:QJ):Prop:=∀(dl:Dl)(bd:Hp)(hs:List (V×T))(H:Hp)(σ:St)(q:Sq)(Q:List T->Sq->Prop)(R:It->Hp->Prop),eQ K dl bd hs H σ q->iq q Q ->
 (∀xs Zh hv H' q',eQ K dl bd (hv++hs) H' σ q'->uz K dl Zh xs hv->Q xs q'->R Zh H')->wi σ H R
structure QPJ(X:Cx)(K:BT)(tg iter:Ev)(wi:TI)(iq:QJ):Prop where
 h:PI X tg iter wi
 s:WC K wi iq
variable{tg e a b:Ev}{te:TE}{qe:QE}{tl:TA}{ql:QA}{pos p:Pos}
def lT(g:X.K=K)(h:PE X e te):PI X tg e (uZ K te):=by subst g;exact pN h
def wu(g:X.K=K)(h:PE X e te):PI X tg e (Ju K te):=by subst g;exact QZ h
def asL(qe:QE):QI:=λq Q=>qe q λt=>match t with|.l xs=>Q xs|.zl xs=>Q xs|_=>False
def asT(qe:QE):QI:=λq Q=>qe q λt=>match t with|.t xs=>Q xs|_=>False
def jZ(h:QPE X K e te qe)(P:‹X.K=K›):QPI X K tg e (uZ K te) (asL qe):=(lT P h.h,λdl H σ q Q R rd hq k=>h.s dl H σ q _ _ rd hq λv t F H' z r g=>by
 split at g
 ·let(p,vs,G,U,U,h1,h2):=r.r.lst;exact(p,U,(vs,SqL.of h1),k _ _ _ H' z mj (λp hp=>by rw[fy.mp hp];exact(_,r)) g)
 ·let(p,o,vs,U,U,h1,h2):=r.r.zls;exact(p,U,(vs,.inl (.inr (o,h1))),k _ _ _ H' z OE (λp hp=>by rw[fy.mp hp];exact(_,r)) g)
 ·exact g.elim)
def kL(h:QPE X K e te qe)(z:‹X.K=K›):QPI X K tg e (Ju K te) (asT qe):=(wu z h.h,λdl H σ q Q R rd hq k=>h.s dl H σ q _ _ rd hq λv t F H' P r g=>by
 split at g
 ·let(p,vs,U,h1,h2):=r.r.tup;exact(p,U,(vs,SqT.of h1),k _ _ _ H' P Bi (λp hp=>by rw[fy.mp hp];exact(_,r)) g)
 ·exact g.elim)
def G5(lo:Int)(n:Nat):List T:=(N6 n).map λi=>.i (lo+(i:Nat))
def kI{i:Nat}{x:T}(h:(G5 lo n)[i]?=Z x):x=.i (lo+(i:Nat))/\i<n:=by
 unfold G5 at h;rw[gV]at h;let(j,g,U):=g5.mp h;let(h1,h2):=iY.mp g;simp at h1 h2;subst h2;exact(U,h1)
def eR:(G5 lo n).length=n:=by simp[G5]
def Vn(ql:QA):QI:=λq Q=>ql q λts=>on1 ts λt=>match t with|.i n=>-(2 ^ 62)<=n/\n<2 ^ 62/\Q (G5 0 n.toNat)|_=>False
def nC(hg:Gl X "range")(hm:X.mg "range"=Y)(ha:QPA X K [a] tl ql)(hs:‹AD X a›):QPI X K tg (.Call (.Name "range" p) [a] [] pos) (Jv tl) (Vn ql):=(uP hg hm ha.h hs,λdl H σ q Q R rd hq k=>ha.s dl H σ q _ _ rd hq λvs ts F H' V r _ g=>by
 replace g:=on1.inv g
 let(t,U,g):=g
 split at g
 ·let(v,U,P):=r.one;let(U,_):=P.r.int;exact(_,U,g.1,g.2.1,k _ _ [] H' V Jq nofun g.2.2)
 ·exact g.elim)
def asJ(iq:QI):QJ:=λq Q=>iq q λxs=>Q xs q
def gS(hg:Gl X "range")(hm:X.mg "range"=Y)(ha:QPA X K [a] tl ql)(hs:‹AD X a›):QPJ X K tg (.Call (.Name "range" p) [a] [] pos) (Jv tl) (asJ (Vn ql)):=(uP hg hm ha.h hs,λdl bd hs H σ q Q R (F0,z) hq k=>ha.s dl H σ q _ _ z.rd hq λvs ts F H' V r _ g=>by
 replace g:=on1.inv g
 let(t,U,g):=g
 split at g
 ·let(v,U,P):=r.one;let(U,_):=P.r.int;exact(_,U,g.1,g.2.1,k _ _ [] H' q (F0,z.evo V) Jq g.2.2)
 ·exact g.elim)
def Cm(h:QPF X K e te qe)(hK:‹X.K=K›):QPJ X K tg e (uZ K te) (asJ (asL qe)):=(lT hK h.h,λdl bd hs H σ q Q R (F0,g) hq k=>h.s dl H σ q _ _ g.rd hq λv t F H' e1 r f n P=>by
 split at P
 ·have V:=(g.evo e1).hold r λj u hj b hb z=>(g.gC hb).no (f b z)
  let(p,vs,G,U,U,h1,h2):=r.r.lst;exact(p,U,(vs,SqL.of h1),k _ _ _ H' q (F0,V) mj P)
 ·have V:=(g.evo e1).hold r λj u hj b hb z=>(g.gC hb).no (f b z)
  let(p,o,vs,U,U,h1,h2):=r.r.zls;exact(p,U,(vs,.inl (.inr (o,h1))),k _ _ _ H' q (F0,V) OE P)
 ·exact P.elim)
def jv(h:QPF X K e te qe)(hK:‹X.K=K›):QPJ X K tg e (Ju K te) (asJ (asT qe)):=(wu hK h.h,λdl bd hs H σ q Q R (F0,g) hq k=>h.s dl H σ q _ _ g.rd hq λv t F H' e1 r f n P=>by
 split at P
 ·have V:=(g.evo e1).hold r λj u hj b hb z=>(g.gC hb).no (f b z)
  let(p,vs,U,h1,h2):=r.r.tup;exact(p,U,(vs,SqT.of h1),k _ _ _ H' q (F0,V) Bi P)
 ·exact P.elim)
def asN(i:Nat):QJ:=λq Q=>match q[i]? with
 |some (.o (.l xs))=>Q xs (q.set i (.r (.l xs)))
 |some (.r (.l xs))=>Q xs q
 |_=>False
def Ck{i:Nat}(h:PE X e (bZ i))(hK:‹X.K=K›):QPJ X K tg e (uZ K (bZ i)) (asN i):=(lT hK h,λdl bd hs H σ q Q R (F0,V) hq k=>by
 unfold asN at hq
 split at hq
 ·rename_i xs e1;let(v,hv,r):=V.g i _ _ e1 U;have r1:=(V.down e1).hold r λj u P b hb=>by
   obtain⟨_,z,_⟩|⟨ne,P⟩:=get_set P
   ·cases z
   ·exact(V.o j u P).2.2 i (λz=>ne z.symm) b hb
  let(p,vs,G,U,_,h1,h2):=r.r.lst;exact(_,hv,p,U,(vs,SqL.of h1),k _ _ _ H _ (F0,r1) mj hq)
 ·rename_i xs e1;let(v,hv,r):=V.g i _ _ e1 U;have r1:=V.hold r λj u P b hb=>(V.o j u P).2.2 i (λz=>by subst z;rw[e1]at P;cases P) b hb
  let(p,vs,G,U,_,h1,h2):=r.r.lst;exact(_,hv,p,U,(vs,SqL.of h1),k _ _ _ H _ (F0,r1) mj hq)
 ·exact hq.elim)
inductive Tg where
 |nm(i:Nat)|tp (is:List Nat)
def tX(q:Sq):List Nat->List T->Option Sq
 |[],[]=>Z q
 |i::is,x::xs=>if i<q.length then tX (q.set i (.r x)) is xs else Y
 |_,_=>Y
def Tg.put(g:Tg)(x:T)(q:Sq):Option Sq:=match g with
 |.nm i=>if i<q.length then Z (q.set i (.r x))else Y
 |.tp is=>match x with|.t xs=>tX q is xs|_=>Y
def wY:List Nat->TGs
 |[]=>R5
 |i::is=>CY (fB i) (wY is)
def Tg.h(K:BT):Tg->TG
 |.nm i=>fB i
 |.tp is=>NK K is.length (wY is)
def Eg{hs:List (V×T)}{is:List Nat}:∀{vs:List V}{xs:List T}{G:List J}{σ:St}{q q':Sq}{F:Nat->List J}{R:St->Hp->Prop},Rel K dl bd hs H σ q F->az K dl H vs xs G->(∀b∈G,Nd dl b) ->
  (∀(j:Nat)(u:T),q[j]?=Z (.o u)->∀b∈F j,b ∉ G)->tX q is xs=Z q'->(∀P,eQ K dl bd hs H P q'->R P H)->wY is vs σ H R:=by
 induction is with
 |nil =>
  intro vs xs G σ q q' F R r rs _ _ hp k;cases xs with
  |cons _ _=>cases hp
  |nil =>
   cases rs;cases hp;exact(U,k σ (F,r))
 |cons i is ih =>
  intro vs xs G σ q q' F R r rs hn ho hp k;cases xs with
  |nil=>cases hp
  |cons x xs =>
   cases rs with
   |cons r1 r2 =>
    unfold tX at hp;by_cases hi:i<q.length
    ·rw[if_pos hi]at hp;refine(_,_,U,?_);have r':=r.Mp hi (r1,λb g=>hn b (qp _ g)) λj u Q _ b g z=>ho j u Q b g (qp _ z)
     refine ih r' r2 (λb g=>hn b (qg _ g)) (λj u Q b g z=>?_) hp k
     obtain⟨_,z',_⟩|⟨ne,Q⟩:=get_set Q
     ·cases z'
     ·rw[aK ne]at g;exact ho j u Q b g (qg _ z)
    ·rw[if_neg hi]at hp;cases hp
variable{g:Tg}
def wa{hs:List (V×T)}{v:V}{x:T}{σ:St}{q':Sq}{F:Nat->List J}{R:St->Hp->Prop}(r:Rel K dl bd hs H σ q F)(P:Rp K dl H v x G)
  (ho:∀(j:Nat)(u:T),q[j]?=Z (.o u)->∀b∈F j,b ∉ G) (hp:g.put x q=Z q') (k:∀z,eQ K dl bd hs H z q'->R z H):g.h K v σ H R:=by
 cases g with
 |nm i =>
  replace hp:(if i<q.length then Z (q.set i (.r x))else Y)=Z q':=hp
  by_cases hi:i<q.length
  ·rw[if_pos hi]at hp;cases hp;exact k _ (_,r.Mp hi P λj u hj _=>ho j u hj)
  ·rw[if_neg hi]at hp;cases hp
 |tp is =>
  cases x with
  |t xs =>
   let(p,vs,U,h1,h2):=P.r.tup;have hl:∀{is:List Nat}{xs:List T}{q q':Sq},tX q is xs=Z q'->xs.length=is.length:=λ{is}=>by
    induction is with
    |nil=>intro xs q q' h;cases xs with
     |nil=>rfl
     |cons _ _=>cases h
    |cons i is Q=>intro xs q q' h;cases xs with
     |nil=>cases h
     |cons x xs =>
      unfold tX at h;by_cases hi:i<q.length
      ·rw[if_pos hi]at h;simp[Q h]
      ·rw[if_neg hi]at h;cases h
   exact(p,vs,U,SqT.of h1,by rw[h2.len];exact hl hp,Eg r h2 P.n ho hp k)
  |_=>cases hp
end
variable{tg:Ev}{iter:Ev}{body:List EQ}{g:Tg}{cap:List (Option Nat)}{iq:QI}{tst:TT}{nB:QT}{te:TE}{qe:QE}{N':List Str}{sc:Scope}{elt:Ev}{ifs:List Ev}
section
variable{X:Cx}{K:BT}{hs:List (V×T)}{σ:St}{F:Nat->List J}
def Rel.iw{hv:List (V×T)}(r:Rel K dl bd (hv++hs) H σ q F):Rel K dl bd hs H σ q F:=(r.d,r.g,r.n,r.z,r.o,λp hp=>r.h p (qg _ hp),r.f,r.l)
def Rel.fps{hv:List (V×T)}(r:Rel K dl bd (hv++hs) H σ q F):∃fp:V×T->List J,∀p∈hv,Rp K dl H p.1 p.2 (fp p)/\∀(i:Nat)(t:T),q[i]?=Z (.o t)->∀b∈F i,b ∉ fp p:=by
 classical
 refine(λp=>if h:p∈hv then(r.h p (qp _ h)).choose else [],λp hp=>?_)
 have z:=(r.h p (qp _ hp)).choose_spec;simp only[dif_pos hp];exact z
inductive WG(g:Tg)(qb:QS)(D:dm)(xs:List T)(q0:Sq):Prop
 |mk(I:Nat->Sq->Prop)(h0:I 0 q0)(step:∀i x q,xs[i]?=Z x->I i q->∃q',g.put x q=Z q'/\qb (D.lp (I (i+1))) q')(fin:∀q,I xs.length q->D.nx q)
def T7(iq:QJ)(g:Tg)(qb:QS):QS:=λD q=>iq q λxs q0=>WG g qb D xs q0
def bE{wi:TI}{iq:QJ}{tb:TS}{qb:QS}{pos:Pos}(hp:YL (model X.prog X.w) X.A X.env X.xe)(hc:X.calm=O)(hi:QPJ X K tg iter wi iq)(hg:PG X tg (g.h K))(hb:ph X K body tb qb)
  (hs:∀x,foldedSetIterable iter X.env x=pure x:=by intro _;rfl):QPS X K (.For tg iter body [] pos) (PC wi (g.h K) tb) (T7 iq g qb):=(AG hp hc hi.h hg hb.h hs,λdl bd hs H σ q Dq D r hq E=>by
 refine hi.s dl bd hs H σ q _ _ r hq λxs Zh hv H1 q1 r1 it hz=>?_
 let(I,i0,turn,fin):=hz;refine(λi m σ H=>m=xs.length-i/\i<=xs.length/\∃q,eQ K dl bd (hv++hs) H σ q/\I i q,(xs.length,by simp,FI _,q1,r1,i0),?_)
 rintro i m σ H ⟨rfl,ay,q,⟨F,r⟩,hI⟩
 have held:∀p∈hv,∃F,Rp K dl H p.1 p.2 F:=λp hp=>let(Fp,h,_):=r.h p (qp _ hp);(Fp,h)
 by_cases P:i<xs.length
 ·refine .inr (it.go H i r.d held P,λQ H'=>∃q,eQ K dl bd (hv++hs) H' Q q/\I (i+1) q,λQ H' h=>(xs.length-(i+1),by omega,U,P,h),λv H' y=>?_)
  let(fp,V):=r.fps;have hx:xs[i]?=Z xs[i]:=by simp[P]
  let(e1,G,rx,hG):=it.yld H i xs[i] fp v H' r.d (λp hp=>(V p hp).1) hx y
  let(q',ar,hz):=turn i xs[i] q hx hI;refine wa (r.evo e1) rx (λj u hj b hb z=>?_) ar λak r2=>hb.s dl bd (hv++hs) H' ak q' _ _ r2 hz (λH σ q r n=>(q,r,n),λH σ q (F,r) n=>E.nx H σ q (F,r.iw) n,λH σ q r n=>(q,r,n),E.rt,λH σ q F0 v t F r=>E.ru H σ q F0 v t F r.iw)
  obtain h |⟨p,hp,h⟩:=hG b z
  ·exact(r.gC hb).no h
  ·exact(V p hp).2 j u hj b hb h
 ·have e:i=xs.length:=by lia
  subst e;exact .inl (it.stop H r.d held,E.nx H σ q (F,r.iw) (fin q hI)))
def jN(cap:List (Option Nat))(q:Sq):Sq:=cap.map λo=>match o with
 |none=>.no
 |some i=>match q[i]? with
  |some (.o t)=>.r t
  |some (.r t)=>.r t
  |_=>.no
def LW(r:RdR K dl H σ q):RdR K dl H (mP cap σ) (jN cap q):=(r.d,λj x t h1 h2=>by
 unfold jN at h1;rw[gV]at h1;cases e:cap[j]? with
 |none=>rw[e]at h1;cases h1
 |some o =>
  rw[e]at h1;cases o with
  |none=>cases h1;cases h2
  |some i =>
   have go:∀y,q[i]?=Z y->y.get=Z t->∃v F,(mP cap σ)[j]?=Z (Z v)/\Rp K dl H v t F:=λy z P=>by
    let(v,F,h3,h4):=r.g i y t z P;refine(v,F,?_,h4);unfold mP;rw[gV,e];show Z ((σ[i]?).join)=_;rw[h3];rfl
   replace h1:(match q[i]? with|some (.o t)=>Sl.r t|some (.r t)=>.r t|_=>.no)=x:=Option.some.inj h1
   split at h1
   ·rename_i u eq;subst h1;cases h2;exact go _ eq U
   ·rename_i u eq;subst h1;cases h2;exact go _ eq U
   ·subst h1;cases h2)
theorem RdR.set{i:Nat}{v:V}{x:T}{G:List J}(r:RdR K dl H σ q)(hl:i < σ.length)(P:Rp K dl H v x G):RdR K dl H (σ.set i (Z v)) (q.set i (.r x)):=(r.d,λj y t h1 h2=>by
 obtain⟨rfl,rfl,_⟩|⟨ne,h1⟩:=get_set h1
 ·cases h2;exact(v,G,by rw[W0 hl],P)
 ·let(w,F,h3,h4):=r.g j y t h1 h2;exact(w,F,by rw[N8 (λz=>ne z.symm)];exact h3,h4))
def RdR.any{i:Nat}{o:Option V}(r:RdR K dl H σ q)(hn:q[i]?=Z .no):RdR K dl H (σ.set i o) q:=(r.d,λj y t h1 h2=>by
 let(w,F,h3,h4):=r.g j y t h1 h2;refine(w,F,?_,h4);rw[N8]
 ·exact h3
 ·intro z;subst z;rw[hn]at h1;cases h1;cases h2)
def Tg.ixs:Tg->List Nat
 |.nm i=>[i]
 |.tp is=>is
def G8{is:List Nat}:∀{vs:List V}{xs:List T}{G:List J}{σ:St}{q q0 q':Sq}{R:St->Hp->Prop},RdR K dl H σ q->RdR K dl H σ q0->σ.length=q.length->az K dl H vs xs G->(∀b∈G,Nd dl b)->(∀i∈is,q0[i]?=Z .no)->tX q is xs=Z q' ->
  (∀g,RdR K dl H g q'->RdR K dl H g q0->g.length=σ.length->R g H)->wY is vs σ H R:=by
 induction is with
 |nil =>
  intro vs xs G σ q q0 q' R r z _ rs _ _ hp k;cases xs with
  |cons _ _=>cases hp
  |nil =>
   cases rs;cases hp;exact(U,k σ r z U)
 |cons i is ih =>
  intro vs xs G σ q q0 q' R r z hl rs hn hf hp k;cases xs with
  |nil=>cases hp
  |cons x xs =>
   cases rs with
   |cons r1 Q =>
    unfold tX at hp;by_cases hi:i<q.length
    ·rw[if_pos hi]at hp;refine(_,_,U,(ih (r.set ap (r1,λb P=>hn b (qp _ P))) (z.any (hf i lj)) (by simp[hl]) Q (λb P=>hn b (qg _ P)) (λj hj=>hf j (jQ _ hj)) hp λg a b c=>k g a b (c:)))
    ·rw[if_neg hi]at hp;cases hp
theorem ye:∀{is:List Nat}{xs:List T}{q q':Sq},tX q is xs=Z q'->xs.length=is.length
 |[],[],_,_,_=>rfl
 |[],_::_,_,_,h=>by cases h
 |_::_,[],_,_,h=>by cases h
 |i::is,x::xs,q,q',h=>by
  unfold tX at h;by_cases hi:i<q.length
  ·rw[if_pos hi]at h;simp[ye h]
  ·rw[if_neg hi]at h;cases h
def Tp{v:V}{x:T}{q':Sq}{R:St->Hp->Prop}(r:RdR K dl H σ q)(hl:σ.length=q.length)(P:Rp K dl H v x G)(hf:∀i∈g.ixs,q[i]?=Z .no)(hp:g.put x q=Z q')
  (k:∀z,RdR K dl H z q'->RdR K dl H z q->z.length=σ.length->R z H):g.h K v σ H R:=by
 cases g with
 |nm i =>
  replace hp:(if i<q.length then Z (q.set i (.r x))else Y)=Z q':=hp
  by_cases hi:i<q.length
  ·rw[if_pos hi]at hp;cases hp;exact k _ (r.set (by lia) P) (r.any (hf i (fy.mpr U))) ad
  ·rw[if_neg hi]at hp;cases hp
 |tp is =>
  cases x with
  |t xs =>
   let(p,vs,U,h1,h2):=P.r.tup;exact(p,vs,U,SqT.of h1,by rw[h2.len];exact ye hp,G8 r r hl h2 P.n hf hp k)
  |_=>cases hp
def HI:QT:=λ_ Q=>Q O
def Gz:k9 K B1 HI:=λdl H σ q Q R rd hq k=>k O H (.refl rd.d) hq
inductive CompI(cap:List (Option Nat))(g:Tg)(tst:QT)(qe:QE)(q:Sq)(Q:T->Prop)(xs:List T):Prop
 |mk (hl:xs.length<pY) (I:Nat->List T->Prop) (h0:I 0 []) (step:∀i x ys,xs[i]?=Z x->I i ys->∃q',g.put x (jN cap q)=Z q'/\tst q' λb=>if b=O then qe q' λy=>I (i+1) (ys++[y])else I (i+1) ys) (fin:∀ys,I xs.length ys->Q (.l ys))
def Co(cap:List (Option Nat))(iq:QI)(g:Tg)(tst:QT)(qe:QE):QE:=λq Q=>iq q λxs=>CompI cap g tst qe q Q xs
theorem xV{wi:TI}(hi:Vt K wi iq)(ht:k9 K tst nB)(he:iV K te qe)(hf:(g.ixs.all λi=>cap[i]? == Z Y)=O):iV K (uH cap wi (g.h K) tst te) (Co cap iq g nB qe):=by
 intro dl H σ q Q R rd hq k;refine hi dl H σ q _ _ rd hq λxs Zh hv H1 e1 it held hz=>?_
 let(hlen,I,i0,turn,fin):=hz;have bg:=LW (cap:=cap) (rd.evo e1);have br:∀i∈g.ixs,(jN cap q)[i]?=Z .no:=λi hi=>by
  have z:=WU.mp hf i hi;have z:=(z:)
  unfold jN;rw[gV,z];rfl
 have bI:(mP cap σ).length=(jN cap q).length:=by simp[mP,jN]
 refine(λi m vs ay H'=>m=xs.length-i/\i<=xs.length/\∃ts F,Evo dl H1 H'/\RdR K dl H' ay (jN cap q)/\ay.length=(jN cap q).length/\(∀p∈hv,∃F,Rp K dl H' p.1 p.2 F)/\Rps K dl H' vs ts F/\(∀b∈F,H b=Y)/\F.Nodup/\vs.length<=i/\I i ts,
  (xs.length,by simp,FI _,[],[],.refl e1.d,bg,bI,held,(.nil,nofun),nofun,p7,ot _,i0),?_)
 rintro i m vs ay H' ⟨rfl,cg,ts,F,e2,bb,bt,yQ,rs,fr,nd,b0,hI⟩
 by_cases ak:i<xs.length
 ·refine .inr (it.go H' i e2.d yQ ak,by lia,λaM ar H2=>∃ts F,Evo dl H1 H2/\RdR K dl H2 ar (jN cap q)/\ar.length=(jN cap q).length/\(∀p∈hv,∃F,Rp K dl H2 p.1 p.2 F)/\Rps K dl H2 aM ts F/\(∀b∈F,H b=Y)/\F.Nodup/\aM.length<=i+1/\I (i+1) ts,
   λaM ar H2 h=>(xs.length-(i+1),Nat.sub_succ_lt_self _ _ ak,U,ak,h),λv H2 y=>?_)
  have hx:xs[i]?=Z xs[i]:=by simp[ak]
  obtain⟨fp,bz⟩:∃fp:V×T->List J,∀p∈hv,Rp K dl H' p.1 p.2 (fp p):=by
   classical
   refine(λp=>if h:p∈hv then(yQ p h).choose else [],λp hp=>?_)
   simp only[dif_pos hp];exact(yQ p hp).choose_spec
  let(e3,G,rx,hG):=it.yld H' i xs[i] fp v H2 e2.d bz hx y;let(q',bh,hz):=turn i xs[i] ts hx hI;have O0:∀{H3:Hp},Evo dl H' H3->∀p∈hv,∃F,Rp K dl H3 p.1 p.2 F:=λ{H3} e p hp=>let(F,r):=yQ p hp;(F,r.evo e2.d e)
  refine Tp (bb.evo e3) bt rx br bh λaN r3 aW l3=>(ht dl H2 aN q' _ _ r3 hz λb H4 e4 hz=>?_)
  cases b with
  |false=>exact(ts,F,(e2.trans e3).trans e4,aW.evo e4,by omega,O0 (e3.trans e4),(rs.evo e2.d e3).evo e3.d e4,fr,nd,by lia,hz)
  |true =>
   refine he dl H4 aN q' _ _ (r3.evo e4) hz λw t G' H5 e5 aR f5 n5 hz=>?_
   have E:=(e2.trans e3).trans (e4.trans e5);have a0:=((rs.evo e2.d e3).evo e3.d (e4.trans e5));refine(ts++[t],F++(G'++[]),E,aW.evo (e4.trans e5),by omega,O0 (e3.trans (e4.trans e5)),(a0.r.append (.cons aR.r .nil),λb P=>?_),λb P=>?_,?_,by simp;omega,hz)
   ·obtain P|P:=n6.mp P
    ·exact rs.n b P
    ·rw[rD]at P;exact aR.n b P
   ·obtain P|P:=n6.mp P
    ·exact fr b P
    ·rw[rD]at P;exact((e1.trans e2).trans (e3.trans e4)).free (f5 b P)
   ·rw[rD];refine Fs.mpr (nd,n5,λx hx y hy bK=>?_)
    subst bK;have a3:=(rs.evo e2.d e3).evo e3.d e4;exact gx.no (a3.r.there x hx) (f5 x hy)
 ·have e:i=xs.length:=by lia
  subst e;refine .inl (it.stop H' e2.d yQ,by lia,λD hD=>?_)
  exact k _ _ _ _ ((e1.trans e2).new hD) (rs.lst e2.d hD) (λb P=>by
   obtain e|P:=pj.mp P
   ·rw[e];exact(e1.trans e2).free hD
   ·exact fr b P) (rs.fresh hD nd) (fin ts hI)
structure QB(X:Cx)(K:BT)(N':List Str)(sc:Scope)(tg:Ev)(g:Tg)(ifs:List Ev)(tst:TT)(nB:QT)(elt:Ev)(te:TE)(qe:QE):Prop where
 b:∀cl C s₂ H₂ fp,PG (blk X N' sc cl C s₂ H₂ fp) tg (g.h K)/\PTs (blk X N' sc cl C s₂ H₂ fp) ifs tst/\PE (blk X N' sc cl C s₂ H₂ fp) elt te
 t:k9 K tst nB
 e:iV K te qe
def cm(h:∀cl C s₂ H₂ fp,PG (blk X N' sc cl C s₂ H₂ fp) tg (g.h K)/\QPF (blk X N' sc cl C s₂ H₂ fp) K elt te qe):QB X K N' sc tg g [] B1 HI elt te qe:=
 (λcl C s₂ H₂ fp=>((h cl C s₂ H₂ fp).1,Cr,(h cl C s₂ H₂ fp).2.h),Gz,(h [] 0 X.s₀ (λ_=>Y) []).2.s)
def AA{c:Ev}(h:∀cl C s₂ H₂ fp,PG (blk X N' sc cl C s₂ H₂ fp) tg (g.h K)/\QPT (blk X N' sc cl C s₂ H₂ fp) K c tst nB/\QPF (blk X N' sc cl C s₂ H₂ fp) K elt te qe):QB X K N' sc tg g [c] tst nB elt te qe:=
 (λcl C s₂ H₂ fp=>((h cl C s₂ H₂ fp).1,Cq (h cl C s₂ H₂ fp).2.1.h,(h cl C s₂ H₂ fp).2.2.h),(h [] 0 X.s₀ (λ_=>Y) []).2.1.s,(h [] 0 X.s₀ (λ_=>Y) []).2.2.s)
def cp{pos:Pos}{wi:TI}(V:X.calm=O)(hi:QPI X K tg iter wi iq)(z:m6 X sc N' cap)(q:QB X K N' sc tg g ifs tst nB elt te qe)
  (hf:‹(g.ixs.all λi=>cap[i]? == Z Y)=true›)
  (hV:‹sc.kind=.function›) (hW:autoParam (∀y∈sc.names,y.2 ≠ .cell) zdc._auto_1) (P:autoParam (∀y∈sc.names,y.2=.local->sc.names.lookup y.1=Z .local) zdc._auto_1)
  (Q:‹(sc.names.all λy=>y.2 != .free ||(X.env.kindOf y.1==Z .cell||X.env.kindOf y.1==Z .free))=true›)
  (hs:∀x,foldedSetIterable iter X.env x=pure x:=by intro _;rfl):QPF X K (.ListComp elt [(tg,iter,ifs,0)] sc pos) (uH cap wi (g.h K) tst te) (Co cap iq g nB qe):=
 (Cw V hi.h z q.b hV hW P Q hs,xV hi.s q.t q.e hf)
def gi{i:Nat}{y:Str}{pos e9 py:Pos}{wi:TI}(hN:X.N.Nodup)(z:X.N[i]?=Z y)(hy:Loc X.env.scope y)
  (hc:X.calm=O) (hi:QPI X K tg iter wi iq) (V:m6 X sc N' cap) (Q:QB X K N' sc tg g ifs tst nB elt te qe)
  (P:‹(g.ixs.all λi=>cap[i]? == Z Y)=true›)
  (q:‹swapsWith (.ListComp elt [(tg,iter,ifs,0)] sc pos) (Z (.Name y py)) e9.line X.env=pure true›)
  (hf:AT X y:=by first|exact .inl rfl|exact .inr rfl|assumption)
  (hV:‹sc.kind=.function›) (hW:autoParam (∀y∈sc.names,y.2 ≠ .cell) zdc._auto_1) (iM:autoParam (∀y∈sc.names,y.2=.local->sc.names.lookup y.1=Z .local) zdc._auto_1)
  (i8:‹(sc.names.all λy=>y.2 != .free ||(X.env.kindOf y.1==Z .cell||X.env.kindOf y.1==Z .free))=true›)
  (hs:∀x,foldedSetIterable iter X.env x=pure x:=by intro _;rfl):QPS X K (.Assign [.Name y py] (.ListComp elt [(tg,iter,ifs,0)] sc pos) e9) (ix (uH cap wi (g.h K) tst te) (fB i)) (oN i (Co cap iq g nB qe)):=
 (Ct hN z hy hc hi.h V Q.b q hf hV hW iM i8 hs,B8 (xV hi.s Q.t Q.e P))
end
section
variable{X:Cx}{K:BT}{hs:List (V×T)}{σ:St}{F:Nat->List J}{e o:Ev}{apos aW:Pos}
def zip_inj{ns:List Str}:∀{vs us:List V},vs.length=ns.length->us.length=ns.length->ns.zip vs=ns.zip us->vs=us:=by
 induction ns with
 |nil=>intro vs us h1 h2 _;rw[xw.mp h1,xw.mp h2]
 |cons n r q =>
  intro vs us h1 h2 e;cases vs with
  |nil=>cases h1
  |cons v vs=>cases us with
   |nil=>cases h2
   |cons u us =>
    injection e with g z
    injection g with _ g
    rw[g,q (Nat.succ.inj h1) (Nat.succ.inj h2) z]
def aJ.uniq{v:V}{t:T}{F:List J}(h:aJ K dl H v t F):∀{F':List J},aJ K dl H v t F'->F=F':=
 aJ.rec (motive_1:=λv t F _=>∀{F'},aJ K dl H v t F'->F=F') (motive_2:=λv t F _=>∀{F'},az K dl H v t F'->F=F') (motive_3:=λv t F _=>∀{F'},a6 K dl H v t F'->F=F')
  (λh=>(h.im U).symm) (λ_ _ h=>(h.im U).symm) (λ_ _ h=>(h.im U).symm) (λ_ _ h=>(h.im U).symm) (λ_ _ h=>(h.im U).symm)
  (λh1 _ g _ h=>by let(a,vs,e,h2,r):=h.tup;cases e;rw[h1]at h2;cases h2;exact g r)
  (λh1 _ g _ h=>by let(a,vs,G,e,U,h2,r):=h.lst;cases e;rw[h1]at h2;cases h2;rw[g r])
  (λh1 _ g _ h=>by let(a,vs,G,e,U,h2,r):=h.dic;cases e;rw[h1]at h2;cases h2;rw[g r])
  (λ_ _ h=>(h.im U).symm) (λ_ _ h=>(h.im U).symm) (λ_ _ h=>(h.im U).symm) (λ_ _ _ _ h=>(h.im U).symm) (λ_ _ h=>(h.im U).symm) (λ_ _ _ _ h=>(h.im U).symm)
  (λ_ _ _ h=>(h.im U).symm) (λ_ _ _ _ h=>(h.im U).symm) (λh1 _ g _ h=>by let(vs,G,e,U,h2,r):=h.dpp;rw[h1]at h2;cases h2;rw[g r]) (λh1 _ g _ h=>by let(vs,G,e,U,h2,r):=h.lpp;rw[h1]at h2;cases h2;rw[g r]) (λ_ _ _ _ h=>(h.im U).symm) (λ_ _ h=>(h.im U).symm) (λh1 _ h4 hr g _ h=>by
   let(dx,vs,G,e,U,h2,_,h3,r):=h.omm;rw[h1]at h2;injection h2 with h2
   injection h2 with _ Q P
   subst Q;have z:=zip_inj (hr.len.trans h4.symm) (r.len.trans h3.symm) P;subst z;rw[g r]) (λ_ _ h=>(h.im U).symm)
  (λh=>by cases h;rfl) (λ_ _ i1 i2 _ h=>by cases h with|cons h2 q=>rw[i1 h2,i2 q])
  (λh=>by cases h;rfl) (λ_ _ i1 i2 _ h=>by cases h with|cons h2 q=>rw[i1 h2,i2 q]) h
def Rel.Nz(r:Rel K dl bd hs H σ q F)(e:Evo dl H H'){p:V×T}(hp:p∈hs){Fp:List J}(h:Rp K dl H' p.1 p.2 Fp){b:J}(g:H b=Y):b ∉ Fp:=λz=>by
 let(Q,h1,_):=r.h p hp;have P:=(h1.evo r.d e).r.uniq h.r;subst P;exact gx.no (h1.r.there b z) g
def Rel.v9{i:Nat}{p:J}{ws:List V}{xs ys:List T}{G':List J}(r:Rel K dl bd hs H σ q F)(hi:q[i]?=Z (.o (.l xs)))(hv:σ[i]?=Z (Z (.ref p)))(Q:F i=p::G)(e:Evo dl H H')
  (rs:az K dl H' ws ys G') (hn:G'.Nodup) (hG:∀b∈G',b∈G\/(H b=Y/\Nd dl b)):eQ K dl bd hs (upd H' p (.lst ws)) σ (q.set i (.o (.l ys))):=by
 have r':=r.evo e;let(o1,o2,o3):=r.o i _ hi;let(v',aN,rp):=r'.g i _ _ hi U;rw[hv]at aN;let(p2,aR,G2,e2,eF,h1,h2):=rp.r.lst;rw[Q]at eF;cases eF;rw[Q]at o1;have pG:=(v3.mp o1).1;have aM:=r.gC (by rw[Q];exact lj)
 have ak:p ∉ G':=λz=>by
  obtain z|z:=hG p z
  ·exact pG z
  ·exact aM.no z.1
 have pn:=rp.n p (by rw[Q];exact lj)
 have tf:TF H' (upd H' p (.lst ws)):=(λa us h=>(by
  rw[ao];exact h;intro z;subst z;rw[h]at h1;cases h1),λa ob u h=>(by
  rw[ao];exact h;intro z;subst z;rw[h]at h1;cases h1),λa φ h=>(by
  rw[ao];exact h;intro z;subst z;rw[h]at h1;cases h1),λa ar h=>(by
  by_cases z:a=p
  ·subst z;exact(_,au)
  ·exact(ar,by rw[ao z];exact h)),λa x h=>(x,WZ _,by
  rw[ao];exact h;intro z;subst z;rw[h]at h1;cases h1))
 have ay:=rs.dq tf (λ_ z=>z) λb P ob eb=>by
  have ne:b≠p:=by
   intro z;subst z;exact ak P
  rw[ao ne];exact eb
 refine(_,r'.write hi hv (by rw[Q];exact lj) (λ_ _=>(_,U)) (.l au ay,λb P=>?_) (v3.mpr (ak,hn)) λb P=>?_)
 ·obtain z|P:=pj.mp P
  ·rw[z];exact pn
  ·obtain z|z:=hG b P
   ·exact rp.n b (by rw[Q];exact jQ _ z)
   ·exact z.2
 ·obtain z|P:=pj.mp P
  ·rw[z,Q];exact .inl lj
  ·obtain z|z:=hG b P
   ·rw[Q];exact .inl (jQ _ z)
   ·exact .inr (r.fz z.1,λj hj=>(r.gC hj).no z.1,λw u Fp h1 h2=>r.Nz e h2 h1 z.1)
def wk(i:Nat)(qe:QE):QS:=λD q=>match q[i]? with
 |some (.o (.l xs))=>xs.length<pY/\qe q λt=>D.nx (q.set i (.o (.l (xs++[t]))))
 |_=>False
abbrev At(X:Cx)(p:Pos)(e:List Ev):Prop:=((backTo p (pq e X.env)).all (λx=>!x.1)&&(backToKw p (keywordEach [] X.env)).all (λx=>x.1.isSome)&&decide (e.length+([]:List Keyword).length+(if([]:List Keyword).isEmpty then 0 else 1)<30))=true
def A3(q:X.K=K){i:Nat}(ho:PE X o (bZ i))(he:PE X e te)(P:‹attributeBase o "append" X.env (eval o X.env)=eval o X.env›)
  (g:‹At X aW [e]›)
  (Q:‹(apos.endLine==aW.line)=true›) (hs:‹AC X e []›) (z:‹(backTo aW (pq [] X.env)).any (·.1)=false›):
  PE X (.Call (.Attribute o "append" apos) [e] [] aW) (tBM K "list" pH (bZ i) (bM te fg)):=by
 subst q;exact Cz PySem.F.plainAttrs_list PySem.F.slot_list_append PySem.F.type_list_append EJ ho (bq he cM hs) P g Q hs z
def Ag{i:Nat}(he:iV K te qe):la K (qw (tBM K "list" pH (bZ i) (bM te fg))) (wk i qe):=λdl bd hs H σ q Dq D (F,r) hq E=>by
 unfold wk at hq
 split at hq
 ·rename_i xs ei;let(hz,hq):=hq;let(v,hv,rp):=r.g i _ _ ei U;let(o1,o2,o3):=r.o i _ ei;let(p,vs,G,U,Q,h1,h2):=rp.r.lst;refine(_,hv,.inl (U,vs,SqL.of h1),he dl H σ q _ _ r.rd hq λw t F' H' V r1 f1 n1 ar=>?_)
  have pn:=rp.n p (by rw[Q];exact lj)
  refine(p,vs,w,U,U,V.k p _ h1 pn nofun,by rw[h2.len];exact hz,?_)
  have hG:=λb P=>rp.n b (by rw[Q];exact jQ _ P)
  have ak:=h2.dq (V.tf r.d) (λ_ z=>z) λb P o eo=>V.k b o eo (hG b P) (.of (h2.there b P) eo)
  refine E.nx _ σ _ (r.v9 ei hv Q V (ak.append (.cons r1.r .nil)) ?_ λb P=>?_) ar
  ·rw[rD];rw[Q]at o1;refine Fs.mpr ((v3.mp o1).2,n1,λx hx y hy ay=>?_)
   subst ay;exact gx.no (h2.there x hx) (f1 x hy)
  ·obtain P|P:=n6.mp P
   ·exact .inl P
   ·rw[rD]at P;exact .inr (f1 b P,r1.n b P)
 ·exact hq.elim
def bx{i:Nat}{e9:Pos}(ho:PE X o (bZ i))(he:QPF X K e te qe)(z:‹X.K=K›)(Q:‹attributeBase o "append" X.env (eval o X.env)=eval o X.env›)
  (q:‹At X aW [e]›)
  (V:‹(apos.endLine==aW.line)=true›) (hs:‹AC X e []›) (P:‹(backTo aW (pq [] X.env)).any (·.1)=false›)
  (g:‹swapsWith (.Call (.Attribute o "append" apos) [e] [] aW) Y e9.line X.env=pure false›):
  QPS X K (.Expr (.Call (.Attribute o "append" apos) [e] [] aW) e9) (qw (tBM K "list" pH (bZ i) (bM te fg))) (wk i qe):=(wm (A3 z ho he.h Q q V hs P) g,Ag he.s)
def wj(i:Nat)(qe:QE):QS:=λD q=>match q[i]? with
 |some (.o (.l xs))=>qe q λt=>match t with
  |.l ys=>xs.length+ys.length<=pY/\D.nx (q.set i (.o (.l (xs++ys))))
  |_=>False
 |_=>False
def A2(q:X.K=K){i:Nat}(ho:PE X o (bZ i))(he:PE X e te)(P:‹attributeBase o "extend" X.env (eval o X.env)=eval o X.env›)
  (g:‹At X aW [e]›)
  (Q:‹(apos.endLine==aW.line)=true›) (hs:‹AC X e []›) (z:‹(backTo aW (pq [] X.env)).any (·.1)=false›):
  PE X (.Call (.Attribute o "extend" apos) [e] [] aW) (tBM K "list" pF (bZ i) (bM te fg)):=by
 subst q;exact Cz PySem.F.plainAttrs_list PySem.F.slot_list_extend PySem.F.type_list_extend EI ho (bq he cM hs) P g Q hs z
def Af{i:Nat}(he:iV K te qe):la K (qw (tBM K "list" pF (bZ i) (bM te fg))) (wj i qe):=λdl bd hs H σ q Dq D (F,r) hq E=>by
 unfold wj at hq
 split at hq
 ·rename_i xs ei;let(v,hv,rp):=r.g i _ _ ei U;let(o1,o2,o3):=r.o i _ ei;let(p,vs,G,U,V,h1,h2):=rp.r.lst;refine(_,hv,.inl (U,vs,SqL.of h1),he dl H σ q _ _ r.rd hq λw t F' H' e1 r1 f1 n1 Q=>?_)
  split at Q
  ·let(p2,ws,G2,U,U,h3,h4):=r1.r.lst;have pn:=rp.n p (by rw[V];exact lj)
   refine(p,p2,vs,ws,U,U,e1.k p _ h1 pn nofun,h3,by rw[h2.len,h4.len];exact Q.1,?_)
   have hG:=λb P=>rp.n b (by rw[V];exact jQ _ P)
   have ak:=h2.dq (e1.tf r.d) (λ_ z=>z) λb P o eo=>e1.k b o eo (hG b P) (.of (h2.there b P) eo)
   refine E.nx _ σ _ (r.v9 ei hv V e1 (ak.append h4) ?_ λb P=>?_) Q.2
   ·rw[V]at o1;refine Fs.mpr ((v3.mp o1).2,(v3.mp n1).2,λx hx y hy ar=>?_)
    subst ar;exact gx.no (h2.there x hx) (f1 x (jQ _ hy))
   ·obtain P|P:=n6.mp P
    ·exact .inl P
    ·exact .inr (f1 b (jQ _ P),r1.n b (jQ _ P))
  ·exact Q.elim
 ·exact hq.elim
def c8{i:Nat}{e9:Pos}(ho:PE X o (bZ i))(he:QPF X K e te qe)(z:‹X.K=K›)(Q:‹attributeBase o "extend" X.env (eval o X.env)=eval o X.env›)
  (q:‹At X aW [e]›)
  (V:‹(apos.endLine==aW.line)=true›) (hs:‹AC X e []›) (P:‹(backTo aW (pq [] X.env)).any (·.1)=false›)
  (g:‹swapsWith (.Call (.Attribute o "extend" apos) [e] [] aW) Y e9.line X.env=pure false›):
  QPS X K (.Expr (.Call (.Attribute o "extend" apos) [e] [] aW) e9) (qw (tBM K "list" pF (bZ i) (bM te fg))) (wj i qe):=(wm (A2 z ho he.h Q q V hs P) g,Af he.s)
end
variable{qo:QE}{to:TE}
section
variable{X:Cx}{K:BT}{hs:List (V×T)}{σ:St}{F:Nat->List J}{a b e o c:Ev}{ta tb tk tv:TE}{qa qb qk qv:QE}{pos apos aW:Pos}
theorem az.last:∀{ts:List T}{x:T}{vs:List V}{F:List J},az K dl H vs (ts++[x]) F->∃us w q g,vs=us++[w]/\az K dl H us ts q/\aJ K dl H w x g/\F=q++g
 |[],x,vs,F,h=>by
  cases h with
  |cons h1 h2 =>
   cases h2;exact([],_,[],_,U,.nil,h1,by simp)
 |t::ts,x,vs,F,h=>by
  cases h with
  |cons h1 h2 =>
   let(us,w,q,g,U,P,z,U):=az.last h2;exact(_::us,w,_,g,U,.cons h1 P,z,by rw[xx])
def Qn(i j:Nat):QS:=λD q=>match q[i]? with
 |some (.o (.l xs))=>∃ys x,xs=ys++[x]/\T.ims xs=O/\i≠j/\D.nx ((q.set i (.o (.l ys))).set j (.o x))
 |_=>False
def Bm{xs ys:List T}:T.ims (xs++ys)=(T.ims xs&&T.ims ys):=by
 induction xs with
 |nil=>rfl
 |cons x r g=>show(x.im&&T.ims (r++ys))=((x.im&&T.ims r)&&T.ims ys);rw[g,Bool.and_assoc]
def LD{i:Nat}:la K (ix (PF K "list" P7 (bZ i)) (fB j)) (Qn i j):=λdl bd hs H σ q Dq D (F,r) hq E=>by
 unfold Qn at hq
 split at hq
 ·rename_i xs ei;let(ys,x,U,P,ar,hq):=hq;let(v,hv,rp):=r.g i _ _ ei U;let(p,vs,G,U,eF,h1,h2):=rp.r.lst;let(us,w,F1,F2,U,r1,r2,U):=h2.last;rw[Bm,u6]at P;obtain rfl:=r1.im P.1;have hx:=by have:=P.2;simpa [T.ims]using this
  obtain rfl:=r2.im hx;refine(_,hv,.inl (U,_,SqL.of h1),p,_,w,U,U,h1,by simp,?_)
  rw[YG];let(F3,V):=r.v9 ei hv eF (.refl r.d) r1 p7 nofun
  have tf:=by
   have tf:TF H (upd H p (.lst us)):=(λa ak h=>(by
    rw[ao];exact h;intro z;subst z;rw[h]at h1;cases h1),λa ob u h=>(by
    rw[ao];exact h;intro z;subst z;rw[h]at h1;cases h1),λa φ h=>(by
    rw[ao];exact h;intro z;subst z;rw[h]at h1;cases h1),λa Q h=>(by
    by_cases z:a=p
    ·subst z;exact(_,au)
    ·exact(Q,by rw[ao z];exact h)),λa x h=>(x,WZ _,by
    rw[ao];exact h;intro z;subst z;rw[h]at h1;cases h1))
   exact r2.dq tf (λ_ z=>z) nofun
  exact E.nx _ _ _ (V.HV (.refl V.d) (.c tf) nofun p7) hq
 ·exact hq.elim
def Hs{i:Nat}(g:X.N.Nodup)(hi:X.N[j]?=Z x)(hx:Loc X.env.scope x)(ho:PE X o (bZ i))(q:‹X.K=K›)(z:‹attributeBase o "pop" X.env (eval o X.env)=eval o X.env›)(P:‹(apos.endLine==aW.line)=true›)
  (hs:‹swapsWith (.Call (.Attribute o "pop" apos) [] [] aW) (Z (.Name x pos')) pos.line X.env=pure false›) (hf:AT X x:=by first|exact .inl rfl|exact .inr rfl|assumption):
  QPS X K (.Assign [.Name x pos'] (.Call (.Attribute o "pop" apos) [] [] aW) pos) (ix (PF K "list" P7 (bZ i)) (fB j)) (Qn i j):=
 (by subst q;exact gI g hi hx (IA PySem.F.plainAttrs_list PySem.F.slot_list_pop PySem.F.type_list_pop IY ho z P) hs hf,LD)
def HH(g:Tg)(qe:QE):QS:=λD q=>qe q λt=>t.im=O/\Ex2 (λq'=>g.put t q=Z q') D.nx
def LA(he:gf K te qe):la K (ix te (g.h K)) (HH g qe):=λdl bd hs H σ q Dq D (F,r) hq E=>he dl H σ q _ _ r.rd hq λv t F' H' e1 V (Q,q',P,hz)=>by
 obtain rfl:=V.r.im Q;exact wa (r.evo e1) V (λ_ _ _ _ _ z=>nomatch z) P λak r'=>E.nx _ _ _ r' hz
def qR(he:QPE X K e te qe)(hg:PG X tg (g.h K))(hs:‹swapsWithSole [tg] e pos.line X.env=pure false›)(hw:‹swappedStores [tg] e X.env=pure none›)
  (h1:‹(assignEach [tg] X.env).map (·.2)=[assign tg X.env]›):QPS X K (.Assign [tg] e pos) (ix te (g.h K)) (HH g qe):=(wo he.h hg hs hw h1,LA he.s)
def TR(i j:Nat)(qa qb:QE):QS:=λD q=>qa q λt=>t.im=O/\qb q λu=>u.im=O/\D.nx ((q.set i (.o t)).set j (.o u))
def LF{i:Nat}(ha:gf K ta qa)(hb:gf K tb qb):la K (Px i j (bM ta (bM tb fg))) (TR i j qa qb):=λdl bd hs H σ q Dq D (F,r) hq E=>by
 refine ha dl H σ q _ _ r.rd hq λv t F1 H1 P V (m1,hq)=>hb dl H1 σ q _ _ (r.rd.evo P) hq λw u F2 H2 e2 Q g=>?_
 let(m2,hq):=g;obtain rfl:=V.r.im m1;obtain rfl:=Q.r.im m2;refine(v,w,U,?_);let(F1,R1):=r.HV (P.trans e2) (V.evo P.d e2) nofun p7
 exact E.nx _ _ _ (R1.HV (.refl R1.d) Q nofun p7) hq
def T.key:T->Option Key
 |.i x=>Z (.inl x)
 |.s x=>Z (.inr x)
 |_=>Y
theorem aJ.key{v:V}{t:T}{F:List J}{k:Key}(h:aJ K dl H v t F)(e:t.key=Z k):v=kV k:=by
 cases h <;> first|(cases e;rfl)|cases e
def cw(ks:List (Key×T))(k:Key):Option T:=(ks.find? λp=>decide (p.1=k)).map (·.2)
def jw(ks:List (Key×T))(k:Key)(t:T):List (Key×T):=if(ks.any λp=>decide (p.1=k))=O then ks.map (λp=>if p.1=k then(p.1,t)else p)else ks++[(k,t)]
def a6.look{vs:List (Key×V)}{ts:List (Key×T)}{F:List J}(k:Key)(h:a6 K dl H vs ts F):(cw ts k=Y/\cC vs k=Y)\/∃t v G,cw ts k=Z t/\cC vs k=Z v/\aJ K dl H v t G/\∀b∈G,b∈F:=
 h.ind (.inl (U,U)) λk0 v x vs ts F G h r q=>by
  by_cases e:k0=k
  ·subst e;exact .inr (_,_,_,by simp[cw],by simp[cC],h,λb g=>qp _ g)
  ·obtain⟨h1,h2⟩|⟨t,v,G,h1,h2,h3,h4⟩:=q
   ·refine .inl (?_,?_)
    ·unfold cw at h1 ⊢;rw[Pt,decide_eq_false e];exact h1
    ·unfold cC at h2 ⊢;rw[Pt,decide_eq_false e];exact h2
   ·refine .inr (t,v,G,?_,?_,h3,λb g=>qg _ (h4 b g))
    ·unfold cw at h1 ⊢;rw[Pt,decide_eq_false e];exact h1
    ·unfold cC at h2 ⊢;rw[Pt,decide_eq_false e];exact h2
mutual
def T.imk:List (Key×T)->Bool
 |[]=>O
 | (_,x)::r=>x.im&&T.imk r
end
theorem a6.im{vs:List (Key×V)}{ts:List (Key×T)}{F:List J}(h:a6 K dl H vs ts F):T.imk ts=O->F=[]:=h.ind (λ_=>rfl) (λ_ _ _ _ _ _ _ h _ g=>Bn h.im g)
def a6.keys{vs:List (Key×V)}{ts:List (Key×T)}{F:List J}(h:a6 K dl H vs ts F)(k:Key):(vs.any λp=>decide (p.1=k))=ts.any λp=>decide (p.1=k):=
 h.ind U λ_ _ _ _ _ _ _ _ _ g=>by rw[Xn,Xn,g]
def a6.put{k:Key}{w:V}{t:T}(hw:aJ K dl H w t []):∀{vs:List (Key×V)}{ts:List (Key×T)},a6 K dl H vs ts []->a6 K dl H (putK vs k w) (jw ts k t) []:=by
 have mp:∀{vs:List (Key×V)}{ts:List (Key×T)}{F:List J},a6 K dl H vs ts F->F=[]->a6 K dl H (vs.map λp=>if p.1=k then(p.1,w)else p) (ts.map λp=>if p.1=k then(p.1,t)else p) []:=by
  intro vs ts F h
  induction ts generalizing vs F with
  |nil=>intro _;cases h;exact .nil
  |cons p ts q =>
   cases h with
   |@cons k0 v x vs _ F1 F2 h1 h2 =>
    intro e;let(Q,P):=Fq.mp e;subst Q P;have z:=q h2 U;rw[x2,x2];by_cases g:k0=k
    ·rw[if_pos g,if_pos g];exact .cons hw z
    ·rw[if_neg g,if_neg g];exact .cons h1 z
 have sn:∀{vs:List (Key×V)}{ts:List (Key×T)}{F:List J},a6 K dl H vs ts F->a6 K dl H (vs++[(k,w)]) (ts++[(k,t)]) F:=by
  intro vs ts F h
  induction ts generalizing vs F with
  |nil=>cases h;exact .cons hw .nil
  |cons p ts q =>
   cases h with
   |cons h1 h2=>exact .cons h1 (q h2)
 intro vs ts h;unfold putK jw;rw[h.keys k]
 split
 ·exact mp h U
 ·exact sn h
def Rel.G7{i:Nat}{p:J}{ws:List (Key×V)}{xs ys:List (Key×T)}(r:Rel K dl bd hs H σ q F)(hi:q[i]?=Z (.o (.d xs)))(hv:σ[i]?=Z (Z (.ref p)))(e:Evo dl H H')
  (rs:a6 K dl H' ws ys []):eQ K dl bd hs (upd H' p (.dK ws)) σ (q.set i (.o (.d ys))):=by
 have r':=r.evo e;let(v',Q,rp):=r'.g i _ _ hi U;rw[hv]at Q;cases Q;let(p2,ar,G2,e2,eF,h1,h2):=rp.r.dic;cases e2;have pn:=rp.n p (by rw[eF];exact lj)
 have tf:TF H' (upd H' p (.dK ws)):=(λa us h=>(by
  rw[ao];exact h;intro z;subst z;rw[h]at h1;cases h1),λa ob u h=>(by
  rw[ao];exact h;intro z;subst z;rw[h]at h1;cases h1),λa φ h=>(by
  rw[ao];exact h;intro z;subst z;rw[h]at h1;cases h1),λa P h=>(by
  have ne:a≠p:=by
   intro z;subst z;rw[h]at h1;cases h1
  exact(P,by rw[ao ne];exact h)),λa x h=>(x,WZ _,by
  rw[ao];exact h;intro z;subst z;rw[h]at h1;cases h1))
 have ak:=rs.dq tf (λ_ z=>z) nofun
 exact(_,r'.write hi hv (by rw[eF];exact lj) (λP h=>by rw[h1]at h;cases h) (.d au ak,λb hb=>by rw[fy.mp hb];exact pn) ad λb hb=>by rw[fy.mp hb,eF];exact .inl lj)
def Qm(i:Nat)(qk qv:QE):QS:=λD q=>match q[i]? with
 |some (.o (.d xs))=>qv q λt=>qk q λu=>match u.key with
  |some k=>xs.length<pY/\T.imk xs=O/\t.im=O/\D.nx (q.set i (.o (.d (jw xs k t))))
  |none=>False
 |_=>False
def LC{i:Nat}(hk:gf K tk qk)(hv:gf K tv qv):la K (GY (bZ i) tk tv) (Qm i qk qv):=λdl bd hs H σ q Dq D (F,r) hq E=>by
 unfold Qm at hq
 split at hq
 ·rename_i xs ei;refine hv dl H σ q _ _ r.rd hq λw t F1 H1 P r1 hq=>?_
  let(v,z,rp):=(r.evo P).g i _ _ ei U;refine(v,z,hk dl H1 σ q _ _ (r.rd.evo P) hq λy u F2 H2 V r2 hq=>?_)
  split at hq
  ·rename_i k ek;let(hz,hm,ht,hq):=hq;obtain rfl:=r1.r.im ht;have Q:=rp.evo P.d V;let(p,vs,G,U,eF,h1,h2):=Q.r.dic;obtain rfl:=h2.im hm;rw[r2.r.key ek];exact(p,_,U,xD.k h1 (by rw[h2.len];exact hz),E.nx _ _ _ (r.G7 ei z (P.trans V) (a6.put (r1.evo P.d V).r h2)) hq)
  ·exact hq.elim
 ·exact hq.elim
def qS{i:Nat}(g:X.A.units+1<cLine)(ho:PE X o (bZ i))(hk:QPE X K a tk qk)(hv:QPE X K b tv qv)(hs:‹swapsWith b (Z (.Subscript o a pos')) pos.line X.env=pure false›):
  QPS X K (.Assign [.Subscript o a pos'] b pos) (GY (bZ i) tk tv) (Qm i qk qv):=(pL g ho hk.h hv.h hs,LC hk.s hv.s)
def Mg:QPF X K (.Dict [] [] pos) Gm (qC (.d [])):=(Iw,λdl H σ q Q R rd hq k=>λp hp=>k _ _ [p] _ ((Evo.refl rd.d).new hp) (.d au .nil,λb g=>by rw[fy.mp g];exact rd.d.nd0 hp) (λb g=>by rw[fy.mp g];exact hp) ad hq)
inductive P9(neg:Bool)(y:V)(x:V)(H:Hp)(Q:VK):Prop
 |mk(a o:_)(h1:x=.ref a)(h2:iu H a y o)(h3:Q (.bl (if neg then !o.isSome else o.isSome)) H)
def Rb(P:X.A.units+1<cLine):OpR X (compareOp .In) (P9 ϊ):=by
 intro gd s σ H y x u v Q I z K h;let(a,o,U,g,q):=h;cases K;exact Wo P I g z λs' V=>(.bl _,H,V,U,q)
def Ez(P:X.A.units+1<cLine):OpR X (compareOp .NotIn) (P9 O):=by
 intro gd s σ H y x u v Q I z K h;let(a,o,U,g,q):=h;cases K;exact NS P I g z λs' V=>(.bl _,H,V,U,q)
def Wu:T->Option Str
 |.s x=>Z x
 |_=>Y
abbrev txs:List T->Option (List Str):=picks Wu
theorem az.txs{vs:List V}{ts:List T}{F:List J}{bs:List Str}(h:az K dl H vs ts F)(e:L2.txs ts=Z bs):vs=bs.map V.str:=
 h.picks (λv t F a h e=>by cases t <;> first|(cases e;exact h.str.1)|cases e) e
def Ln(bs:List Str):txs (bs.map T.s)=Z bs:=by
 induction bs with
 |nil=>rfl
 |cons b r g=>show(txs (r.map T.s)).map (b :: ·)=_;rw[g];rfl
def TY(qo qe:QE):QE:=λq Q=>qo q λs=>match s with
 |.s sep=>qe q λt=>match t with
  |.l xs=>Ex4 (λys=>txs xs=Z ys) (λys=>(ys.map (·.length)).sum+ys.length*sep.length<=16777216) (λys=>(.s (Txt.join sep ys))) Q
  |_=>False
 |_=>False
def Mc(ho:QPE X K o to qo)(he:QPE X K e te qe)(hK:‹X.K=K›)(cH:‹attributeBase o "join" X.env (eval o X.env)=eval o X.env›)
  (nR:‹At X aW [e]›)
  (cG:‹(apos.endLine==aW.line)=true›) (hs:‹AC X e []›) (eO:‹(backTo aW (pq [] X.env)).any (·.1)=false›):
  QPF X K (.Call (.Attribute o "join" apos) [e] [] aW) (tBM K "str" (rJoin K) to (bM te fg)) (TY qo qe):=(by
 subst hK;exact Cz PySem.F.plainAttrs_str PySem.F.slot_str_join PySem.F.type_str_join M9 ho.h (bq he.h cM hs) cH nR cG hs eO,λdl H σ q Q R rd hq k=>ho.s dl H σ q _ _ rd hq λv t F H1 g V hq=>by
  split at hq
  ·let(U,_):=V.r.str;refine(U,he.s dl H1 σ q _ _ (rd.evo g) hq λw u F2 H2 e2 P hq=>?_)
   split at hq
   ·let(ys,hy,hz,hq):=hq;let(p,vs,G,U,eF,h1,h2):=P.r.lst;have ev:=h2.txs hy;subst ev;exact(_,p,ys,U,U,SqL.of h1,hz,k _ _ [] H2 (g.trans e2) (.c (.s _)) nofun p7 hq)
   ·exact hq.elim
  ·exact hq.elim)
def HJ(i:Nat)(qk qv:QE):QS:=λD q=>qv q λt=>match q[i]? with
 |some (.o (.l xs))=>qk q λu=>match u with
  |.i k=>∃j,ixN xs.length k=Z j/\T.ims xs=O/\t.im=O/\D.nx (q.set i (.o (.l (xs.set j t))))
  |_=>False
 |_=>False
end
def yY(vs ws:List V):Bool:=vs.length==ws.length&&(N6 vs.length).all λj=>match vs[j]?,ws[j]? with|some x,Z y=>eqV x y|_,_=>ϊ
variable{its:List B}
section
variable{X:Cx}{K:BT}
def Vals.at'{vs:List V}(r:Vals vs its)(h:j<its.toArray.size):∃v,vs[j]?=Z v/\RelV v its.toArray[j]:=by
 have hl:=r.length;have g:=(h:)
 have hv:j<vs.length:=by lia
 let(u,h1,h2):=r.get (i:=j) (x:=vs[j]) (by simp[hv])
 have:its[j]?=Z its[j]:=by simp[g]
 rw[this]at h1;cases h1;exact(vs[j],by simp[hv],(h2:))
def pQ{vs:List V}{v:V}(h:vs.all gq=O)(e:vs[j]?=Z v):gq v=true:=WU.mp h v (mu e)
inductive TB(K:BT)(x:V)(y:V)(H:Hp)(Q:VK):Prop
 |mk(p q vs ws:_)(h1:x=.ref p)(h2:y=.ref q)(h3:((SqL K H p vs/\SqL K H q ws)\/(SqT K H p vs/\SqT K H q ws)))(h4:vs.all gq=O)(h5:ws.all gq=O)(h6:Q (.bl (yY vs ws)) H)
def Ra(hu:X.A.units+1<cLine):OpR X (compareOp .Eq) (TB X.K):=by
 intro gd s σ H x y v u Q I rx ry h;let(p,q,vs,ws,U,U,hs,f1,f2,k):=h;cases rx;cases ry;obtain⟨h1,h2⟩|⟨h1,h2⟩:=hs
 ·let(its,z,p1,_):=I.list h1;let(iL,g,p2,_):=I.list h2;have l1:=z.length;have l2:=g.length;by_cases hl:its.length=iL.length
  ·refine SeqAt.eq_listAt (e:=λj=>match vs[j]?,ws[j]? with|some x,Z y=>eqV x y|_,_=>ϊ) p1.isList p2.isList (hl:) ap (λj g1 g2=>?_) (.bl _,H,I,U,?_)
   ·let(a,V,ra):=z.at' g1;let(b,P,rb):=g.at' g2;simp only[V,P];exact Bz ra rb (pQ f1 V) (pQ f2 P)
   ·have e:yY vs ws=(N6 its.toArray.size).all λj=>match vs[j]?,ws[j]? with|some x,Z y=>eqV x y|_,_=>false:=by
     unfold yY;rw[show(vs.length==ws.length)=O from by simp;lia,Bool.true_and,sQ,l1]
    rw[<- e];exact k
  ·refine SeqAt.eq_list_lengthsAt p1.isList p2.isList (hl:) ap (.bl _,H,I,U,?_)
   have e:yY vs ws=false:=by
    unfold yY;rw[show(vs.length==ws.length)=ϊ from by simp;lia,Bool.false_and]
   rw[<- e];exact k
 ·let(its,z,p1,_):=I.tuple h1;let(iL,g,p2,_):=I.tuple h2;have l1:=z.length;have l2:=g.length;refine SeqAt.eq_tupleAt (e:=λj=>match vs[j]?,ws[j]? with|some x,Z y=>eqV x y|_,_=>ϊ) (p1) (p2) ap (λj g1 g2=>?_) (.bl _,H,I,U,?_)
  ·let(a,V,ra):=z.at' g1;let(b,P,rb):=g.at' g2;simp only[V,P];exact Bz ra rb (pQ f1 V) (pQ f2 P)
  ·have e:yY vs ws=((N6 (min its.toArray.size iL.toArray.size)).all (λj=>match vs[j]?,ws[j]? with|some x,Z y=>eqV x y|_,_=>ϊ)&&its.toArray.size==iL.toArray.size):=by
    unfold yY;rw[sQ,sQ,<- l1,<- l2,Bool.and_comm];by_cases hl:vs.length=ws.length
    ·rw[hl,Nat.min_self]
    ·rw[show(vs.length==ws.length)=ϊ from by simpa using hl,YE,YE]
   rw[<- e];exact k
def eqF(xs ys:List T):Bool:=yY (xs.map T.v) (ys.map T.v)
def Ej:Q2:=λt u Q=>match t,u with
 |.l xs,.l ys=>(fls xs&&fls ys)=O/\Q (.b (eqF xs ys))
 |.t xs,.t ys=>(fls xs&&fls ys)=O/\Q (.b (eqF xs ys))
 |t,u=>qEq t u Q
def P8(K:BT):R2:=λx y H Q=>rEq x y H Q\/TB K x y H Q
def AU(g:X.A.units+1<cLine)(q:X.K=K):OpR X (compareOp .Eq) (P8 K):=by subst q;exact OA.or (Ra g)
def vS:dQ K (P8 K) Ej:=by
 intro dl H x y t u F G Q R D P q hq k;unfold Ej at hq
 split at hq
 ·let(p,vs,G1,U,U,h1,h2):=P.r.lst;let(V,g,G2,U,U,h3,h4):=q.r.lst;let(f,hq):=hq;rw[u6]at f;let(U,U):=h2.vs f.1;let(U,U):=h4.vs f.2;exact .inr (p,V,_,_,U,U,.inl (SqL.of h1,SqL.of h3),rZ f.1,rZ f.2,k _ _ [] H (.refl D) (.c (.b _)) nofun p7 hq)
 ·let(p,vs,U,h1,h2):=P.r.tup;let(V,g,U,h3,h4):=q.r.tup;let(f,hq):=hq;rw[u6]at f;let(U,U):=h2.vs f.1;let(U,U):=h4.vs f.2;exact .inr (p,V,_,_,U,U,.inr (SqT.of h1,SqT.of h3),rZ f.1,rZ f.2,k _ _ [] H (.refl D) (.c (.b _)) nofun p7 hq)
 ·exact .inl (P1 dl H x y t u F G Q R D P q hq k)
end
end L2
namespace PySem
open Sem (wp)
section
variable{prog:Da}{w:Cl}{A:Db}{E:B->ϋ->Prop}
def oU:typeLookup (.type "tuple") "keys"=pure none:=am_miss_of_fast (by decide +kernel)
def rN:typeLookup (.type "list") "keys"=pure none:=am_miss_of_fast (by decide +kernel)
set_option maxRecDepth 8000 in
theorem i7{s:ϋ}{a:J}{o:Obj}{xs:Array B}{k:Nat}{Q:Option B->ϋ->Prop}
  (hx:s.heap.get? a=Z o) (P:o.cls=.type "tuple") (K:o.data=.seq xs k) (hd:o.dict=Y) (V:A.handled=Y)
  (h:∀h' tk,(∀b o,s.heap.get? b=Z o->h'.get? b=Z o)->Q Y {s with heap:=h',toks:=tk}):
  wpAny (model prog w) A (getAttr? (.ref a) "keys") Q E s:=by
 let(c,ak,dat,sl):=o;simp only at P K hd;subst P K hd;let(hp,g,d,tk,os):=s;have hT:∀q,((hp,g,d,q,os):ϋ).TypeIs (.ref a) "tuple":=λ_=>(_,hx,U)
 have f1:=sub_AttributeError;have f3:=F.slot_tuple_getattribute.lookup;have f4:=F.slot_tuple_getattribute.bind (.ref a);have f5:=am_tuple_getattr_none;unfold getAttr? getAttrBy? getAttrBy
 repeat (any_goals (first|assumption|exact hT _|((with_reducible show wpAny _ _ (call (B.builtin "tuple.__getattribute__") _ _) _ _ _);refine call_meets F.slot_tuple_getattribute (hT _) am_entry_tuple_getattribute (F.args_tuple_getattribute_2 _ _) (meets_getattribute_miss_tuple a xs k sl "keys" _ oU (by decide +kernel) (by decide +kernel)) (hx,V,λh' q e z=>?_))|wp_step))
 let(t',u',he):=z.there;show wpAny _ _ (getattributeRaised _ _ _ _ _ _ _) _ _ _;unfold getattributeRaised
 repeat (any_goals (first|assumption|wp_step))
 exact h _ _ z.keeps
set_option maxRecDepth 8000 in
theorem jF{s:ϋ}{a:J}{o:Obj}{xs:Array B}{k:Nat}{Q:Option B->ϋ->Prop}
  (hx:s.heap.get? a=Z o) (P:o.cls=.type "list") (K:o.data=.seq xs k) (hd:o.dict=Y) (V:A.handled=Y)
  (h:∀h' tk,(∀b o,s.heap.get? b=Z o->h'.get? b=Z o)->Q Y {s with heap:=h',toks:=tk}):
  wpAny (model prog w) A (getAttr? (.ref a) "keys") Q E s:=by
 let(c,ak,dat,sl):=o;simp only at P K hd;subst P K hd;let(hp,g,d,tk,os):=s;have hT:∀q,((hp,g,d,q,os):ϋ).TypeIs (.ref a) "list":=λ_=>(_,hx,U)
 have f1:=sub_AttributeError;have f3:=F.slot_list_getattribute.lookup;have f4:=F.slot_list_getattribute.bind (.ref a);have f5:=am_list_getattr_none;unfold getAttr? getAttrBy? getAttrBy
 repeat (any_goals (first|assumption|exact hT _|((with_reducible show wpAny _ _ (call (B.builtin "list.__getattribute__") _ _) _ _ _);refine call_meets F.slot_list_getattribute (hT _) am_entry_list_getattribute (F.args_list_getattribute_2 _ _) (meets_getattribute_miss_list a xs k sl "keys" _ rN (by decide +kernel) (by decide +kernel)) (hx,V,λh' q e z=>?_))|wp_step))
 let(t',u',he):=z.there;show wpAny _ _ (getattributeRaised _ _ _ _ _ _ _) _ _ _;unfold getattributeRaised
 repeat (any_goals (first|assumption|wp_step))
 exact h _ _ z.keeps
end
end PySem
namespace PySem
open Sem (wp)
namespace F
def bP:entryFor table "dict.update.loop"=Z Builtin.«dict.update.loop»:=entryFor_of_tree (by kernel_rfl)
def aQ:plainId "dict.update.loop"=true:=by decide +kernel
end F
section
variable{prog:Da}{w:Cl}{A:Db}{R:Result->ϋ->Prop}{I:J}{fp wr:List J}{n:Nat}{P:Nat->B->Prop}{St:Nat->Do->Prop}{κ:Type}[DecidableEq κ]{knd:KeyKind prog w κ}
def tQ(kvs:List (κ×B))(k:κ)(v:B):(stored kvs k v).length<=kvs.length+1:=by
 unfold stored
 split <;> simp
def ua(kvs:List (κ×B)):∀(more:List (κ×B)),(merged kvs more).length<=kvs.length+more.length:=by
 intro more
 induction more generalizing kvs with
 |nil=>exact ot _
 |cons p r g =>
  have h1:=g (stored kvs p.1 p.2);have h2:=tQ kvs p.1 p.2;show(merged (stored kvs p.1 p.2) r).length<=_;simp only[ri]
  lia
theorem gM(W:Walks prog w A.in1 I fp wr n P St)(S:J)(aN:S ∉ fp)(res:B)(h0:Do)(kvs pairs:List (κ×B))(hsz:kvs.length+pairs.length<=pY)(a3:pairs.length=n)
  (hp:∀i v,P i v->∃(a:J)(o:Obj)(key val:B)(k:κ)(m:Nat),v=.ref a/\pairs[i]?=Z (k,val)/\knd.is k key=O/\h0.get? a=Z o/\o.cls=.type "tuple" /\ o.data=.seq #[key,val] m/\a ∉ wr/\a≠S):
  ∀(j i:Nat)(s:ϋ),n-i=j->i<=n->St i s.heap->s.heap.DictOf knd S (merged kvs (pairs.take i))->(∀b o,b ∉ wr->b≠S->h0.get? b=Z o->s.heap.get? b=Z o) ->
  (∀h' tk,(∀b o,b ∉ wr->b≠S->s.heap.get? b=Z o->h'.get? b=Z o)->h'.DictOf knd S (merged kvs pairs)->R (.ok (.ret res)) {s with heap:=h',toks:=tk}) ->
  codeAny (model prog w) A (.builtin "dict.update.loop" ([.ref S,.ref I,rawInt i,res],[])) R s:=by
 have aM:=λh=>aN (W.sub _ h)
 intro j
 induction j with
 |zero =>
  intro i s hk hi Q hS V hR;have bg:i=n:=by lia
  subst bg;refine SQ F.bP ?_;rw[Xm F.aQ _];refine fu (W.done s _ _ Q λh' tk g=>?_)
  refine fu (mX (mX (hR h' tk (λb o K _ e=>g b o K e) ?_)))
  rw[<- a3,sP]at hS;let(o,es,ep,ho,r):=hS;exact(o,es,ep,g S o aM ho,r)
 |succ j ih =>
  intro i s hk hi Q hS V hR;have ar:=Xx hk;refine SQ F.bP ?_;refine fu (W.item i s _ _ ar Q λv h' tk hP uo g=>?_)
  let(a,o,key,val,k,m,U,a0,wV,ho,hc,hd,ay,bh):=hp i v hP;have ak:=g a o ay (V a o ay bh ho);have bt:h'.DictOf knd S (merged kvs (pairs.take i)):=by
   let(o,es,ep,ho,r):=hS;exact(o,es,ep,g S o aM ho,r)
  refine fu (FH (fu (wpAny_tryCatch ?_)));refine fu (WV (o,ak,hc) ?_);refine fu (wpAny_seqItems ak hd (mX ?_));have bI:(merged kvs (pairs.take i)).length<=pY:=by
   have h1:=ua kvs (pairs.take i);rw[sR]at h1;omega
  refine FH (wpAny_dictSet_pairs wV bt λbz Bv aW=>?_)
  have e:=merged_take_succ kvs pairs i (k,val) a0;rw[<- e]at Bv;have fr:∀b o,b≠S->h'.get? b=Z o->bz.get? b=Z o:=λb o K eb=>(aW.2 b K).trans eb
  exact mX (UY F.aQ _,ih (i+1) _ (by rw[Yd,hk];rfl) ar (W.frame _ _ _ uo λb K o eb=>fr b o (λz=>aN (z▸K)) eb) Bv (λb o K q eb=>fr b o q (g b o K (V b o K q eb))) λh3 aR bb br=>(hR h3 aR (λb o K q eb=>bb b o K q (fr b o q (g b o K eb))) br))
end
end PySem
namespace PySem
open Sem (wp)
section
variable{prog:Da}{w:Cl}{A:Db}{s:ϋ}{κ:Type}[DecidableEq κ]{knd:KeyKind prog w κ}
theorem gN{S p:J}{its:Array B}{kvs pairs:List (κ×B)}{id:String}{res:B}{R:Result->ϋ->Prop}(Q:A.handled=Y)(hS:s.heap.DictOf knd S kvs)(ar:p≠S)
  (ho:∃(o:Obj)(n:Nat),s.heap.get? p=Z o/\o.dict=Y/\o.data=.seq its n/\(o.cls=.type "tuple" \/ o.cls=.type "list")) (hsz:kvs.length+pairs.length<=pY) (ay:pairs.length=its.size)
  (hp:∀(i:Nat)(v:B),its[i]?=Z v->∃(a:J)(o:Obj)(key val:B)(k:κ)(m:Nat),v=.ref a/\pairs[i]?=Z (k,val)/\knd.is k key=O/\s.heap.get? a=Z o/\o.cls=.type "tuple" /\ o.data=.seq #[key,val] m)
  (hR:∀h' tk,(∀b o,b≠S->s.heap.get? b=Z o->h'.get? b=Z o)->h'.DictOf knd S (merged kvs pairs)->R (.ok (.ret res)) {s with heap:=h',toks:=tk}):
  wpAny (model prog w) A.in1 (Builtin.Dict.updateFrom id S (.ref p) [] res) (λfin s'=>match fin with|.done f=>R (.ok f) s' |.again c'=>c'.quiet=O/\codeAny (model prog w) A c' R s') (λe s'=>R (.error e) s') s:=by
 let(o,n,hg,P,q,g):=ho;have fin:∀(h1:Do) tk h2 I St,(∀b o,s.heap.get? b=Z o->h1.get? b=Z o)->(∀b o,h1.get? b=Z o->h2.get? b=Z o)->h1.objs.size<=I->Walks prog w A.in1 I [I,p] [I] its.size (λi v=>its[i]?=Z v) St->St 0 h2 ->
   codeAny (model prog w) A (.builtin "dict.update.loop" ([.ref S,.ref I,rawInt 0,res],[])) R {s with heap:=h2,toks:=tk}:=by
  intro h1 tk h2 I St k1 k2 hI W ak;have K:∀b o,s.heap.get? b=Z o->b≠I:=λb o e z=>by
   have:=kn (k1 b o e)
   exact absurd (sS this hI) (by rw[z];exact Kt _)
  have aM:S ∉ [I,p]:=λz=>by
   let(o,_,_,e,_):=hS;obtain z|z:=pj.mp z
   ·exact K S o e z
   ·exact ar (fy.mp z).symm
  refine gM (knd:=knd) W S aM res s.heap kvs pairs hsz ay (λi v hP=>?_) its.size 0 _ U (FI _) ak ?_ (λb o _ _ e=>k2 b o (k1 b o e)) λh' V hk aN=>?_
  ·let(a,oa,key,val,k,m,e1,e2,e3,e4,e5,e6):=hp i v hP;refine(a,oa,key,val,k,m,e1,e2,e3,e4,e5,e6,λz=>K a oa e4 (fy.mp z),λz=>?_)
   let(o,_,_,e,hc,hd,_):=hS;rw[<- z,e4]at e;cases e;rw[e6]at hd;cases hd
  ·let(o,es,ep,e,r):=hS;exact(o,es,ep,k2 _ _ (k1 _ _ e),r)
  ·exact hR h' V (λb o hb e=>hk b o (λz=>K b o e (fy.mp z)) hb (k2 b o (k1 b o e))) aN
 obtain g|g:=g
 ·refine fu (WV (o,hg,g) ?_);refine fu (i7 hg g q P Q λh1 tk k1=>?_)
  refine fu (Xc ?_);have hT:h1.IsTuple p its:=(o,k1 _ _ hg,g,n,q);exact fu (wpAny_pyIter_tuple hT (mX (UY F.aQ _,(fin h1 tk _ h1.objs.size _ k1 (λb o e=>f9 _ e) (ot _) (Walks.tuple (show A.in1.handled=Y from Q) _ p (sT (kn (k1 _ _ hg))) its) ((_,px _ U,U,U),hT.push _)))))
 ·refine fu (WV (o,hg,g) ?_);refine fu (jF hg g q P Q λh1 tk k1=>?_)
  refine fu (Xc ?_);have hT:h1.IsList p its:=(o,k1 _ _ hg,g,n,q);exact fu (wpAny_pyIter_list hT (mX (UY F.aQ _,(fin h1 tk _ h1.objs.size _ k1 (λb o e=>f9 _ e) (ot _) (Walks.list (show A.in1.handled=Y from Q) _ p (sT (kn (k1 _ _ hg))) its) ((_,px _ U,U,U),hT.push _)))))
end
end PySem
namespace L2
open PySem PySem.Spec PyProof.Rows
variable{gd:List (J×Obj)}{H:Hp}{a:J}
section
variable{X:Cx}
def Inv.Pq{σ:St}{s:ϋ}{xs:List V}(I:Inv X gd σ H s)(h:H a=Z (.tup xs)):∃its:List B,Vals xs its/\lg s.heap a its.toArray/\xs.length<=pY:=by
 let(z,its,r,p):=(I.hok a _ h);exact(its,r,p,z)
def yl{σ:St}{s:ϋ}(I:Inv X gd σ H s):∀{ps:List J}{kvs:List (Key×V)}{us:List B},Vals (ps.map V.ref) us->ps.length=kvs.length->(∀(i:Nat)(p:J)(kv:Key×V),ps[i]?=Z p->kvs[i]?=Z kv->H p=Z (.tup [kV kv.1,kv.2])) ->
  ∃pairs:List (Key×B),KV kvs pairs/\∀(i:Nat)(v:B),us[i]?=Z v->∃(a:J)(o:Obj)(key val:B)(k:Key)(m:Nat),v=.ref a/\pairs[i]?=Z (k,val)/\(bf X.prog X.w).is k key=O/\s.heap.get? a=Z o/\o.cls=.type "tuple" /\ o.data=.seq #[key,val] m:=by
 intro ps
 induction ps with
 |nil =>
  intro kvs us r hl _;have e:kvs=[]:=by cases kvs with|nil=>rfl|cons _ _=>simp at hl
  subst e;cases r;exact([],.nil,λi v h=>by simp at h)
 |cons p ps ih =>
  intro kvs us r hl h;cases kvs with
  |nil=>simp at hl
  |cons kv kvs =>
   cases r with
   |@cons _ u _ us P K =>
    let(pairs,h1,h2):=ih K (hl:) λi p kv q g=>h (i+1) p kv (q:) (g:)
    have hp:=h 0 p kv ad ad
    let(its,z,(o,ho,hc,m,hd),_):=I.tuple (SqT.of hp);cases z with
    |@cons _ key _ rest k1 k2 =>
     cases k2 with
     |@cons _ val _ To k3 Q =>
      cases Q;refine((kv.1,val)::pairs,.cons (U,k3) h1,λi v hv=>?_)
      cases i with
      |zero =>
       simp at hv;subst hv
       cases(P)
       exact(p,o,key,val,kv.1,m,U,by simp,mh k1,ho,hc,hd)
      |succ i =>
       let(a,oa,V5,Pj,k,m',q,g,e3):=h2 i v (hv:)
       exact(a,oa,V5,Pj,k,m',q,(g:),e3)
inductive wb(xs:List V)(H:Hp)(Q:VK):Prop
 |mk(p:J)(ps:List J)(kvs:List (Key×V))(h1:xs=[.ref p])(h2:(H p=Z (.tup (ps.map V.ref))\/H p=Z (.lst (ps.map V.ref))))(h3:ps.length=kvs.length)(h4:(∀(i:Nat)(a:J)(kv:Key×V),ps[i]?=Z a->kvs[i]?=Z kv->H a=Z (.tup [kV kv.1,kv.2])))(h5:∀d,H d=Y->Q (.ref d) (upd H d (.dK (iK [] kvs))))
theorem cE(hc:X.calm=O):b8 X (.type "dict") wb:=by
 intro gd s σ H xs us Q I r h;let(p,ps,kvs,U,hp,hl,ak,q):=h;let(u,U,ru):=vals1 r;cases ru;have hh:=I.ok.hd hc;obtain⟨its,z,K,ob⟩:∃its:List B,Vals (ps.map V.ref) its/\(ps.map V.ref).length<=pY/\∃(o:Obj)(n:Nat),s.heap.get? p=Z o/\o.dict=Y/\o.data=.seq its.toArray n/\(o.cls=.type "tuple" \/ o.cls=.type "list"):=by
  obtain hp|hp:=hp
  ·let(its,z,((o,ho,h1,n,h2),o',P,h3),K):=I.Pq hp;rw[ho]at P;cases P;exact(its,z,K,o,n,ho,h3,h2,.inl h1)
  ·let(K,its,n,z,e):=(I.hok p _ hp);exact(its,z,K,_,n,e,U,U,.inr U)
 let(pairs,kv,rT):=yl I z hl ak;refine callType_codes (Q₁:=λobj g=>obj=.ref s.heap.objs.size/\g={s with heap:=s.heap.push {cls:=.type "dict",data:=.dict #[]}}) F.kt_called_dict (F.kt_typeCall_dict_1 _) F.entry_dict_init (kt_code_dict_new _ (U,U)) ?_
 rintro obj g ⟨rfl,rfl⟩
 have rW:(s.heap.push {cls:=.type "dict",data:=.dict #[]}).DictOf (bf X.prog X.w) s.heap.objs.size []:=Heap.DictOf.new s.heap;refine(rW.typeIs,F.args_dict_init_2 _ _,?_);refine fu ?_;refine fu (wpAny_notOrdered_dict rW.typeIs ?_);refine mX ?_;let(o,n,ho,aM,ay,aN):=ob;have ar:=z.length;rw[dN]at ar K;have aR:=kv.length;refine gN (pairs:=pairs) hh rW (sT (kn ho)) (o,n,f9 _ ho,aM,ay,aN) (by simp only[Xb];lia) (by rw[sQ];lia) (λi v hv=>?_) λh' tk hk hd=>?_
 ·let(a,oa,key,val,k,m,e1,e2,e3,e4,e5,e6):=rT i v (hv:)
  exact(a,oa,key,val,k,m,e1,e2,e3,f9 _ e4,e5,e6)
 ·refine(U,.ref s.heap.objs.size,_,I.laid (λb u e=>hk b u (sT (kn e)) (f9 _ e)) (ot _) ?_,U,q _ (I.hok.fresh (ot _)))
  refine si ?_ ?_ (KV.merge kv .nil) hd
  ·have:=eV kvs []
   simp only[Xb]at this
   lia
  ·have:=I.big
   exact beq_eq_false_iff_ne.mpr (E3 this)
end
def cv:List T->Option (List (Key×T))
 |[]=>Z []
 |.t [k,x]::r=>match k.key,cv r with
  |some k,Z r=>Z ((Prod.mk k x)::r)
  |_,_=>Y
 |_=>Y
def cZ(ks more:List (Key×T)):List (Key×T):=more.foldl (λacc p=>jw acc p.1 p.2) ks
section
variable{K:BT}{dl:Dl}
def yn{x:T}{r:List T}{g:List (Key×T)}(h:cv (x::r)=Z g):∃k y k0 q,x=.t [k,y]/\k.key=Z k0/\cv r=Z q/\g=(k0,y)::q:=by
 unfold cv at h
 split at h
 ·rename_i z;cases z
 ·rename_i k y K z;cases z
  split at h
  ·cases h;exact(_,_,_,_,U,(by assumption),(by assumption),U)
  ·cases h
 ·cases h
def az.pairs{vs:List V}{xs:List T}{F:List J}(h:az K dl H vs xs F):∀{g:List (Key×T)},F=[]->cv xs=Z g ->
  ∃(ps:List J)(kvs:List (Key×V)),vs=ps.map V.ref/\ps.length=kvs.length/\(∀(i:Nat)(a:J)(kv:Key×V),ps[i]?=Z a->kvs[i]?=Z kv->H a=Z (.tup [kV kv.1,kv.2]))/\a6 K dl H kvs g []:=
 h.ind (M:=λvs xs F=>∀{g:List (Key×T)},F=[]->cv xs=Z g ->   ∃(ps:List J)(kvs:List (Key×V)),vs=ps.map V.ref/\ps.length=kvs.length/\(∀(i:Nat)(a:J)(kv:Key×V),ps[i]?=Z a->kvs[i]?=Z kv->H a=Z (.tup [kV kv.1,kv.2]))/\a6 K dl H kvs g []) (λ{g} _ h=>by
  cases h;exact([],[],U,U,λi a kv h=>by simp at h,.nil)) λ_ _ _ _ _ _ h _ ih g e q=>by
  let(e1,e2):=Fq.mp e;let(k,y,k0,r0,U,ek,er,U):=yn q;let(ps,kvs,U,hl,ht,hk):=ih e2 er;let(a,ws,U,ha,Q):=h.tup;cases Q with
  |@cons w1 _ _ _ G1 G2 P z =>
   cases z with
   |@cons w2 _ _ _ G3 G4 h2 h3 =>
    cases h3;have e3:=P.key ek;subst e3;let(z1,z2):=Fq.mp e1;rw[rD]at z2;subst z1 z2;refine(a::ps,(k0,w2)::kvs,U,by simp[hl],λi b kv h1 h2=>?_,.cons h2 hk)
    cases i with
    |zero =>
     simp at h1 h2;subst h1 h2;exact ha
    |succ i=>exact ht i b kv (h1:) (h2:)
theorem a6.cZ{kvs':List (Key×V)}{kts':List (Key×T)}{kvs:List (Key×V)}{g:List (Key×T)}{F:List J}(h:a6 K dl H kvs g F):F=[]->∀{vs:List (Key×V)}{ts:List (Key×T)},a6 K dl H vs ts []->a6 K dl H (iK vs kvs) (L2.cZ ts g) []:=
 h.ind (λ_ _ _ h=>h) λ_ _ _ _ _ _ _ h1 _ q e _ _ h=>by
  let(P,z):=Fq.mp e;subst P;exact q z (a6.put h1 h)
def Mj:QC:=λts Q=>on1 ts λt=>match t with
 |.t xs=>T.ims xs=O/\Ex3 (λg=>cv xs=Z g) (λg=>(.d (cZ [] g))) Q
 |.l xs=>T.ims xs=O/\Ex3 (λg=>cv xs=Z g) (λg=>(.d (cZ [] g))) Q
 |_=>False
def dG:mU K wb Mj:=by
 intro dl H vs ts F Q R D r hq k;have go:∀p ws xs,vs=[.ref p]->(H p=Z (.tup ws)\/H p=Z (.lst ws))->az K dl H ws xs []->(Ex3 (λg=>cv xs=Z g) (λg=>(.d (cZ [] g))) Q)->wb vs H R:=by
  rintro p ws xs rfl hp rs ⟨g,e,hq⟩
  let(ps,kvs,U,hl,V,hk):=rs.pairs U e;refine(p,ps,kvs,U,hp,hl,V,λd hd=>?_)
  have ev:=(Evo.refl D).new (o:=.dK (iK [] kvs)) hd;have h2:=a6.cZ (kvs':=[]) (kts':=[]) hk U .nil;exact k _ _ [d] _ ev (.d au (h2.dq (ev.tf D) (λ_ z=>z) nofun),λb P=>by rw[fy.mp P];exact D.nd0 hd) (λb P=>by rw[fy.mp P];exact hd) ad hq
 replace hq:=on1.inv hq
 let(t,U,hq):=hq;cases t with
 |t xs =>
  let(v,U,q):=r.one;let(p,ws,U,h1,h2):=q.r.tup;have e:=h2.im hq.1;subst e;exact go p ws _ U (.inl h1) h2 hq.2
 |l xs =>
  let(v,U,q):=r.one;let(p,ws,G,U,_,h1,h2):=q.r.lst;have e:=h2.im hq.1;subst e;exact go p ws _ U (.inr h1) h2 hq.2
 |_=>exact hq.elim
end
variable{j:Nat}{x:Str}{py:Pos}{P:Da}{mg:Str->Option B}{base:Do}{fd:Ch}{ps:List Str}
section
variable{X:Cx}{K:BT}{a b:Ev}{ta tb:TE}{qa qb:QE}{pos:Pos}
def Qd{i:Nat}{y:Str}{q pt:Pos}{kt k2 g}(hc:X.calm=O)(hN:X.N.Nodup)(hi:X.N[i]?=Z x)(V:X.N[j]?=Z y)(z:i≠j)
  (hx:BC X x) (Q:BC X y) (ha:QPE X K a ta qa) (P:QPE X K b tb qb)
  (hw:swappedStores [.Tuple [.Name x q,.Name y py] kt pt] (.Tuple [a,b] k2 g) X.env=pure (Z [x,y]))
  (hs:‹swapsWithSole [.Tuple [.Name x q,.Name y py] kt pt] (.Tuple [a,b] k2 g) pos.line X.env=pure false›)
  (h1:‹pq [a,b] X.env=(ϊ,eval a X.env)::pq [b] X.env›) (h2:‹AC X b []›):
  QPS X K (.Assign [.Tuple [.Name x q,.Name y py] kt pt] (.Tuple [a,b] k2 g) pos) (Px i j (bM ta (bM tb fg))) (TR i j qa qb):=
 (QD hc hN hi V z hx Q (bq ha.h (bq P.h cM h2) h1) hw hs,LF ha.s P.s)
def nI:PSp:=λts Q=>on2 ts λt u=>match t with
 |.dv=>match u with|.i m=>0<m/\m<18446744073709551616/\∀r,0<=r->r<m->Q (.i r)|_=>False
 |_=>False
theorem iS{w:Cl}{K:BT}{k:Nat}{f:J}(F:bj P w K mg base CX0 k f fd ps Gv):bj P w K mg base CX0 k f fd ps (spQ K nI):=by
 refine F.imp λvs H Q E h=>?_
 let(dl,ts,Fp,Qp,D,r,h,fin):=h
 replace h:=on2.inv h
 let(t,u,U,h):=h
 split at h
 ·split at h
  ·let(v,w',F1,F2,U,r1,r2):=r.two;let(a,l,U,hm,_):=r1.r.dea;let(U,_):=r2.r.int;refine(a,l,_,U,D _ hm,h.1,h.2.1,λr H' r0 ak D' q=>fin _ _ [] H' (λb o e n _=>q b o e (n _ hm).1 (n _ hm).2,λp hp=>?_,λb x e=>(x,WZ _,by
    let(s2,n2,l2,Q2):=D _ hm;exact q b _ e (gZ e Q2.hd (λz=>nomatch z)) (gZ e Q2.hl (λz=>nomatch z)))) (.c (.i _)) nofun p7 (h.2.2 r r0 ak))
   by_cases e:p=(a,l)
   ·rw[e];exact D'
   ·let(s1,n1,l1,Q1):=D p hp;let(s2,n2,l2,Q2):=D _ hm;let(s3,n3,l3,Q3):=D';have pa:p.1≠a:=λz=>by
     have z1:=Q1.hd;have z2:=Q2.hd;rw[z]at z1;rw[z1]at z2;have z3:=by injection (Option.some.inj z2)
     have z4:=congrArg (λkv=>cC kv (.inr "left")) z3
     exact e (Prod.ext z (V.ref.inj (Option.some.inj z4)))
    have pl:=gZ Q1.hd Q2.hl (λz=>nomatch z)
    have ar:=gZ Q1.hl Q2.hd (λz=>nomatch z)
    by_cases g:p.2=l
    ·exact(s1,n1,l3,q _ _ Q1.hd pa pl,by rw[g];exact Q3.hl,Q1.s0,Q1.s1,Q1.n0,Q3.l0)
    ·exact(s1,n1,l1,q _ _ Q1.hd pa pl,q _ _ Q1.hl ar g,Q1.s0,Q1.s1,Q1.n0,Q1.l0)
  ·exact h.elim
 ·exact h.elim
end
section
variable{X:Cx}{K:BT}{a b e o:Ev}{tk tv:TE}{qk qv:QE}{pos pos':Pos}
theorem az.set{dl:Dl}{H:Hp}{w:V}{t:T}(hw:aJ K dl H w t []):∀{vs:List V}{xs:List T}{F:List J}(j:Nat),az K dl H vs xs F->F=[]->az K dl H (vs.set j w) (xs.set j t) []
 |_,_,_,_,.nil,_=>.nil
 |_,_,_,0,.cons h r,e=>by
  let(q,g):=Fq.mp e;subst q g;exact .cons hw r
 |_,_,_,j+1,.cons h r,e=>by
  let(q,g):=Fq.mp e;subst q g;exact .cons h (az.set hw j r U)
def GB{i:Nat}(hk:gf K tk qk)(hv:gf K tv qv):la K (ix tv (JI (bZ i) tk Hb)) (HJ i qk qv):=λdl bd hs H σ q Dq D (F,r) hq E=>by
 refine hv dl H σ q _ _ r.rd hq λw t F1 H1 Q r1 hq=>?_
 split at hq
 ·rename_i xs ei;let(v,P,rp):=(r.evo Q).g i _ _ ei U;refine(v,P,hk dl H1 σ q _ _ (r.rd.evo Q) hq λy u F2 H2 e2 r2 hq=>?_)
  split at hq
  ·let(j,hj,hm,ht,hq):=hq;let(U,_):=r2.r.int;obtain rfl:=r1.r.im ht;have V:=rp.evo Q.d e2;let(p,vs,G,U,eF,h1,h2):=V.r.lst;have eG:=h2.im hm;subst eG;exact(p,vs,_,j,U,U,h1,by rw[h2.len];exact hj,(E.nx _ _ _ (r.v9 ei P eF (Q.trans e2) (az.set (r1.evo Q.d e2).r j h2 U) p7 nofun) hq))
  ·exact hq.elim
 ·exact hq.elim
def Cj{i:Nat}(ho:PE X o (bZ i))(hk:QPE X K a tk qk)(hv:QPE X K b tv qv)(hs:‹swapsWithSole [.Subscript o a pos'] b pos.line X.env=pure false›)(hw:‹swappedStores [.Subscript o a pos'] b X.env=pure none›)
  (h1:‹(assignEach [.Subscript o a pos'] X.env).map (·.2)=[assign (.Subscript o a pos') X.env]›)
  (ha:∀v,assign (.Subscript o a pos') X.env v=(do
   let g <- holding [v] (eval o X.env)
   let iv <- holding [v,g] (eval a X.env)
   standAt pos'
   holding [v,g,iv] (setItem g iv v)
   release [v,g,iv] []):=by intro _;rfl):QPS X K (.Assign [.Subscript o a pos'] b pos) (ix tv (JI (bZ i) tk Hb)) (HJ i qk qv):=
 (wo hv.h (Io ho hk.h set_list ha) hs hw h1,GB hk.s hv.s)
end
section
def Lc(xs ys:List T):List T:=(xs.zip ys).map λp=>.t [p.1,p.2]
end
variable{H2:Hp}
section
variable{X:Cx}{K:BT}{e a b:Ev}{tl:TA}{ql:QA}{pos p fq p2:Pos}{dl:Dl}
def yd(ql:QA):QE:=λq Q=>ql q λts=>on2 ts λt u=>match t with|.t xs=>(match u with|.t ys=>T.ims xs=O/\T.ims ys=O/\Q (.l (Lc xs ys))|_=>False)|_=>False
def Ef{vs:List V}{xs:List T}{F:List J}(h:az K dl H2 vs xs F):F=[]->∀{ws:List V}{ys:List T}{G:List J},az K dl H2 ws ys G->G=[]->∀{ps:List J},ps.length=min vs.length ws.length ->
  (∀(j:Nat) p x y,ps[j]?=Z p->vs[j]?=Z x->ws[j]?=Z y->H2 p=Z (.tup [x,y]))->az K dl H2 (ps.map V.ref) (Lc xs ys) []:=
 h.ind (λ_ _ _ _ _ _ ps hl _=>by
   have e:=xw.mp (by rw[hl];exact Nat.zero_min _)
   subst e;exact .nil) λv x vs xs F G h _ q e ws ys G' h' e' ps hl hp=>by
  let(e1,Q):=Fq.mp e;subst e1;cases h' with
  |nil =>
   have e:=xw.mp (by rw[hl];exact Nat.min_zero _)
   subst e;exact .nil
  |cons h' g =>
   let(P,z):=Fq.mp e';subst P;cases ps with
   |nil=>simp at hl
   |cons p ps =>
    exact az.cons (.t (hp 0 p _ _ U U U) (az.cons h (az.cons h' .nil))) (q Q g z (by simp at hl;omega) λj p x y h1 h2 h3=>hp (j+1) p x y h1 h2 h3)
def xT(ha:Kq K 2 tl ql):iV K (qj K tl) (yd ql):=by
 intro dl H σ q Q R rd hq k;refine ha dl H σ q _ _ rd hq λvs ts F H1 V r1 _ g=>?_
 replace g:=on2.inv g
 let(t,u,U,g):=g
 split at g
 ·split at g
  ·let(v,w,F1,F2,U,ar,ak):=r1.two;let(l1,aM,U,h1,h2):=ar.r.tup;let(l2,ay,U,h3,h4):=ak.r.tup;let(i1,i2,g):=g;obtain rfl:=h2.im i1;obtain rfl:=h4.im i2;refine(l1,l2,aM,ay,U,SqT.of h1,SqT.of h3,λH2 L ps hL hl hn hf hk aN hp=>?_)
   have P:∀b o,H1 b=Z o->H2 b=Z o:=λb o e=>by
    rw[hk b (λz=>by rw[(hf b z).1]at e;cases e) (λz=>by rw[z,hL]at e;cases e)]
    exact e
   have ev:Evo dl H1 H2:=(λb o e _ _=>P b o e,λp hp=>(by
    let(s,n,ls,D):=V.d p hp;exact(s,n,ls,P _ _ D.hd,P _ _ D.hl,D.s0,D.s1,D.n0,D.l0)),λb x e=>(x,WZ _,P _ _ e))
   let(_,WJ,z1,b1,c1):=(ar.evo V.d ev).r.tup;cases z1;rw[P _ _ h1]at b1;cases b1;let(_,WI,z2,b2,c2):=(ak.evo V.d ev).r.tup;cases z2;rw[P _ _ h3]at b2;cases b2;exact k _ _ [L] H2 (V.trans ev) (.l aN (Ef c1 U c2 U hl hp),λb hb=>by rw[fy.mp hb];exact V.d.nd0 hL) (λb hb=>by rw[fy.mp hb];exact V.free hL) ad g
  ·exact g.elim
 ·exact g.elim
def Ay(V:X.K=K)(hg:Gl X "list")(hm:X.mg "list"=Y)(P:Gl X "zip")(z:X.mg "zip"=Y)(ha:QPA X K [a,b] tl ql)
  (hs:‹pq [a,b] X.env=[(ϊ,eval a X.env),(ϊ,eval b X.env)]›) (q:‹AD X b›)
  (g:‹pq [.Call (.Name "zip" p2) [a,b] [] fq] X.env=(ϊ,eval (.Call (.Name "zip" p2) [a,b] [] fq) X.env)::pq [] X.env›) (Q:‹X.calm=true›):
  QPF X K (.Call (.Name "list" p) [.Call (.Name "zip" p2) [a,b] [] fq] [] pos) (qj K tl) (yd ql):=(by subst V;exact AN hg hm P z ha.h hs q g Q,xT ha.s)
end
inductive qz(K:BT)(vs:List V)(H:Hp)(Q:VK)(_:XK):Prop
 |mk(a:J)(ns:List Int)(h1:vs=[.ref a])(h2:FzL K H a (ns.map V.int))(h3:ns.length<=63)(h4:∀H',Q (.bl O) H')
theorem U8{K:BT}{xs:List V}(h:N7 H)(g:SqL K H a xs):FzL K H a xs:=by
 obtain(z |⟨o,z⟩)|z:=g
 ·obtain e |⟨o,ys,e⟩:=h a
  ·rw[e]at z;cases z
  ·rw[e]at z;cases z
 ·exact .inl (o,z)
 ·exact .inr z
variable{H':Hp}
theorem FzL.same{K:BT}{xs:List V}(h:FzL K H a xs)(s:lb H H'):FzL K H' a xs:=by
 obtain⟨o,z⟩|z:=h
 ·exact .inl (o,s _ _ z)
 ·exact .inr z
variable{qual:Str}{st:EQ}{N:List Str}{n:Nat}{rest:List EQ}
theorem Fun.V2{w:Cl}{K:BT}{f:J}{k:Nat}{s1:EQ}(F:Fun K x qual st f fd)(S:aG N ["_law_script"] (aw st))(hN:N.length=n+2)(g:bQ st=s1::rest)
  (jK:∀(cdv:B)(A:Db)(outer:List Env)(s:ϋ)(H:Hp)(E:XK),cN k (A.deeper (envOfC qual (aw st) s.heap.objs.size f cdv)) ->
   ∃t1 t qs,PS (nT CX0 P w K mg base N qual (aw st) f cdv A outer s H E).nox s1 t1/\ph (nT CX0 P w K mg base N qual (aw st) f cdv A outer s H E).nox K rest t qs /\
    (∀(a:J)(ns:List Int)(D:Ends),SqL K H a (ns.map V.int)->ns.length<=63->(∀(d l:J)(H':Hp),H d=Y->H l=Y->m4 H' d l->lb H H'->D.nx ([Z (.ref a),Z (.ref d)]++uA n Y) H')->t1 D ([Z (.ref a),Y]++uA n Y) H) /\
    ∀ns:List Int,ns.length<=63->qs {nx:=λ_=>False,rt:=λt=>t=.b O} ([.r (.z ns),.r .dv]++uA n .no)):bj P w K mg base CX0 (k+1) f fd ["_law_script"] (qz K):=by
 refine F.ok S (λvs H Q E h=>?_) (λcdv A outer s H vs Q E hr h=>?_)
 ·let(a,ns,U,_):=h;rfl
 ·let(a,ns,U,hS,hlen,k):=h;let(t1,t,qs,h1,q,r1,hq):=jK cdv A outer s H E hr;rw[g];refine(_,bC h1 q.h,?_);have es:start N [V.ref a]=[Z (.ref a),Y]++uA n none:=by
   unfold start;rw[hN];rfl
  rw[es];refine r1 a ns _ hS.sq hlen λd l H' hd hl D1 sm=>?_
  have Dq:Dls [(d,l)] H':=λp hp=>by rw[fy.mp hp];exact D1
  have rp:Rps K [(d,l)] H' [.ref a,.ref d] [.z ns,.dv] ([]++([]++[])):=(.cons (.z (hS.same sm)) (.cons (.x (l:=l) (fy.mpr U)) .nil),nofun)
  have R:=nA (n:=n+2) Dq rp ad
  refine q.s [(d,l)] H' [] H' _ _ _ _ R (hq ns hlen) (λ_ _ _ _ z=>z.elim,λ_ _ _ _ z=>z.elim,λ_ _ _ _ z=>z.elim,λv t F H2 _ r' _ _ _ hz=>?_,λ_ _ _ _ _ _ _ _ _ _ _ _ z=>z.elim)
  subst hz;let(U,_):=r'.r.bl;exact k H2
variable{elts:List Ev}{pos':Pos}{tp:Bool}
section
variable{X:Cx}{K:BT}{dl:Dl}
def ia(xs:List T):List T:=xs.zipIdx.map λp=>.t [.i (p.2:Nat),p.1]
def bX{xs:List T}{i:Nat}{z:T}(h:(ia xs)[i]?=Z z):∃x,xs[i]?=Z x/\z=.t [.i (i:Nat),x]:=by
 unfold ia at h;rw[gV]at h;let(p,hp,U):=g5.mp h;rw[List.getElem?_zipIdx]at hp;let(x,hx,U):=g5.mp hp;exact(x,hx,by simp)
def a4{xs:List T}:(ia xs).length=xs.length:=by simp[ia]
def CP{xs:List T}:uz K dl (Ite K O a) (ia xs) [(.ref a,.t xs)] where
 go:=λH i D h hi=>by
  let(F,r):=h (.ref a,.t xs) ad
  let(p,vs,e,h1,h2):=r.r.tup;cases e;rw[a4]at hi;have l1:i<vs.length:=by rw[h2.len];omega
  exact(vs,vs[i],SqT.of h1,by simp[l1])
 yld:=λH i x fp v H' D h hx y=>by
  have r:=h (.ref a,.t xs) ad
  let(p,vs,e,h1,h2):=r.r.tup;cases e;let(x1,ak,U):=bX hx;let(w1,G1,ar,V,g):=h2.get ak;let(q,u1,hq,U,U,Q):=y;have e1:=Q vs (SqT.of h1);rw[ar]at e1;cases e1;have rs:Rps K dl H [.int (i),w1] [.i (i),x1] ([]++(G1++[])):=Rps.cons (.i _,nofun) (Rps.cons (V,λb P=>r.n b (g b P)) (.nil,nofun))
  refine((Evo.refl D).new hq,_,rs.tup D hq,λc P=>.inr ?_)
  rw[rD]at P;exact(_,by simp,g c P)
 stop:=λH D h=>by
  let(F,r):=h (.ref a,.t xs) ad
  let(p,vs,e,h1,h2):=r.r.tup;cases e;exact(vs,SqT.of h1,by rw[a4,h2.len];exact ot _)
variable{e a b:Ev}{te ta:TE}{qe:QE}{tl:TA}{ql:QA}{pos p:Pos}
def Ww(ql:QA):QI:=λq Q=>ql q λts=>match ts with|[.t xs]=>Q (ia xs)|_=>False
def jy{g}{ta:TA}(z:X.K=K)(hg:Gl X "enumerate")(hm:X.mg "enumerate"=Y)(q:bootBuiltins "enumerate"=Z (.type "enumerate"))(ha:PA X [a] ta)(hs:AD X a):
  PI X (.Tuple elts g pos') (.Call (.Name "enumerate" p) [a] [] pos) (rR K tp ta):=by subst z;exact MC hg hm q ha hs
def we{V}(hg:Gl X "enumerate")(hm:X.mg "enumerate"=Y)(jJ:bootBuiltins "enumerate"=Z (.type "enumerate"))(ha:QPA X K [a] tl ql)(hs:‹AD X a›)(hK:‹X.K=K›):
  QPI X K (.Tuple elts V pos') (.Call (.Name "enumerate" p) [a] [] pos) (rR K O tl) (Ww ql):=(jy hK hg hm jJ ha.h hs,λdl H σ q Q R rd hq k=>ha.s dl H σ q _ _ rd hq λvs ts F H' e1 r _ z=>by
 split at z
 ·let(v,U,P):=r.one;let(l1,g,U,h1,h2):=P.r.tup;exact(l1,U,(g,SqT.of h1),k _ _ _ H' e1 CP (λp hp=>by rw[fy.mp hp];exact(_,P)) z)
 ·exact z.elim)
def az.snoc{v:V}{t:T}(hv:aJ K dl H v t []){vs:List V}{ts:List T}{F:List J}(h:az K dl H vs ts F):F=[]->az K dl H (vs++[v]) (ts++[t]) []:=
 h.ind (λ_=>.cons hv .nil) λ_ _ _ _ _ _ h _ g e=>by
  let(z,q):=Fq.mp e;subst z;exact .cons h (g q)
def az.rev{vs:List V}{ts:List T}{F:List J}(h:az K dl H vs ts F):F=[]->az K dl H vs.reverse ts.reverse []:=
 h.ind (λ_=>.nil) λ_ _ _ _ _ _ h _ g e=>by
  let(z,q):=Fq.mp e;subst z;rw[XW,XW];exact az.snoc h (g q) U
inductive Hl(x:V)(vs:List V)(H:Hp)(Q:VK):Prop
 |mk(a p:J)(ps:List J)(kvs more:List (Key×V))(h1:x=.ref a)(h2:vs=[.ref p])(h3:H a=Z (.dK kvs))(h4:H p=Z (.lst (ps.map V.ref)))(h5:ps.length=more.length)(h6:(∀(i:Nat)(b:J)(kv:Key×V),ps[i]?=Z b->more[i]?=Z kv->H b=Z (.tup [kV kv.1,kv.2])))(h7:kvs.length+more.length<=pY)(h8:Q .non (upd H a (.dK (iK kvs more))))
def I0(hc:X.calm=O):MtR X "dict.update" Hl:=by
 intro gd s σ H x vs v us Q I rx rv h;let(a,p,ps,kvs,more,U,U,ha,hp,hl,P,hz,q):=h;cases rx;let(u,U,ru):=rv.one;cases ru;have hh:=I.ok.hd hc;let(z1,ar,ay,r1,d1):=JR I.hok ha;let(aM,its,n,g,e):=(I.hok p _ hp);let(pairs,kv,rT):=yl I g hl P;have ak:=g.length;rw[dN]at ak;have aN:=Paired.length kv;have l1:=Paired.length r1;have V:=gZ hp ha (λz=>nomatch z)
 refine call_meetsIn PySem.F.slot_dict_update d1.typeIs PySem.F.entry_dict_update (PySem.F.args_dict_update_2 _ _) (S:=λA R s'=>s'=s/\A=X.A/\R=wants (EP X gd σ Q) X.xe) (λA R s' (e1,e2,e3)=>?_) (U,U,U)
 subst e1 e2 e3;refine fu ?_;refine fu (wpAny_notOrdered_dict d1.typeIs ?_);refine mX ?_;refine gN (pairs:=pairs) hh d1 V (_,n,e,U,U,.inr U) (by lia) (by rw[sQ];lia) (λi v hv=>?_) λh' tk hk hd=>?_
 ·let(b,ob,key,val,k,m,e1,e2,e3,e4,e5,e6):=rT i v (hv:)
  exact(b,ob,key,val,k,m,e1,e2,e3,e4,e5,e6)
 ·refine(.non,_,?_,U,q);have K:=ui (eV more kvs) hz;have he:∃q,h'.get? a=Z q:=let(q,_,_,hq,_):=hd;(q,hq)
  exact I.write (by rw[ha];exact True.intro) (.inl U) (λb q hb z=>hk b q hb z) he (si K ar (KV.merge kv r1) hd)
def Qi(i:Nat)(qe:QE):QS:=λD q=>match q[i]? with
 |some (.o (.d xs))=>qe q λt=>match t with
  |.l ys=>T.imk xs=O/\T.ims ys=O/\Ex4 (λg=>cv ys=Z g) (λg=>xs.length+g.length<=pY) (λg=>(q.set i (.o (.d (cZ xs g))))) D.nx
  |_=>False
 |_=>False
variable{o:Ev}{apos aW:Pos}
def Lz{i:Nat}(he:iV K te qe):la K (qw (tBM K "dict" Hl (bZ i) (bM te fg))) (Qi i qe):=λdl bd hs H σ q Dq D (F,r) hq E=>by
 unfold Qi at hq
 split at hq
 ·rename_i xs ei;let(v,hv,rp):=r.g i _ _ ei U;let(p,vs,G,U,eF,h1,h2):=rp.r.dic;refine(_,hv,.inr (.inr (.inl (U,.inl (_,h1)))),he dl H σ q _ _ r.rd hq λw t F' H' e1 r1 f1 n1 z=>?_)
  split at z
  ·rename_i ys;let(ar,ak,aM,ek,hl,z):=z;have V:=rp.evo r.d e1;let(p',Q,G',e',aR,ay,P):=V.r.dic;cases e';obtain rfl:=P.im ar;let(p2,ws,G2,U,aN,h3,h4):=r1.r.lst;obtain rfl:=h4.im ak;let(ps,more,U,hlen,ht,hk):=h4.pairs U ek;refine(p,p2,ps,Q,more,U,U,ay,h3,hlen,ht,by rw[P.len,hk.len];exact hl,?_)
   exact E.nx _ _ _ (r.G7 ei hv e1 (a6.cZ (kvs':=[]) (kts':=[]) hk U P)) z
  ·exact z.elim
 ·exact hq.elim
def Qa{i:Nat}{e9:Pos}(z:X.calm=O)(ho:PE X o (bZ i))(he:QPF X K e te qe)(P:‹X.K=K›)(V:‹attributeBase o "update" X.env (eval o X.env)=eval o X.env›)
  (q:‹At X aW [e]›)
  (cG:‹(apos.endLine==aW.line)=true›) (hs:‹AC X e []›) (Q:‹(backTo aW (pq [] X.env)).any (·.1)=false›)
  (g:‹swapsWith (.Call (.Attribute o "update" apos) [e] [] aW) Y e9.line X.env=pure false›):
  QPS X K (.Expr (.Call (.Attribute o "update" apos) [e] [] aW) e9) (qw (tBM K "dict" Hl (bZ i) (bM te fg))) (Qi i qe):=
 (wm (by subst P;exact Cz PySem.F.plainAttrs_dict PySem.F.slot_dict_update PySem.F.type_dict_update (I0 z) ho (bq he.h cM hs) V q cG hs Q) g,Lz he.s)
end
variable{d:J}{l:J}
section
variable{X:Cx}{K:BT}{dl:Dl}{v:V}{F:List J}
def aJ.se{o:Obj}{vs:List (Key×V)}{ts:List (Key×T)}(h:aJ K dl H v (.fd o vs ts) F):∃a,v=.ref a/\F=[]/\H a=Z (.frz o (.dK vs))/\a6 K dl H vs ts []:=by cases h with|fd h r=>exact(_,rfl,rfl,h,r)
def RG:Key->T
 |.inl i=>.i i
 |.inr s=>.s s
def Jo(k:Key):aJ K dl H (kV k) (RG k) []:=by cases k with|inl i=>exact .i i|inr s=>exact .s s
theorem a6.ks:∀{vs:List (Key×V)}{ts:List (Key×T)}{F:List J},a6 K dl H vs ts F->vs.map (·.1)=ts.map (·.1)
 |_,_,_,.nil=>rfl
 |_,_,_,.cons _ r=>by rw[x2,x2,a6.ks r]
def Jr{o:Obj}{vs:List (Key×V)}{ts:List (Key×T)}:uz K dl (Itd a o vs) (ts.map λp=>RG p.1) [(.ref a,.fd o vs ts)] where
 go:=λH i D h hi=>by
  let(F,r):=h (.ref a,.fd o vs ts) ad
  let(_,e,_,h1,h2):=r.r.se;cases e;rw[dN]at hi;exact(h1,by rw[h2.len];exact hi)
 yld:=λH i x fp v H' D h hx y=>by
  have r:=h (.ref a,.fd o vs ts) ad
  let(_,e,_,h1,h2):=r.r.se;cases e;let(U,kv,ek,U):=y;rw[gV]at hx;let(p,hp,U):=g5.mp hx;have e:kv.1=p.1:=by
   have h1:(vs.map (·.1))[i]?=Z kv.1:=by rw[gV,ek];rfl
   rw[h2.ks,gV,hp]at h1;exact(Option.some.inj h1).symm
  rw[e];exact(.refl D,[],.c (Jo _),nofun)
 stop:=λH D h=>by
  let(F,r):=h (.ref a,.fd o vs ts) ad
  let(_,e,_,h1,h2):=r.r.se;cases e;exact(h1,by rw[dN,h2.len];exact ot _)
variable{tg e a:Ev}{te:TE}{qe:QE}
def Wv(qe:QE):QI:=λq Q=>qe q λt=>match t with|.fd _ _ ts=>Q (ts.map λp=>RG p.1)|_=>False
def Oo(h:QPE X K e te qe):QPI X K tg e (Jw te) (Wv qe):=(Il h.h,λdl H σ q Q R rd hq k=>h.s dl H σ q _ _ rd hq λv t F H' z r g=>by
 split at g
 ·let(p,U,U,h1,h2):=r.r.se;exact(p,_,_,U,h1,k _ _ _ H' z Jr (λp hp=>by rw[fy.mp hp];exact(_,r)) g)
 ·exact g.elim)
def m4.oth{a:J}{o:HO}(D:m4 H d l)(h1:a≠d)(h2:a≠l):m4 (upd H a o) d l:=by
 let(s,n,ls,Q):=D;exact(s,n,ls,by rw[ao h1.symm];exact Q.hd,by rw[ao h2.symm];exact Q.hl,Q.s0,Q.s1,Q.n0,Q.l0)
end
variable{C:J}
section
variable{K:BT}{dl:Dl}{v:V}{F:List J}
def aJ.exc{ns:List Str}{ts:List T}(h:aJ K dl H v (.xc C ns ts) F):∃a b vs,v=.ref a/\F=[]/\ExH H a C b (ns.zip vs)/\az K dl H vs ts []:=h.inv
theorem az.lookup{f:Str}:∀{ns:List Str}{vs:List V}{ts:List T}{F:List J}{u:T},az K dl H vs ts F->(ns.zip ts).lookup f=Z u->∃w G,(ns.zip vs).lookup f=Z w/\aJ K dl H w u G/\∀b∈G,b∈F
 |[],_,_,_,_,_,h=>by simp at h
 |_::_,_,_,_,_,.nil,h=>by simp at h
 |n::ns,_,_,_,u,.cons h1 r,h=>by
  rw[List.zip_cons_cons,wh]at h ⊢;cases e:(f==n)with
  |true =>
   rw[e]at h;cases h;exact(_,_,U,h1,λb g=>qp _ g)
  |false =>
   rw[e]at h;let(w,G,a1,a2,q):=az.lookup r h;exact(w,G,a1,a2,λb g=>qg _ (q b g))
end
def Ov(K:BT)(fn:List Str)(f:Str)(qe:QE):QE:=λq Q=>qe q λt=>match t with
 |.xc C ns ts=>∃bm ini u,b7 K fn C bm ini/\(ns.zip ts).lookup f=Z u/\Q u
 |_=>False
variable{dl:Dl}{o1:HO}{o2:HO}{u:B}
section
variable{X:Cx}{K:BT}{e:Ev}{te:TE}{qe:QE}{pos p p2:Pos}{f y:Str}{fn:List Str}{C':J}{bm bm':List B}{wQ:Option J}{k:Nat}
def GL(hf:f∈fn)(fo:FOk f)(h:gf K te qe):iV K (Gk K fn te f) (Ov K fn f qe):=by
 intro dl H σ q Q R rd hq k;refine h dl H σ q _ _ rd hq λv t F H1 e1 r1 g=>?_
 split at g
 ·let(bm,ini,u,c,l,g):=g;let(a,b,vs,U,U,ex,rs):=r1.r.exc;let(w,G,l2,P,hG):=rs.lookup l;have V:G=[]:=List.eq_nil_iff_forall_not_mem.mpr λb hb=>nomatch hG b hb
  subst V;exact(a,_,b,bm,ini,_,w,U,ex,c,hf,fo,l2,k w u [] H1 e1 (P,nofun) nofun p7 g)
 ·exact g.elim
def Mf(q:X.K=K)(hf:f∈fn)(fo:FOk f)(he:QPE X K e te qe)(g:‹attributeBase e f X.env (eval e X.env)=eval e X.env›):QPF X K (.Attribute e f pos) (Gk K fn te f) (Ov K fn f qe):=by
 subst q;exact(MI he.h g,GL hf fo he.s)
def JN(D:Dls dl H)(ha:H a=Y)(hd:H d=Y)(ne:d≠a):Evo dl H (upd (upd H d o1) a o2):=((Evo.refl D).new hd).new (by rw[ao (Ne.symm ne)];exact ha)
inductive LY(K:BT)(fn:List Str)(c:B)(xs:List V)(H:Hp)(Q:VK):Prop
 |mk(a C b fs bm ini r y:_)(h1:xs=[.ref a,y])(h2:RelV y c)(h3:ExH H a C b fs)(h4:b7 K fn C bm ini)(h5:W.kitOne K (.ref C) c=Z r)(h6:Q (.bl r) H)
def fR(h:RelV (.ref a) u):u=.ref a:=h
def zj{c:B}(hc:∀y u,RelV y u->RelV y c->u=c):b8 X (.builtin "isinstance") (LY X.K fn c):=by
 intro gd s σ H xs us Q I r h;let(a,C,b,fs,bm,ini,z,y,U,g,ex,cx,ek,q):=h;cases r with
 |cons h1 V =>
  cases V with
  |cons h2 P =>
   cases P
   cases(fR h1)
   cases hc _ _ h2 g;exact RK I ex cx ek λtk=>(.bl z,H,I.tok tk,U,q)
def Qs(K:BT)(fn:List Str)(c:B)(qe:QE):QE:=λq Q=>qe q λt=>match t with
 |.xc C _ _=>∃bm ini,b7 K fn C bm ini/\Q (.b ((B.ref C::bm).contains c))
 |_=>False
theorem Cb{c:B}{y:V}(ry:RelV y c)(hk:∀C bm ini,b7 K fn C bm ini->W.kitOne K (.ref C) c=Z ((B.ref C::bm).contains c))(h:gf K te qe):iV K (tCB (LY K fn c) (bM te (bM (tC y) fg))) (Qs K fn c qe):=by
 intro dl H σ q Q R rd hq k;refine h dl H σ q _ _ rd hq λv t F H1 e1 r1 g=>?_
 split at g
 ·let(bm,ini,P,g):=g;let(a,b,vs,U,U,ex,rs):=r1.r.exc;exact(a,_,b,_,bm,ini,_,y,U,ry,ex,P,hk _ bm ini P,k _ _ [] H1 e1 (.b _,nofun) nofun p7 g)
 ·exact g.elim
def Qf(V:X.K=K)(c':b7 K fn C' bm' wQ)(hg:Gl X "isinstance")(hm:X.mg "isinstance"=Y)(P:Gl X y)(q:X.mg y=Z (.ref C'))(h:QPE X K e te qe)(hd:autoParam (AS y) zdc._auto_1)
  (he:‹pq [e,.Name y p2] X.env=(ϊ,eval e X.env)::pq [.Name y p2] X.env›) (Q:‹pq [.Name y p2] X.env=(ϊ,eval (.Name y p2) X.env)::pq [] X.env›) (g:‹(backTo pos (pq [.Name y p2] X.env)).any (·.1)=false›):
  QPF X K (.Call (.Name "isinstance" p) [e,.Name y p2] [] pos) (tCB (LY K fn (.ref C')) (bM te (bM (tC (.ref C')) fg))) (Qs K fn (.ref C') qe):=by
 subst V;exact(gW (zj λy u h1 h2=>by
  cases y with
  |ref b=>cases(fR h1);cases(fR h2);rfl
  |non=>cases(show B.ref C'=B.none from h2)
  |bl b=>cases(show B.ref C'=B.bool b from h2)
  |int i=>let(_,z):=(show ∃t,B.ref C'=B.int i t from h2);cases z
  |str i=>let(_,z):=(show ∃t,B.ref C'=B.str i t from h2);cases z
  |flt i=>let(_,z):=(show ∃t,B.ref C'=B.float i t from h2);cases z
  |ty n=>cases(show B.ref C'=B.type n from h2)
  |byt i=>(let(_,z):=h2;cases z)) hg hm U (bq h.h (bq (rg P q hd) cM Q) he) ac ac he g,Cb (y:=.ref C') U (λC bm ini c=>CM c c') h.s)
theorem Qg{n:String}(hK:X.K=K)(hT:W.kitMeta n=O)(hg:Gl X "isinstance")(hm:X.mg "isinstance"=Y)(P:Gl X y)(q:X.mg y=Y)(hv:bootBuiltins y=Z (.type n))(h:QPE X K e te qe)(hn:autoParam (y ≠ "__name__") zdc._auto_1)(hd:autoParam (AS y) zdc._auto_1)
  (he:‹pq [e,.Name y p2] X.env=(ϊ,eval e X.env)::pq [.Name y p2] X.env›) (Q:‹pq [.Name y p2] X.env=(ϊ,eval (.Name y p2) X.env)::pq [] X.env›) (g:‹(backTo pos (pq [.Name y p2] X.env)).any (·.1)=false›):
  QPF X K (.Call (.Name "isinstance" p) [e,.Name y p2] [] pos) (tCB (LY K fn (.type n)) (bM te (bM (tC (.ty n)) fg))) (Qs K fn (.type n) qe):=by
 subst hK;exact(gW (zj λy u h1 h2=>by
  cases y with
  |ref b=>cases(fR h2)
  |non=>cases(show B.type n=B.none from h2)
  |bl b=>cases(show B.type n=B.bool b from h2)
  |int i=>let(_,z):=(show ∃t,B.type n=B.int i t from h2);cases z
  |str i=>let(_,z):=(show ∃t,B.type n=B.str i t from h2);cases z
  |flt i=>let(_,z):=(show ∃t,B.type n=B.float i t from h2);cases z
  |byt i=>(let(_,z):=h2;cases z)
  |ty m =>
   have z1:u=B.type m:=h1;have V:B.type n=B.type m:=h2;rw[z1,V]) hg hm U (bq h.h (bq (CA P q hv U hn hd) cM Q) he) ac ac he g,Cb (y:=.ty n) U (λC bm ini c=>by
    rw[Jm c hT,BU];rfl) h.s)
end
abbrev QW:=J->List Str->List T->Prop
abbrev QX:=Sq->(T->Prop)->QW->Prop
def WA(K:PySem.W.Frag)(te:(St->XK)->TE)(qx:QX):Prop:=∀(dl:Dl)(H:Hp)(σ:St)(q:Sq)(Q:T->Prop)(W:QW)(R:V->Hp->Prop)(Es:St->XK),RdR K dl H σ q->qx q Q W ->
 (∀v t F H',Evo dl H H'->Rp K dl H' v t F->(∀b∈F,H b=Y)->F.Nodup->Q t->R v H')->(∀a C ns us H',Evo dl H H'->Rp K dl H' (.ref a) (.xc C ns us) []->W C ns us->Es σ (.ref C) (Z a) H')->te Es σ H R
structure QPX(X:Cx)(K:BT)(e:Ev)(te:(St->XK)->TE)(qx:QX):Prop where
 h:∀Es,kf (CX1 X.prog X.w) X Es->PE X e (te Es)
 s:WA K te qx
abbrev QSX:=(Sq->QW)->QS
def XOk(K:PySem.W.Frag)(dl:Dl)(bd:Hp)(hs:List (V×T))(W:Sq->QW)(Es:St->XK):Prop:=∀H σ q a C ns us,eQ K dl bd hs H σ q->Rp K dl H (.ref a) (.xc C ns us) []->W q C ns us->Es σ (.ref C) (Z a) H
def Kn(K:PySem.W.Frag)(ts:(St->XK)->TS)(qs:QSX):Prop:=∀(dl:Dl)(bd:Hp)(hs:List (V×T))(H:Hp)(σ:St)(q:Sq)(Dq:dm)(D:Ends)(W:Sq->QW)(Es:St->XK),eQ K dl bd hs H σ q->qs W Dq q->BW K dl bd hs Dq D->XOk K dl bd hs W Es->ts Es D σ H
structure BR(X:Cx)(K:BT)(st:EQ)(ts:(St->XK)->TS)(qs:QSX):Prop where
 h:∀Es,kf (CX1 X.prog X.w) X Es->mV X Es->PS X st (ts Es)
 s:Kn K ts qs
structure mW(X:Cx)(K:BT)(st:List EQ)(ts:(St->XK)->TS)(qs:QSX):Prop where
 h:∀Es,kf (CX1 X.prog X.w) X Es->mV X Es->PSs X st (ts Es)
 s:Kn K ts qs
variable{bd:Hp}{q:Sq}{ini:Option J}
section
variable{X:Cx}{K:BT}{sa sb:List EQ}{e c:Ev}{es:List Ev}{pos p aW:Pos}{tx:(St->XK)->TE}{qx:QX}{tc:TT}{qc:QT}{t:TS}{qt:QS}{ts us:(St->XK)->TS}{qs qr:QSX}{tl:TA}{ql:QA}
def Ax(h:QPS X K st t qt):BR X K st (λ_=>t) (λ_=>qt):=(λ_ _ _=>h.h,λdl bd hs H σ q Dq D _ _ r hq E _=>h.s dl bd hs H σ q Dq D r hq E)
def Ci(h:ph X K rest t qt):mW X K rest (λ_=>t) (λ_=>qt):=(λ_ _ _=>h.h,λdl bd hs H σ q Dq D _ _ r hq E _=>h.s dl bd hs H σ q Dq D r hq E)
def ju(h:BR X K st ts qs):mW X K [st] ts qs:=(λEs a b=>eT (h.h Es a b),h.s)
def jY(h1:BR X K st ts qs)(h2:mW X K rest us qr):mW X K (st::rest) (λEs=>Pu (ts Es) (us Es)) (λW D q=>qs W {D with nx:=λq'=>qr W D q'} q):=
 (λEs a b=>bC (h1.h Es a b) (h2.h Es a b),λdl bd hs H σ q Dq D W Es r hq E x=>h1.s dl bd hs H σ q _ _ W Es r hq (λH σ q z g=>h2.s dl bd hs H σ q _ _ W Es z g E x,E.bk,E.ct,E.rt,E.ru) x)
def Hr(z:QPT X K c tc qc)(ha:mW X K sa ts qs)(P:mW X K sb us qr):BR X K (.If c sa sb pos) (λEs=>PB tc (ts Es) (us Es)) (λW D q=>qc q λb=>if b=O then qs W D q else qr W D q):=
 (λEs a b=>H0 z.h (ha.h Es a b) (P.h Es a b),λdl bd hs H σ q Dq D W Es (F,r) hq E x=>z.s dl H σ q _ _ r.rd hq λb H' Q g=>by
  cases b with
  |true=>exact ha.s dl bd hs H' σ q Dq D W Es (F,r.evo Q) g E x
  |false=>exact P.s dl bd hs H' σ q Dq D W Es (F,r.evo Q) g E x)
def XOk.at{hs:List (V×T)}{W:Sq->QW}{Es:St->XK}{σ:St}{F:Nat->List J}(x:XOk K dl bd hs W Es)(r:Rel K dl bd hs H σ q F):∀a C ns us H',Evo dl H H'->Rp K dl H' (.ref a) (.xc C ns us) []->W q C ns us->Es σ (.ref C) (Z a) H':=
 λa C ns us H' z g hw=>x H' σ q a C ns us (F,r.evo z) g hw
def L3{i:Nat}(Q:X.N.Nodup)(hi:X.N[i]?=Z x)(hx:Loc X.env.scope x)(he:QPX X K e tx qx)(hs:‹swapsWith e (Z (.Name x pos')) pos.line X.env=pure false›)(hf:AT X x:=by first|exact .inl rfl|exact .inr rfl|assumption):
  BR X K (.Assign [.Name x pos'] e pos) (λEs=>ix (tx Es) (fB i)) (λW D q=>qx q (λt=>D.nx (q.set i (.o t))) (W q)):=
 (λEs a _=>gI Q hi hx (he.h Es a) hs hf,λdl bd hs H σ q Dq D W Es (F,r) hq E x=>he.s dl H σ q _ _ _ Es r.rd hq (λv t F' H' V g f1 z P=>E.nx H' _ _ (r.HV V g f1 z) P) (x.at r))
variable{fa:J}{fn fsN:List Str}{bm:List B}{k:Nat}
def Vy{o o':HO}:upd (upd H a o) a o'=upd H a o':=by
 funext b
 by_cases h:b=a
 ·rw[h,au,au]
 ·rw[ao h,ao h,ao h]
def Ae(M:b7 K fn C bm ini)(h:Kq K n tl ql):Kn K (λEs=>z8 K fn Es (Aa C fsN tl)) (λW _ q=>ql q λts=>T.ims ts=O/\ts.length=fsN.length/\ts.length<=1000/\W q C fsN ts):=by
 intro dl bd hs H σ q Dq D W Es ⟨F,r⟩ hq E x;refine h dl H σ q _ _ r.rd hq λvs ts F1 H1 P g _ hz=>?_
 let(z1,z2,V,Q):=hz;have f:=g.r.im z1;subst f;have hl:=g.r.len;refine(hl.trans z2,by rw[hl];exact V,λa d ha hd ne=>(a,C,bm,ini,Z d,U,M,au,?_))
 rw[Vy];have ev:=JN (o1:=.ext (XD d (fsN.zip vs))) (o2:=.ext (XAt a C (Z d) ϊ)) P.d ha hd ne;have r2:=g.evo P.d ev;exact x.at r a C fsN ts _ (P.trans ev) (.e (.inr (d,ne,au,by rw[ao ne,au])) r2.r,nofun) Q
theorem uM(hK:X.K=K)(Q:X.calm=O)(M:b7 K fn C bm (Z fa))(z:W.isFn K (.ref fa)=O)(kp:W.keepIn K (.ref C)=O)(F:bj X.prog X.w X.K X.mg X.base CX0 k fa fd ps (xR C fsN))(hr:cN (k+1) X.A)(hg:Gl X x)(hm:X.mg x=Z (.ref C))(V:Binds X.K fd ps [])
  (ha:QPA X K (e::es) tl ql) (P:autoParam (AS x) zdc._auto_1) (he:‹AC X e es›) (g:‹AM X aW es›):
  BR X K (.Raise (Z (.Call (.Name x p) (e::es) [] aW)) Y pos) (λEs=>z8 K fn Es (Aa C fsN tl)) (λW _ q=>ql q λts=>T.ims ts=O/\ts.length=fsN.length/\ts.length<=1000/\W q C fsN ts):=by
 subst hK;exact(λEs _ b=>HZ Q b (Iq M z kp F hr hg hm V ha.h P he g),Ae M ha.s)
end
abbrev Kr:=List T->(T->Prop)->QW->Prop
inductive D4(K:BT)(ps:Kr)(vs:List V)(H:Hp)(Q:VK)(E:XK):Prop
 |mk(dl:Dl)(ts:List T)(F:List J)(Qp:T->Prop)(Wp:QW)(h1:Dls dl H)(h2:Rps K dl H vs ts F)(h3:ps ts Qp Wp)(h4:(∀v t F' H',Evo dl H H'->Rp K dl H' v t F'->(∀b∈F',H b=Y)->F'.Nodup->Qp t->Q v H'))(h5:∀a C ns us H',Evo dl H H'->Rp K dl H' (.ref a) (.xc C ns us) []->Wp C ns us->E (.ref C) (Z a) H')
section
variable{X:Cx}{K:BT}{e:Ev}{es:List Ev}{tl:TA}{ql:QA}{pos p:Pos}{k:Nat}{f:J}{prs:List Str}{ps:Kr}
theorem L0(F:bj X.prog X.w X.K X.mg X.base (CX1 X.prog X.w) k f fd prs (D4 K ps))(hr:cN k X.A)(hg:Gl X x)(hm:X.mg x=Z (.ref f))(hk:W.keepIn X.K (.ref f)=O)(hb:Binds X.K fd prs [])(ha:QPA X K (e::es) tl ql)
  (V:autoParam (AS x) zdc._auto_1) (he:‹AC X e es›) (P:‹AM X pos es›):
  QPX X K (.Call (.Name x p) (e::es) [] pos) (λEs=>Ab (D4 K ps) Es tl) (λq Q W=>ql q λts=>ps ts Q W):=
 (λEs a=>Iz F hr hg hm hk hb a ha.h V he P,λdl H σ q Q W R Es rd hq k1 k2=>ha.s dl H σ q _ _ rd hq λvs ts F H1 g r1 _ z =>
  (dl,ts,F,Q,W,g.d,r1,z,λv t F' H' e r f n z=>k1 v t F' H' (g.trans e) r (λb hb=>g.free (f b hb)) n z,λa C ns us H' e r hw=>k2 a C ns us H' (g.trans e) r hw))
end
theorem Fun.VN{w:Cl}{K:PySem.W.Frag}{f:J}{k:Nat}{V:Kr}(F:Fun K x qual st f fd)(S:aG N ps (aw st))(len:∀ts Q W,V ts Q W->ts.length=ps.length)
  (jK:∀(cdv:B)(A:Db)(outer:List Env)(s:ϋ)(H:Hp)(E:XK),cN k (A.deeper (envOfC qual (aw st) s.heap.objs.size f cdv)) ->
   ∃t qs,mW (nT (CX1 P w) P w K mg base N qual (aw st) f cdv A outer s H E) K (bQ st) t qs/\∀ts Q W,V ts Q W->qs (λ_=>W) {nx:=λ_=>Q .n,rt:=Q} (ts.map Sl.r++uA (N.length-ts.length) .no)):bj P w K mg base (CX1 P w) (k+1) f fd ps (D4 K V):=by
 have ak:ps.length<=N.length:=by have:=congrArg N9 S.pre;rw[sR]at this;omega
 refine F.okX S (λvs H Q E h=>?_) (λcdv A outer s H vs Q E hr h=>?_)
 ·let(dl,ts,F,Qp,Wp,_,r,h,_):=h;rw[r.r.len];exact len ts Qp Wp h
 ·let(dl,ts,Fp,Qp,Wp,D,r,h,fin,fix):=h;let(t,qs,hb,hq):=jK cdv A outer s H E hr;refine(t λ_=>E,hb.h _ AO As,?_)
  have hlen:=len ts Qp Wp h;have hl:=r.r.len;have z:=hq ts Qp Wp h;have R:=nA (n:=N.length) D r ap
  rw[<- hl]at z;refine hb.s dl H [] H _ _ _ _ _ _ R z (λH' σ q (F,g) hz=>?_,λ_ _ _ _ hz=>hz.elim,λ_ _ _ _ hz=>hz.elim,λv t F H' D' g f' n' fr hz=>?_,λ_ _ _ _ _ _ _ _ _ _ _ _ z=>z.elim) λH' σ q a C ns us (F,g) rp hw=>?_
  ·exact fin .non .n [] H' (g.f.evo g.d) (.n,nofun) nofun p7 hz
  ·exact fin v t F H' (fr.evo D') g f' n' hz
  ·exact fix a C ns us H' (g.f.evo g.d) rp hw
abbrev QH:=J->List Str->List T->QS
def WD(K:BT)(th:TH)(qh:QH):Prop:=∀(dl:Dl)(bd:Hp)(hs:List (V×T))(H:Hp)(σ:St)(q:Sq)(Dq:dm)(D:Ends)(a C:J)(ns:List Str)(us:List T),eQ K dl bd hs H σ q->Rp K dl H (.ref a) (.xc C ns us) []->qh C ns us Dq q->BW K dl bd hs Dq D->th a C D σ H
structure QPH(X:Cx)(K:BT)(hs:List ExceptHandler)(th:TH)(qh:QH):Prop where
 h:PH X hs th
 s:WD K th qh
def dm.go(D:dm)(i:Nat):dm:={nx:=λq=>D.nx (q.set i .no),rt:=D.rt,bk:=λq=>D.bk (q.set i .no),ct:=λq=>D.ct (q.set i .no),ru:=λq t=>D.ru (q.set i .no) t}
theorem Rel.J7{K:BT}{hs:List (V×T)}{σ:St}{F:Nat->List J}(r:Rel K dl bd hs H σ q F)(i:Nat):Rel K dl bd hs H (σ.set i Y) (q.set i .no) (oM F i []):=by
 refine(r.d,λj x t h1 h2=>?_,λj x h1 h2=>?_,λj P=>?_,λj u h1=>?_,λp hp=>?_,r.f,by simp[r.l])
 ·obtain⟨rfl,rfl,_⟩|⟨ne,h1⟩:=get_set h1
  ·cases h2
  ·let(w,h3,h4):=r.g j x t h1 h2;exact(w,by rw[N8 (λz=>ne z.symm)];exact h3,by rw[aK ne];exact h4)
 ·obtain⟨rfl,rfl,_⟩|⟨ne,h1⟩:=get_set h1
  ·rw[aY]
  ·rw[aK ne];exact r.n j x h1 h2
 ·by_cases ej:j=i
  ·rw[ej,aY]
  ·rw[aK ej];rw[SO]at P;exact r.z j P
 ·obtain⟨rfl,e,_⟩|⟨ne,h1⟩:=get_set h1
  ·cases e
  ·rw[aK ne];let(o1,o2,o3):=r.o j u h1;refine(o1,o2,λk hk b Q=>?_)
   by_cases ek:k=i
   ·rw[ek,aY];exact λz=>nomatch z
   ·rw[aK ek];exact o3 k hk b Q
 ·let(Fp,h1,h2):=r.h p hp;refine(Fp,h1,λj u P b Q z=>?_)
  obtain⟨rfl,e,_⟩|⟨ne,P⟩:=get_set P
  ·cases e
  ·rw[aK ne]at Q;exact h2 j u P b Q z
theorem eQ.clear{K:BT}{hs:List (V×T)}{σ:St}(r:eQ K dl bd hs H σ q)(i:Nat):eQ K dl bd hs H (σ.set i Y) (q.set i .no):=r.elim λ_ r=>(_,r.J7 i)
variable{hs:List ExceptHandler}{body:List EQ}
section
variable{X:Cx}{K:BT}{fn:List Str}{C':J}{bm':List B}{wQ:Option J}{n:Str}{p pos:Pos}{b0:EQ}{xQ:List EQ}{rest:List ExceptHandler}{ts:TS}{qs:QS}{tr:TH}{qr:QH}{i:Nat}
def L6:QH:=λ_ _ _ _ _=>False
def Hx:QPH X K hs JG L6:=(Im,λ_ _ _ _ _ _ _ _ _ _ _ _ _ _ h _=>h.elim)
def TL(K:BT)(fn:List Str)(C':J)(i:Nat)(qs:QS)(qr:QH):QH:=λC ns us D q=>∃bm ini,b7 K fn C bm ini/\if(B.ref C::bm).contains (.ref C')=O then qs (D.go i) (q.set i (.r (.xc C ns us)))else qr C ns us D q
def TK(hK:X.K=K)(hN:X.N.Nodup)(hi:X.N[i]?=Z n)(hk:BC X n)(hg:Gl X x)(hm:X.mg x=Z (.ref C'))(c':b7 K fn C' bm' wQ)(g:∀a,ph (X.inX a) K (b0::xQ) ts qs)(hr:QPH X K rest tr qr)(Q:autoParam (AS x) zdc._auto_1):
  QPH X K (.ExceptHandler (Z (.Name x p)) (Z n) (b0::xQ) pos::rest) (hAs K fn C' i ts tr) (TL K fn C' i qs qr):=by
 subst hK;refine(Uk hN hi hk hg hm c' (λa=>(g a).h) hr.h Q,λdl bd hs H σ q Dq D a C ns us r V hq E=>?_)
 let(bm,ini,c,hq):=hq;refine(bm,ini,c,λz=>?_,λz=>?_)
 ·rw[if_pos z]at hq;have r2:eQ X.K dl bd hs H (σ.set i (Z (.ref a))) (q.set i (.r (.xc C ns us))):=by
   let(F,r):=r;by_cases P:i<q.length
   ·exact(_,r.Mp P V λ_ _ _ _ _ _ z=>nomatch z)
   ·have hl:=r.l;rw[Xo ap,Xo ap]
    exact(F,r)
  exact(g a).s dl bd hs H _ _ (Dq.go i) (D.go i) r2 hq (λH σ q r h=>E.nx H _ _ (r.clear i) h,λH σ q r h=>E.bk H _ _ (r.clear i) h,λH σ q r h=>E.ct H _ _ (r.clear i) h,E.rt,λH σ q F0 v t F r h1 h2 h3 h4 h=>E.ru H _ _ _ v t F (r.J7 i) h1 h2 h3 (λj b hb z=>by unfold oM at z;split at z;cases z;exact h4 j b hb z) h)
 ·rw[if_neg (by rw[z];decide)]at hq;exact hr.s dl bd hs H σ q Dq D a C ns us r V hq E
def Qb{h0:ExceptHandler}{th:TH}{qh:QH}{tb:(St->XK)->TS}{qb:QSX}(P:∀pn xe,mW (X.oK pn xe) K body tb qb)(z:QPH X K (h0::hs) th qh)(g:‹X.stack=X.env::X.outer›)(hf:‹X.env.frame=Z X.env.locals›):
  QPS X K (.Try body (h0::hs) [] [] pos) (Te th tb) (λD q=>qb (λq' C ns us=>qh C ns us D q') D q):=
 (Qz g hf (λEs pn xe a b=>(P pn xe).h Es a b) z.h,λdl bd hs H σ q Dq D r hq E=>(P [] λ_ _=>False).s dl bd hs H σ q Dq D _ _ r hq E λH σ q a C ns us r Q hw=>(a,C,U,U,z.s dl bd hs H σ q Dq D a C ns us r Q hw E))
end
section
variable{X:Cx}{K:BT}{a b:Ev}{ta tb:TE}{qa qb:QE}{pos:Pos}
def VJ(qa qb:QE):QE:=λq Q=>qa q λt=>qb q λu=>match t,u with
 |.l xs,.i k=>Ex2 (λx=>atI xs k=Z x) Q
 |_,_=>False
def iH(ha:QPF X K a ta qa)(hb:QPE X K b tb qb)(hs:ke b:=by intro _ _;rfl)(hK:‹X.K=K›):QPF X K (.Subscript a b pos) (tOp (rIx K) ta tb) (VJ qa qb):=by
 refine(by subst hK;exact uQ Bh ha.h hb.h hs,λdl H σ q Q R rd hq k=>(ha.s dl H σ q _ _ rd hq λv t F H1 e1 P f1 n1 V=>(hb.s dl H1 σ q _ _ (rd.evo e1) V λw u G H2 e2 r2 g=>?_)))
 have P:=P.evo e1.d e2
 split at g
 ·let(U,U):=r2.r.int;let(p,vs,G,U,U,h1,h2):=P.r.lst;let(z,hz,hq):=g;let(j,hj,hi):=mS hz h2.len.symm;let(v,G',hv,rv,hs):=h2.U7 hj;have sub:∀c∈G',c∈p::G:=λc hc=>jQ _ (hs.subset hc)
  exact .inl (p,vs,_,v,U,U,SqL.of h1,sL hi hv,k v z G' H2 (e1.trans e2) (Rp.sub rv P.n sub) (λc hc=>f1 c (sub c hc)) ((v3.mp n1).2.sublist hs) hq)
 ·exact g.elim
end
variable{p1:Pos}{p2:Pos}{fq:Pos}
section
variable{X:Cx}{K:BT}{a e:Ev}{te:TE}{qe:QE}{tl:TA}{ql:QA}{pos p:Pos}
def Vq(ql:QA):QJ:=λq Q=>ql q λts=>match ts with|[.t xs]=>T.ims xs=O/\Q (ia xs) q|_=>False
def pJ{x1}(hg:Gl X "enumerate")(hm:X.mg "enumerate"=Y)(jJ:bootBuiltins "enumerate"=Z (.type "enumerate"))(ha:QPA X K [a] tl ql)(hs:‹AD X a›)(hK:‹X.K=K›):
  QPJ X K (.Tuple elts x1 pos') (.Call (.Name "enumerate" p) [a] [] pos) (rR K O tl) (Vq ql):=(jy hK hg hm jJ ha.h hs,λdl bd hs H σ q Q R (F0,r0) hq k=>ha.s dl H σ q _ _ r0.rd hq λvs ts F H' e1 r _ g=>by
 split at g
 ·let(i1,g):=g;let(v,U,V):=r.one;obtain rfl:=V.r.im i1;have q1:=(r0.evo e1).hold V λj u hj b hb z=>nomatch z
  let(l1,P,U,h1,h2):=V.r.tup;exact(l1,U,(P,SqT.of h1),k _ _ _ H' q (F0,q1) CP g)
 ·exact g.elim)
def Qq(qe:QE):QE:=λq Q=>qe q λt=>match t with|.l xs=>T.ims xs=O/\Q (.l xs.reverse)|_=>False
def yk(hK:X.K=K)(hc:X.calm=O)(V:Gl X "list")(P:X.mg "list"=Y)(Q:Gl X "reversed")(z:X.mg "reversed"=Y)(he:PE X e te)
  (q:AD X e) (g:pq [.Call (.Name "reversed" p2) [e] [] fq] X.env=[(ϊ,eval (.Call (.Name "reversed" p2) [e] [] fq) X.env)]):
  PE X (.Call (.Name "list" p1) [.Call (.Name "reversed" p2) [e] [] fq] [] pos) (qm K te):=by subst hK;exact q9 hc V P Q z he q g
def yb{p1 p2 fq:Pos}(hc:X.calm=O)(aM:Gl X "list")(ar:X.mg "list"=Y)(ay:Gl X "reversed")(ak:X.mg "reversed"=Y)(he:QPE X K e te qe)
  (V:‹AD X e›) (P:‹pq [.Call (.Name "reversed" p2) [e] [] fq] X.env=[(ϊ,eval (.Call (.Name "reversed" p2) [e] [] fq) X.env)]›) (hK:‹X.K=K›):
  QPF X K (.Call (.Name "list" p1) [.Call (.Name "reversed" p2) [e] [] fq] [] pos) (qm K te) (Qq qe):=
 (yk hK hc aM ar ay ak he.h V P,λdl H σ q Q R rd hq k=>he.s dl H σ q _ _ rd hq λv t F H1 e1 r g=>by
  split at g
  ·let(i1,g):=g;let(l,vs,G,U,U,h1,h2):=r.r.lst;obtain rfl:=h2.im i1;refine(l,vs,U,SqL.of h1,λp hp=>?_)
   have rs:Rps K dl H1 vs.reverse _ []:=(h2.rev U,nofun)
   exact k _ _ [p] _ (e1.new hp) (rs.lst e1.d hp) (λb hb=>by rw[fy.mp hb];exact e1.free hp) ad g
  ·exact g.elim)
end
variable{A:Db}
section
def Jx{k:Nat}(hr:cN k A):A.units+150<cLine:=by have:=hr.un;lia
end
def qD1(qk qv:QE):QE:=λq Q=>qk q λt=>qv q λu=>match t.key with
 |some k=>u.fl=O/\Q (.d [(k,u)])
 |none=>False
section
variable{X:Cx}{K:BT}{ek ev:Ev}{tk tv:TE}{qk qv:QE}{pos:Pos}
def TF.dict{p:J}{kv kw:List (Key×V)}(hp:H p=Z (.dK kv)):TF H (upd H p (.dK kw)):=
 have ne:∀{a:J}{o:HO},H a=Z o->(∀kv,o ≠ .dK kv)->a≠p:=λh n e=>by rw[e,hp]at h;exact n _ (Option.some.inj h).symm
 (λa vs h=>by rw[ao (ne h nofun)];exact h,λa o u h=>by rw[ao (ne h nofun)];exact h,λa φ h=>by rw[ao (ne h nofun)];exact h,λa xs h=>(xs,by rw[ao (ne h nofun)];exact h),λa x h=>(x,WZ _,by rw[ao (ne h nofun)];exact h))
def HE(hk:QPE X K ek tk qk)(hv:QPE X K ev tv qv):QPF X K (.Dict [Z ek] [ev] pos) (Oi [(tk,tv)]) (qD1 qk qv):=by
 refine(Cv (lQ hk.h hv.h Cu) U U ad (by show 1<=15;decide),λdl H σ q Q R rd hq k=>λp hp=>?_)
 have e0:=(Evo.refl rd.d).new (o:=.dK []) hp;have nd:Nd dl p:=rd.d.nd0 hp;refine hk.s dl _ σ q _ _ (rd.evo e0) hq λv t F H1 e1 r1 ay=>?_
 refine hv.s dl H1 σ q _ _ ((rd.evo e0).evo e1) ay λw u G H2 e2 r2 g=>?_
 split at g
 ·rename_i kk aR;let(aM,g):=g;let(U,U):=r2.r.v aM;have aN:=r1.r.key aR;have ak:H2 p=Z (.dK []):=e2.k p _ (e1.k p _ au nd nofun) nd nofun
  have tf:=TF.dict (kw:=[(kk,u.v)]) ak;refine(ak,[(kk,u.v)],by rw[aN];rfl,(by show 1<=15;decide),?_)
  have e3:Evo dl H (upd H2 p (.dK [(kk,u.v)])):=by
   refine(λb o V hn nr=>?_,λd hd=>?_,λb x V=>?_)
   ·have P:b≠p:=λz=>by rw[z,hp]at V;cases V
    rw[ao P];exact e2.k b o (e1.k b o (by rw[ao P];exact V) hn nr) hn nr
   ·let(s0,n0,ar,D0):=e2.d d hd;have n1:=(nd d hd).1;have n2:=(nd d hd).2;exact(s0,n0,ar,{D0 with hd:=by rw[ao n1.symm];exact D0.hd,hl:=by rw[ao n2.symm];exact D0.hl})
   ·have P:b≠p:=λz=>by rw[z,hp]at V;cases V
    let(y,hy,e4):=(e1.trans e2).r b x (by rw[ao P];exact V)
    exact(y,hy,by rw[ao P];exact e4)
  exact k _ _ [p] _ e3 (.d au (.cons (F:=[]) (G:=[]) (r2.r.dq tf (λ_ z=>z) bO) .nil),λb V=>by rw[fy.mp V];exact nd) (λb V=>by rw[fy.mp V];exact hp) ad g
 ·exact g.elim
end
section
variable{X:Cx}{σ:St}{s:ϋ}{x:Int}
def Inv.OB(I:Inv X gd σ H s){u:HO}(ha:H a=Z u)(g:∀o v,u ≠ .frz o v):∀o v,X.bd a≠Z (.frz o v):=λo v e=>by
 have:=I.base.jl a o v e
 rw[ha]at this;exact g o v (Option.some.inj this)
def Inv.Gd(I:Inv X gd σ H s)(ha:H a=Z (.lst [.int x])):Inv X gd σ (upd H a (.room x)) s:=by
 let(_,its,n,r,e):=(I.hok a _ ha);exact I.Cf ha nofun nofun nofun (I.OB ha (λ_ _ z=>nomatch z)) (its,n,r,e)
def Inv.Rh(I:Inv X gd σ H s)(ha:H a=Z (.room x)):Inv X gd σ (upd H a (.lst [.int x])) s:=by
 let(its,n,r,e):=(I.hok a _ ha);exact I.Cf ha nofun nofun nofun (I.OB ha (λ_ _ z=>nomatch z)) (by show 1<=pY;decide,its,n,r,e)
end
variable{p3:Pos}
section
variable{X:Cx}{K:BT}{a b e o:Ev}{ta tb te:TE}{qa qb qe:QE}{pos:Pos}
inductive Hh(x:V)(y:V)(H:Hp)(Q:VK):Prop
 |mk(p r:_)(h1:x=.ref p)(h2:y=.int 0)(h3:H p=Z (.room r))(h4:Q (.int r) H)
def CN:IxR X Hh:=by
 intro value slice gd s σ H x y v u Q I K z h hs;let(p,m,U,U,hq,q):=h;cases K;let(t,U):=z;let(its,n,r,e):=(I.hok p _ hq);have P:PlainL s.heap p its.toArray:=(_,n,e,U,U,U);let(w,ew,g):=r.get (show [V.int m][0]?=Z (.int m)from U);have fin:EP X gd σ Q w s:=(.int m,H,I,g,q);exact item_listR P.isList (WZ 0) ac (ew:) fin hs
inductive Ha(o:V)(i:V)(v:V)(H:Hp)(Q:(Hp->Prop)):Prop
 |mk(p x y:_)(h1:o=.ref p)(h2:i=.int 0)(h3:v=.int y)(h4:H p=Z (.room x))(h5:Q (upd H p (.room y)))
def GV:SI X Ha:=by
 intro gd s σ H o i v ov iv u Q I P V K h;let(p,x,y,U,U,U,hp,q):=h;have I1:=I.Rh hp;refine thn (set_list gd s σ _ (.ref p) (.int 0) (.int y) ov iv u (λH'=>H'=upd H p (.lst [.int y])) I1 P V K (p,[.int x],0,0,U,U,au,U,by rw[gh];rfl)) λ_ s' z=>?_
 let(H',I',z):=z;subst z;have g:=I'.Gd au;rw[gh]at g;exact(_,g,q)
def Ob(te:TE):TE:=λσ H Q=>te σ H λv H1=>∃a x,v=.ref a/\H1 a=Z (.lst [.int x])/\Q v (upd H1 a (.room x))
def ME(he:PE X e te):PE X e (Ob te):=by
 left;refine thn (he gd s σ H _ I h) λu s' g=>?_
 let(v,H',K,r,a,x,P,z,q):=g;exact(v,_,K.Gd z,r,q)
def Evo.fresh{a:J}{o:HO}(e:Evo dl H H')(ha:H a=Y)(nd:Nd dl a):Evo dl H (upd H' a o):=
 (λb u h n r=>by rw[ao (aO h ha)];exact e.k b u h n r,λp hp=>(e.d p hp).oth (nd p hp).1 (nd p hp).2,λb x h=>let(y,g,q):=e.r b x h;(y,g,by rw[ao (aO h ha)];exact q))
def TQ(qe:QE):QE:=λq Q=>qe q λt=>match t with
 |.l [.i x]=>Q (.rm x)
 |_=>False
def L8(he:QPF X K e te qe):QPF X K e (Ob te) (TQ qe):=(ME he.h,λdl H σ q Q R rd hq k=>he.s dl H σ q _ _ rd hq λv t F H1 V P f1 n1 g=>by
 split at g
 ·rename_i x;let(p,vs,G,U,U,h1,h2):=P.r.lst;cases h2 with
  |cons h3 h4 =>
   cases h4;let(U,U):=h3.int;exact(p,x,U,h1,k _ (.rm x) [] _ (V.fresh (f1 p lj) (P.n p lj)) (.rm au (WZ _),nofun) nofun p7 g)
 ·exact g.elim)
def Qr:Q2:=λt u Q=>match t,u with
 |.rm m,.i k=>k=0/\∀r,r<=m->Q (.i r)
 |_,_=>False
def LJ:Ko K Hh Qr:=by
 intro dl H x y t u F G Q R D q g hq k;unfold Qr at hq
 split at hq
 ·let(p,m,U,h1,h2,_):=q.r.roo;let(U,_):=g.r.int;let(U,hq):=hq;exact(p,m,U,U,h1,k _ (.i m) [] H (.refl D) (.i m,nofun) (hq m h2))
 ·exact hq.elim
def L9(ha:QPE X K a ta qa)(g:QPE X K b tb qb)(hs:ke b:=by intro _ _;rfl):QPE X K (.Subscript a b pos) (tOp Hh ta tb) (qOp Qr qa qb):=(uQ CN ha.h g.h hs,vQ LJ ha.s g.s)
def AB(i:Nat)(qe:QE):QS:=λD q=>match q[i]? with
 |some x=>match x.get with
  |some (.rm u)=>qe q λt=>match t with
   |.i k=>0<=k/\D.nx (q.set i (.r (.rm (u-k))))
   |_=>False
  |_=>False
 |none=>False
def Om:R2:=rI0 λi j=>.int (i-j)
def GU{α:Type}{xs:List α}{i:Nat}{x:α}(h:xs[i]?=Z x):xs.set i x=xs:=by
 let(hl,e):=iY.mp h;subst e;exact List.set_getElem_self hl
def D9{i:Nat}(he:gf K te qe):la K (ix (tOp Om (tOp Hh (bZ i) (tC (.int 0))) te) (JI (bZ i) (tC (.int 0)) Ha)) (AB i qe):=λdl bd hs H σ q Dq D (F,r) hq E=>by
 unfold AB at hq
 split at hq
 ·rename_i x ex
  split at hq
  ·rename_i u eg;let(v,hv,rp):=r.g i x _ ex eg;let(p,m,U,h1,h2,hF):=rp.r.roo;refine(_,hv,p,m,U,U,h1,he dl H σ q _ _ r.rd hq λw t F1 H1 V r1 Q=>?_)
   split at Q
   ·rename_i k;let(hk,Q):=Q;let(U,_):=r1.r.int;let(y,hy,e2):=V.r p m h1;have nd:=r.d.nd h1 nofun nofun
    refine(m,k,U,U,_,hv,p,y,m-k,U,U,U,e2,?_);have ev:Evo dl H (upd H1 p (.room (m-k))):=by
     refine(λb o P n nr=>?_,λd hd=>(V.d d hd).oth (nd d hd).1 (nd d hd).2,λb z P=>?_)
     ·have ne:b≠p:=λz=>by rw[z,h1]at P;exact nr _ (Option.some.inj P).symm
      rw[ao ne];exact V.k b o P n nr
     ·by_cases eb:b=p
      ·subst eb;rw[h1]at P;cases P;exact(_,Int.sub_le_self _ hk,au)
      ·let(z',ak,e3):=V.r b z P;exact(z',ak,by rw[ao eb];exact e3)
    have R2:=(r.evo ev).Mp (t:=.rm (u-k)) (iY.mp ex).1 (.rm au (by lia),nofun) (λ_ _ _ _ _ _=>xy)
    rw[GU hv]at R2;exact E.nx _ _ _ (_,R2) Q
   ·exact Q.elim
  ·exact hq.elim
 ·exact hq.elim
def x8{i:Nat}{p4 P z q:Pos}{j1 j2:Nat}(ho:PE X (.Name x p1) (bZ i))(Q:PE X (.Name x p3) (bZ i))(he:QPE X K e te qe)
  (hs:‹swapsWithSole [.Subscript (.Name x p1) (.Constant (.int 0) j1 p4) pos'] (.BinOp (.Subscript (.Name x p3) (.Constant (.int 0) j2 P) z) .Sub e q) pos.line X.env=pure false›) (hw:‹swappedStores [.Subscript (.Name x p1) (.Constant (.int 0) j1 p4) pos'] (.BinOp (.Subscript (.Name x p3) (.Constant (.int 0) j2 P) z) .Sub e q) X.env=pure none›)
  (h1:‹(assignEach [.Subscript (.Name x p1) (.Constant (.int 0) j1 p4) pos'] X.env).map (·.2)=[assign (.Subscript (.Name x p1) (.Constant (.int 0) j1 p4) pos') X.env]›)
  (ha:∀v,assign (.Subscript (.Name x p1) (.Constant (.int 0) j1 p4) pos') X.env v=(do
   let g <- holding [v] (eval (.Name x p1) X.env)
   let iv <- holding [v,g] (eval (.Constant (.int 0) j1 p4) X.env)
   standAt pos'
   holding [v,g,iv] (setItem g iv v)
   release [v,g,iv] []):=by intro _;rfl):
  QPS X K (.Assign [.Subscript (.Name x p1) (.Constant (.int 0) j1 p4) pos'] (.BinOp (.Subscript (.Name x p3) (.Constant (.int 0) j2 P) z) .Sub e q) pos) (ix (tOp Om (tOp Hh (bZ i) (tC (.int 0))) te) (JI (bZ i) (tC (.int 0)) Ha)) (AB i qe):=
 (wo (cP AQ (uQ CN Q bF (λ_ _=>rfl)) he.h) (Io ho bF GV ha) hs hw h1,D9 he.s)
end
def T.dof:T->Option (List (Key×T))
 |.d ks=>Z ks
 |.fd _ _ ks=>Z ks
 |.dp _ ks=>Z ks
 |_=>Y
variable{kvs:List (Key×V)}{td:TE}
section
variable{X:Cx}{K:BT}{v:V}{F:List J}{a b c e:Ev}{ta tb tk tx te:TE}{qa qb qk qx qe:QE}{pos apos aW:Pos}
theorem aJ.dof{t:T}{ks:List (Key×T)}(h:aJ K dl H v t F)(e:t.dof=Z ks):∃a vs G,v=.ref a/\Rd H a (.dK vs)/\a6 K dl H vs ks G/\∀b∈G,b∈F:=by
 cases t with
 |d g =>
  cases e;let(a,vs,G,U,U,h1,h2):=h.dic;exact(a,vs,G,U,.inl h1,h2,λ_ q=>jQ _ q)
 |fd o vs g =>
  cases e;let(a,U,U,h1,h2):=h.se;exact(a,vs,[],U,.inr (_,h1),h2,λ_ q=>q)
 |dp a g =>
  cases e;let(vs,G,U,U,h1,h2):=h.dpp;exact(a,vs,G,U,.inl h1,h2,λ_ q=>jQ _ q)
 |_=>cases e
def iu.rd{a:J}{k:Key}(e:Rd H a (.dK kvs)):iu H a (kV k) (cC kvs k):=.inl (kvs,k,e,U,U)
def Ow(neg:Bool):Q2:=λt u Q=>match u.dof with
 |some ks=>match t.key with
  |some k=>Q (.b (if neg then !(cw ks k).isSome else(cw ks k).isSome))
  |none=>False
 |none=>False
def xU{neg:Bool}:dQ K (P9 neg) (Ow neg):=by
 intro dl H x y t u F G Q R D r1 V hq k;unfold Ow at hq
 split at hq
 ·rename_i ks P
  split at hq
  ·rename_i k0 ek;let(p,vs,G,U,h1,h2,_):=V.r.dof P;rw[r1.r.key ek];refine(p,_,U,iu.rd h1,k _ _ [] H (.refl D) (.c (.b _)) nofun p7 ?_)
   have e:(cC vs k0).isSome=(cw ks k0).isSome:=by
    obtain⟨q,g⟩|⟨_,_,_,q,g,_⟩:=h2.look k0
    ·rw[q,g];rfl
    ·rw[q,g];rfl
   rw[e];exact hq
  ·exact hq.elim
 ·exact hq.elim
def gj:Q2:=λt u Q=>match t.dof with
 |some ks=>match u.key with
  |some k=>Ex2 (λx=>cw ks k=Z x) Q
  |none=>False
 |none=>False
inductive Hi(x:V)(y:V)(H:Hp)(Q:VK):Prop
 |mk(a kvs k v:_)(h1:x=.ref a)(h2:y=kV k)(h3:Rd H a (.dK kvs))(h4:cC kvs k=Z v)(h5:Q v H)
def Jp:IxR X Hi:=by
 intro value slice gd s σ H x y v u Q I P K h hs;let(a,kvs,k,w,U,U,ha,hv,q):=h;cases P;let(z,hd,vs,rel,dd):=i9 I.hok ha;let(V,hw,g):=iW.some_of (by rw[<- hv];exact rel.val k)
 exact subscriptTail_builtinR dd.typeIs PySem.F.slot_dict_getitem.lookup (wpAny_getItem_of (mh K) dd.mapOf hw (U,w,H,I.tok _,g,q)) hs
def GH:Ko K Hi gj:=by
 intro dl H x y t u F G Q R D r1 r2 hq k;unfold gj at hq
 split at hq
 ·rename_i ks P
  split at hq
  ·rename_i k0 ek;let(z,g,hq):=hq;let(p,vs,G,U,h1,h2,sub):=r1.r.dof P;rw[r2.r.key ek];obtain⟨q,V⟩|⟨t',v,G',q,V,z3,z4⟩:=h2.look k0
   ·rw[q]at g;cases g
   ·rw[q]at g;cases g;exact(p,vs,k0,v,U,U,h1,V,k v _ G' H (.refl D) (Rp.sub z3 r1.n λb hb=>sub b (z4 b hb)) hq)
  ·exact hq.elim
 ·exact hq.elim
def cO(ha:QPE X K a ta qa)(g:QPE X K b tb qb)(hs:ke b:=by intro _ _;rfl):QPE X K (.Subscript a b pos) (tOp Hi ta tb) (qOp gj qa qb):=(uQ Jp ha.h g.h hs,vQ GH ha.s g.s)
def T5(g qk qx:QE):QE:=λq Q=>g q λd=>match d.dof with
 |some ks=>qk q λu=>match u.key with
  |some k=>qx q λx=>Q ((cw ks k).getD x)
  |none=>False
 |none=>False
def Me{d f:Ev}{qd:QE}(hu:X.A.units+1<cLine)(hd:QPE X K d td qd)(hk:QPE X K e tk qk)(hx:QPE X K f tx qx)(m:M2 X d "get" apos e f aW:=by exact(U,U,U,U)):QPE X K (.Call (.Attribute d "get" apos) [e,f] [] aW) (Gn td tk tx) (T5 qd qk qx):=
 (Iy hu hd.h hk.h hx.h m,λdl H σ q Q R rd hq k=>hd.s dl H σ q _ _ rd hq λv t F H1 V r1 hq=>by
  split at hq
  ·rename_i ks g;let(p,vs,G,U,h1,h2,sub):=r1.r.dof g;refine(p,U,.inl (vs,h1),hk.s dl H1 σ q _ _ (rd.evo V) hq λy u F2 H2 P r2 hq=>?_)
   split at hq
   ·rename_i k0 ek;refine hx.s dl H2 σ q _ _ ((rd.evo V).evo P) hq λz w F3 H3 e3 r3 hq=>?_
    have rp:=(r1.evo V.d P).evo P.d e3;let(p',ay,G',e',ar,ak,Lw):=rp.r.dof g;cases e';rw[r2.r.key ek];refine(_,iu.rd ar,?_);obtain⟨z1,z2⟩|⟨t,v,G2,z1,z2,z3,z4⟩:=ak.look k0
    ·rw[z2];rw[z1]at hq;exact k _ _ F3 H3 ((V.trans P).trans e3) r3 hq
    ·rw[z2];rw[z1]at hq;exact k _ _ G2 H3 ((V.trans P).trans e3) (Rp.sub z3 rp.n λb hb=>Lw b (z4 b hb)) hq
   ·exact hq.elim
  ·exact hq.elim)
inductive uL(xs:List V)(H:Hp)(Q:VK):Prop
 |mk(p:J)(kvs:List (Key×V))(h1:xs=[.ref p])(h2:Rd H p (.dK kvs))(h3:∀d,H d=Y->Q (.ref d) (upd H d (.dK kvs)))
theorem d6:b8 X (.type "dict") uL:=by
 intro gd s σ H xs us Q I r h;let(p,kvs,U,hp,q):=h;let(u,U,ru):=vals1 r;cases ru;let(z,ak,vs,kv,dd):=i9 I.hok hp;refine callType_codes (Q₁:=λobj g=>obj=.ref s.heap.objs.size/\g={s with heap:=s.heap.push {cls:=.type "dict",data:=.dict #[]}}) F.kt_called_dict (F.kt_typeCall_dict_1 _) F.entry_dict_init (kt_code_dict_new _ (U,U)) ?_
 rintro obj g ⟨rfl,rfl⟩
 have P:(s.heap.push {cls:=.type "dict",data:=.dict #[]}).DictOf (bf X.prog X.w) s.heap.objs.size []:=Heap.DictOf.new s.heap;have ay:p<s.heap.objs.size:=by
  let(o,_,_,e,_):=dd;exact kn e
 have dd':(s.heap.push {cls:=.type "dict",data:=.dict #[]}).DictOf (bf X.prog X.w) p vs:=by
  let(o,es,ep,e,r):=dd;exact(o,es,ep,f9 _ e,r)
 have V:(vs.map (·.1)).Nodup:=by
  let(o,es,ep,_,_,_,_,_,n):=dd;exact n
 have aN:=Paired.length kv;refine(P.typeIs,F.args_dict_init_2 _ _,?_);refine fu ?_;refine fu (wpAny_notOrdered_dict P.typeIs ?_);refine mX ?_;show wpAny _ _ (Builtin.Dict.updateFrom "dict.__init__" s.heap.objs.size (.ref p) [] .none) _ _ _;refine fu (WV dd'.typeIs ?_);refine fu ?_;refine fu ?_;refine fu (XJ dd'.typeIs isSubtype_dict_dict ?_);refine fu (Xv dd'.typeIs F.slot_dict_iter.lookup (mX ?_));refine wpAny_mergeDict (E3 ay) ak P dd' λh' K aM ar=>?_
 rw[merged_nil_of_nodup _ V]at K;refine fu (mX (mX (U,.ref s.heap.objs.size,_,I.laid (λb u e=>?_) (ot _) (si z ?_ kv K),U,q _ (I.hok.fresh (ot _)))))
 ·rw[ar.2 b (sT (kn e))];exact f9 _ e
 ·have:=I.big
  exact beq_eq_false_iff_ne.mpr (E3 this)
def nG:QC:=λts Q=>match ts with
 |[t]=>match t.dof with
  |some ks=>T.imk ks=O/\Q (.d ks)
  |none=>False
 |_=>False
def fC:mU K uL nG:=by
 intro dl H vs ts F Q R D r hq k;unfold nG at hq
 split at hq
 ·split at hq
  ·rename_i ks q;let(v,U,P):=r.one;let(p,kvs,G,U,h1,h2,sub):=P.r.dof q;obtain rfl:=h2.im hq.1;refine(p,kvs,U,h1,λd hd=>?_)
   have ev:Evo dl H (upd H d (.dK kvs)):=(Evo.refl D).new hd;exact k _ _ [d] _ ev (.d au (h2.dq (ev.tf D) (λ_ z=>z) nofun),λb g=>by rw[fy.mp g];exact D.nd0 hd) (λb g=>by rw[fy.mp g];exact hd) ad hq.2
  ·exact hq.elim
 ·exact hq.elim
def Og(te:TE):TE:=λσ H Q=>te σ H λv H1=>∃a kvs,v=.ref a/\H1 a=Z (.dK kvs)/\∀o,Q v (upd H1 a (.frz o (.dK kvs)))
def MH(he:PE X e te):PE X e (Og te):=by
 left;refine thn (he gd s σ H _ I h) λu s' g=>?_
 let(v,H',P,r,a,kvs,V,z,q):=g;let(_,o,K):=P.freeze z;exact(v,_,K,r,q o)
def T6(qe:QE):QE:=λq Q=>qe q λt=>match t with
 |.d ks=>T.imk ks=O/\∀o vs,Q (.fd o vs ks)
 |_=>False
def TF.Vb{p:J}{kv:List (Key×V)}{o:Obj}{u:HO}(hp:H p=Z (.dK kv)):TF H (upd H p (.frz o u)):=
 have ne:∀{a:J}{o:HO},H a=Z o->(∀kv,o ≠ .dK kv)->a≠p:=λh n e=>by rw[e,hp]at h;exact n _ (Option.some.inj h).symm
 (λa vs h=>by rw[ao (ne h nofun)];exact h,λa o u h=>by rw[ao (ne h nofun)];exact h,λa φ h=>by rw[ao (ne h nofun)];exact h,λa xs h=>(xs,by rw[ao (ne h nofun)];exact h),λa x h=>(x,WZ _,by rw[ao (ne h nofun)];exact h))
def pK(he:QPF X K e te qe):QPF X K e (Og te) (T6 qe):=(MH he.h,λdl H σ q Q R rd hq k=>he.s dl H σ q _ _ rd hq λv t F H1 V P f1 n1 g=>by
 split at g
 ·rename_i ks;let(p,vs,G,U,U,h1,h2):=P.r.dic;obtain rfl:=h2.im g.1;exact(p,vs,U,h1,λo=>k _ (.fd o vs ks) [] _ (V.fresh (f1 p lj) (P.n p lj)) (.fd au (h2.dq (TF.Vb h1) (λ_ z=>z) nofun),nofun) nofun p7 (g.2 o vs))
 ·exact g.elim)
end
section
variable{X:Cx}{K:BT}{t:TS}{qt:QS}
inductive Gj(i:Nat)(t:TS)(D:Ends)(σ:St)(H:Hp):Prop
 |mk(a kvs:_)(h1:σ[i]?=Z (Z (.ref a)))(h2:H a=Z (.dK kvs))(h3:∀o,t D σ (upd H a (.frz o (.dK kvs))))
def QF{i:Nat}(h:PS X st t):PS X st (Gj i t):=by
 intro gd s σ H D I z;let(a,kvs,_,ha,k):=z;let(_,o,g):=I.freeze ha;exact h gd s σ _ D g (k o)
def HN(i:Nat)(qt:QS):QS:=λD q=>match q[i]? with
 |some (.o (.d ks))=>T.imk ks=O/\∀o vs,qt D (q.set i (.o (.fd o vs ks)))
 |_=>False
theorem Rel.frz{dl:Dl}{bd H:Hp}{hs:List (V×T)}{σ:St}{q:Sq}{F:Nat->List J}{i:Nat}{a:J}{vs:List (Key×V)}{ks:List (Key×T)}{o:Obj}(r:Rel K dl bd hs H σ q F)(ei:q[i]?=Z (.o (.d ks)))(hv:σ[i]?=Z (Z (.ref a)))(eF:F i=[a])(rp:Rp K dl H (.ref a) (.d ks) (F i))(h1:H a=Z (.dK vs))(h2:a6 K dl H vs ks []):eQ K dl bd hs (upd H a (.frz o (.dK vs))) σ (q.set i (.o (.fd o vs ks))):=by
 refine(oM F i [],?_);have tf:=TF.Vb (o:=o) (u:=.dK vs) h1;have na:=rp.n a (by rw[eF];exact lj)
 let(o1,o2,o3):=r.o i _ ei;have st:∀{w:V}{u:T}{Fw:List J},Rp K dl H w u Fw->a ∉ Fw->Rp K dl (upd H a (.frz o (.dK vs))) w u Fw:=λ{w u Fw} h np =>
  (h.r.dq tf (λ_ z=>z) λb P ob e=>(by
   have n0:b≠a:=λz=>np (by rw[<- z];exact P)
   rw[ao n0];exact e),h.n)
 refine(λd hd=>(r.d d hd).oth (na d hd).1 (na d hd).2,λj x u h3 h4=>?_,λj x h3 h4=>?_,λj Q=>?_,λj u h3=>?_,λp hp=>?_,(λb ob P nb nr=>?_,λb x P=>?_),by simp[r.l])
 ·obtain⟨rfl,rfl,_⟩|⟨ne,h3⟩:=get_set h3
  ·cases h4;exact(_,hv,by rw[aY];exact(.fd au (h2.dq tf (λ_ z=>z) nofun),nofun))
  ·let(w,h5,h6):=r.g j x u h3 h4;exact(w,h5,by rw[aK ne];exact st h6 (o3 j ne a (by rw[eF];exact lj)))
 ·obtain⟨rfl,rfl,_⟩|⟨ne,h3⟩:=get_set h3
  ·cases h4
  ·rw[aK ne];exact r.n j x h3 h4
 ·rw[SO]at Q;by_cases e:j=i
  ·rw[e,aY]
  ·rw[aK e];exact r.z j Q
 ·obtain⟨rfl,e,_⟩|⟨ne,h3⟩:=get_set h3
  ·rw[aY];exact(p7,λ_ z=>absurd z xy,λ_ _ _ z=>absurd z xy)
  ·rw[aK ne];let(p1,p2,p3):=r.o j u h3;refine(p1,p2,λk hk b P=>?_)
   by_cases ek:k=i
   ·rw[ek,aY];exact xy
   ·rw[aK ek];exact p3 k hk b P
 ·let(Fp,h3,h4):=r.h p hp;refine(Fp,st h3 (h4 i _ ei a (by rw[eF];exact lj)),λj u Q b P z=>?_)
  obtain⟨rfl,e,_⟩|⟨ne,Q⟩:=get_set Q
  ·rw[aY]at P;cases P
  ·rw[aK ne]at P;exact h4 j u Q b P z
 ·have n0:b≠a:=λz=>by rw[z,o2 a (by rw[eF];exact lj)]at P;cases P
  rw[ao n0];exact r.f.k b ob P nb nr
 ·have n0:b≠a:=λz=>by rw[z,o2 a (by rw[eF];exact lj)]at P;cases P
  rw[ao n0];exact r.f.r b x P
def GK{i:Nat}(h:la K t qt):la K (Gj i t) (HN i qt):=λdl bd hs H σ q Dq D (F,r) hq E=>by
 unfold HN at hq
 split at hq
 ·rename_i ks P;let(v,hv,z):=r.g i _ _ P U;let(a,vs,G,U,Q,h1,h2):=z.r.dic;obtain rfl:=h2.im hq.1;exact(a,vs,hv,h1,λo=>h dl bd hs _ σ _ Dq D (r.frz P hv Q z h1 h2) (hq.2 o vs) E)
 ·exact hq.elim
def qT{i:Nat}(h:QPS X K st t qt):QPS X K st (Gj i t) (HN i qt):=(QF h.h,GK h.s)
end
section
variable{X:Cx}{σ:St}{s:ϋ}{u1 u2 v1 v2:HO}{fs:List (Str×V)}
def Inv.G6(I:Inv X gd σ H s)(ne:d≠a)(ha:H a=Z v1)(hd:H d=Z v2)(t1:∀xs,v1 ≠ .tup xs)(t2:∀xs,v2 ≠ .tup xs)(b1:∀ps,v1 ≠ .tbl ps)(b2:∀ps,v2 ≠ .tbl ps)(z1:∀o v,v1 ≠ .frz o v)(V:∀o v,v2 ≠ .frz o v)(w1:∀c,v1 ≠ .own c)(w2:∀c,v2=.own c->c=a)
  (VX:bH X.prog X.w (upd (upd H a u1) d u2) s.heap a u1) (VW:bH X.prog X.w (upd (upd H a u1) d u2) s.heap d u2):Inv X gd σ (upd (upd H a u1) d u2) s:=by
 have g:∀{b:J}{o:HO},H b=Z o->o≠v1->b≠a:=λe n z=>by rw[z,ha]at e;exact n (Option.some.inj e).symm
 have K:∀{b:J}{o:HO},H b=Z o->o≠v2->b≠d:=λe n z=>by rw[z,hd]at e;exact n (Option.some.inj e).symm
 have n0:∀{b:J},H b=Y->b≠a/\b≠d:=λ{b} e=>(λz=>(by rw[z,ha]at e;cases e),λz=>(by rw[z,hd]at e;cases e))
 have st:∀{b:J},b≠a->b≠d->upd (upd H a u1) d u2 b=H b:=λh1 h2=>by rw[ao h2,ao h1]
 refine(I.ok,I.os,I.bare,(I.base.keep,I.base.slot,λb o e n hx=>?_,I.base.there,λb xs e=>?_,λb o v e=>?_,λb ps e=>?_),I.loc,I.cell,?_,λx c e=>?_,λp hp=>?_,λb o e=>?_,I.len)
 ·have:=I.base.free b o e n hx
  rw[st (n0 this).1 (n0 this).2];exact this
 ·have:=I.base.lG b xs e
  rw[st (g this λz=>t1 _ z.symm) (K this λz=>t2 _ z.symm)]
  exact this
 ·have:=I.base.jl b o v e
  rw[st (g this λz=>z1 _ _ z.symm) (K this λz=>V _ _ z.symm)]
  exact this
 ·let(more,this):=I.base.lH b ps e;refine(more,?_);rw[st (g this λz=>b1 _ z.symm) (K this λz=>b2 _ z.symm)]
  exact this
 ·rw[st (n0 I.free).1 (n0 I.free).2];exact I.free
 ·rw[st (n0 (I.dM x c e)).1 (n0 (I.dM x c e)).2];exact I.dM x c e
 ·let(p1,p2,p3):=I.pin p hp;exact(p1,by rw[st (n0 p2).1 (n0 p2).2];exact p2,p3)
 ·by_cases P:b=d
  ·subst P;rw[au]at e;cases e;exact VW
  ·by_cases Q:b=a
   ·subst Q;rw[ao P,au]at e;cases e;exact VX
   ·rw[st Q P]at e;refine(I.hok b o e).dq (λ_ _ _ q=>q) (λc q=>?_) λc xs q=>?_
    ·rw[st (g q λz=>w1 _ z.symm) (λz=>by rw[z,hd]at q;exact Q (w2 b (Option.some.inj q)))];exact q
    ·rw[st (g q λz=>t1 _ z.symm) (K q λz=>t2 _ z.symm)];exact q
def Inv.Tc(I:Inv X gd σ H s)(ha:H a=Z (.ins C d fs)):d≠a/\fs.length<=1000/\H d=Z (.own a)/\Inv X gd σ (upd (upd H a (.ext (xv a C d))) d (.ext (XD d fs))) s:=by
 let(hd,hl,ne,e,mA,n,r,w):=(I.hok a _ ha);exact(ne,hl,hd,I.G6 ne ha hd nofun nofun nofun nofun (λ_ _ z=>nomatch z) (λ_ _ z=>nomatch z) nofun (λc z=>by cases z;rfl)
  (e,(_,e),λh1 h2 p k=>k _ p) (XD.ok (mA,n,r,w)))
def Inv.VO(I:Inv X gd σ H s)(ne:d≠a)(hl:fs.length<=1000)(ha:H a=Z (.ext (xv a C d)))(hd:H d=Z (.ext (XD d fs))):Inv X gd σ (upd (upd H a (.ins C d fs)) d (.own a)) s:=by
 have e:=(I.hok a _ ha).1;let(mA,n,r,w):=(I.hok d _ hd).1;refine I.G6 ne ha hd nofun nofun nofun nofun (λ_ _ z=>nomatch z) (λ_ _ z=>nomatch z) nofun (λc z=>nomatch z) (au,hl,ne,e,mA,n,r,w) ?_
 let(o,_,_,g,_):=n;exact(o,g)
end
variable{prs:List Str}
section
variable{X:Cx}{K:BT}{e:Ev}{es:List Ev}{te:TE}{qe:QE}{tl:TA}{ql:QA}{pos p:Pos}{f:Str}
def Oh(K:BT)(ta:TE)(f:Str):TE:=λσ H Q=>ta σ H λx H1=>∃a C fs v,x=.ref a/\ObH H1 a C fs/\fs.length<=1000/\Cls K C/\bR K C f/\fs.lookup f=Z v/\Q v H1
def MJ(he:PE X e te)(hb:attributeBase e f X.env (eval e X.env)=eval e X.env):PE X (.Attribute e f pos) (Oh X.K te f):=by
 left;refine Dj hb (thn (he gd s σ H _ I h) λu s1 z=>?_)
 let(x,H1,I1,rx,a,C,fs,v,ex,(dx,ne,h1,h2),hl,c,n,l,q):=z;subst ex;obtain rfl:=rx;refine Bw (I1.VO ne hl h1 h2) (by rw[ao ne.symm,au]) c n l λu' s2 I2 ru=>(v,H1,?_,ru,q)
 let(_,_,_,V):=I2.Tc (by rw[ao ne.symm,au])
 have e:upd (upd (upd (upd H1 a (.ins C dx fs)) dx (.own a)) a (.ext (xv a C dx))) dx (.ext (XD dx fs))=H1:=by
  funext b
  by_cases g:b=dx
  ·rw[g,au,h2]
  ·by_cases P:b=a
   ·rw[ao g,P,au,h1]
   ·rw[ao g,ao P,ao g,ao P]
 rw[e]at V;exact V
def T8(C:J)(f:Str)(qe:QE):QE:=λq Q=>qe q λt=>match t with
 |.ob C' ns ts=>C'=C/\ns.length<=1000/\Ex2 (λx=>(ns.zip ts).lookup f=Z x) Q
 |_=>False
def aZ(hc:Cls K C)(hn:bR K C f)(he:QPE X K e te qe)(z:‹attributeBase e f X.env (eval e X.env)=eval e X.env›)(hK:‹X.K=K›):QPE X K (.Attribute e f pos) (Oh K te f) (T8 C f qe):=(by subst hK;exact MJ he.h z,λdl H σ q Q R rd hq k=>he.s dl H σ q _ _ rd hq λv t F H1 e1 V g=>by
 split at g
 ·let(U,hl,x,hx,g):=g;let(a,vs,U,U,ho,rs):=V.r.obj;let(w,G,e2,P,s2):=rs.lookup hx;refine(a,_,_,w,U,ho,?_,hc,hn,e2,k _ _ G H1 e1 (P,λb z=>nomatch s2 b z) g)
  rw[Xi];exact ui (Nat.min_le_left _ _) hl
 ·exact g.elim)
inductive vN(C:J)(ns:List Str)(vs:List V)(H:Hp)(Q:VK)(_:XK):Prop
 |mk(x dx args:_)(h1:vs=.ref x::args)(h2:args.length=ns.length)(h3:H x=Z (.ins C dx []))(h4:Q .non (upd H x (.ins C dx (ns.zip args))))
def Gh(C:J)(ns:List Str)(t:TA):TE:=λσ H Q=>t σ H λvs H1=>vs.length=ns.length/\∀x dx,H1 x=Y->H1 dx=Y->dx≠x->Q (.ref x) (upd (upd H1 x (.ext (xv x C dx))) dx (.ext (XD dx (ns.zip vs))))
theorem Ir{g:J}{ns:List Str}{k:Nat}(M:Mk X.K C g)(G:bj X.prog X.w X.K X.mg X.base CX0 k g fd prs (vN C ns))(hr:cN (k+1) X.A)(hg:Gl X x)(hm:X.mg x=Z (.ref C))(hb:Binds X.K fd prs [])(ha:PA X (e::es) tl)
  (ak:autoParam (AS x) zdc._auto_1) (he:‹AC X e es›) (V:‹AM X pos es›):
  PE X (.Call (.Name x p) (e::es) [] pos) (Gh C ns tl):=by
 left;refine WK (j7 I hg hm (W.callWith_K (h₀:=X.base) I.ok.mod.kin M.kp (thn (ha pos gd s σ H _ I h) λus s1 (vs,H1,I1,r,q)=>(I1.kIn,(thn (GZ (Q:=λv H2=>∃a dx fs,v=.ref a/\H2 a=Z (.ins C dx fs)/\Q v (upd (upd H2 a (.ext (xv a C dx))) dx (.ext (XD dx fs)))) M G hr hb .nil IB I1 r λx dx hx hd ne=>(x,dx,vs,by simp,q.1,au,U,x,dx,ns.zip vs,U,au,?_)) λu s' (v,H',I',rv,a,dx,fs,e1,e2,qq)=>?_))) he V) ak)
 ·have e:upd (upd (upd (upd (upd H1 dx (.own x)) x (.ins C dx [])) x (.ins C dx (ns.zip vs))) x (.ext (xv x C dx))) dx (.ext (XD dx (ns.zip vs)))=upd (upd H1 x (.ext (xv x C dx))) dx (.ext (XD dx (ns.zip vs))):=by
   funext b
   by_cases z:b=dx
   ·rw[z,au,au]
   ·by_cases P:b=x
    ·rw[ao z,ao z,P,au,au]
    ·rw[ao z,ao P,ao P,ao P,ao z,ao z,ao P]
  rw[e];exact q.2 x dx hx hd ne
 ·let(_,_,_,I2):=I'.Tc e2;exact(v,_,I2,rv,qq)
def Qo(C:J)(ns:List Str)(ql:QA):QE:=λq Q=>ql q λts=>T.ims ts=O/\ts.length=ns.length/\Q (.ob C ns ts)
def gT{g:J}{ns:List Str}{k:Nat}(hK:X.K=K)(M:Mk K C g)(G:bj X.prog X.w X.K X.mg X.base CX0 k g fd prs (vN C ns))(hr:cN (k+1) X.A)(hg:Gl X x)(hm:X.mg x=Z (.ref C))(hb:Binds X.K fd prs [])(ha:QPA X K (e::es) tl ql)
  (ak:autoParam (AS x) zdc._auto_1) (he:‹AC X e es›) (V:‹AM X pos es›):
  QPF X K (.Call (.Name x p) (e::es) [] pos) (Gh C ns tl) (Qo C ns ql):=by
 subst hK;refine(Ir M G hr hg hm hb ha.h ak he V,λdl H σ q Q R rd hq k=>ha.s dl H σ q _ _ rd hq λvs ts F H1 e1 P _ hz=>?_)
 let(z1,z2,z3):=hz;obtain rfl:=P.r.im z1;refine(P.r.len.trans z2,λx dx hx hd ne=>?_)
 have ev:Evo dl H1 (upd (upd H1 x (.ext (xv x C dx))) dx (.ext (XD dx (ns.zip vs)))):=((Evo.refl e1.d).new hx).new (by rw[ao ne];exact hd)
 have r2:=P.evo e1.d ev;exact k _ _ [] _ (e1.trans ev) (.ob (dx,ne,by rw[ao ne.symm,au],au) r2.r,nofun) nofun p7 z3
end
variable{tg:Ev}{e:Ev}{g:Tg}
section
variable{X:Cx}{K:BT}
inductive Hc(K:BT)(x:V)(y:V)(H:Hp)(Q:VK):Prop
 |mk(p q vs:_)(h1:x=.ref p)(h2:y=.ref q)(h3:SqL K H p vs)(h4:SqL K H q [])(h5:Q (.bl (!vs.isEmpty)) H)
def yp(hu:X.A.units+1<cLine)(hK:X.K=K):OpR X (compareOp .NotEq) (Hc K):=by
 subst hK;intro gd s σ H x y v u Q I V P h;let(p,q,vs,U,U,h1,h2,k):=h;cases V;cases P;let(its,r1,p1,_):=I.list h1;let(z,g,p2,_):=I.list h2;have l1:=r1.length;have l2:=g.length;have e2:z.length=0:=l2.symm;by_cases hl:its.length=z.length
 ·refine SeqAt.RcNeAt.lists (e:=λ_=>O) p1.isList p2.isList (hl:) ap (λj g1 g2=>?_) X.prog X.w X.xe _ (.bl _,H,I,U,?_)
  ·let(a,ea,ra):=g.at' g2;simp at ea
  ·have e:vs=[]:=xw.mp (by lia)
   subst e;have e3:its.toArray.size=0:=by simp;exact xw.mp (by lia)
   rw[e3];exact k
 ·refine SeqAt.RcNeAt.lists_lengths p1.isList p2.isList (hl:) ap X.prog X.w X.xe _ (.bl _,H,I,U,?_)
  cases vs with
  |nil=>exact absurd l1.symm (by rw[<- l2]at hl;exact hl)
  |cons _ _=>exact k
def HK:Q2:=λt u Q=>match t,u with
 |.l xs,.l []=>Q (.b (!xs.isEmpty))
 |_,_=>False
def uI:dQ K (Hc K) HK:=by
 intro dl H x y t u F G Q R D P q hq k;unfold HK at hq
 split at hq
 ·rename_i xs;let(p,vs,G1,U,U,h1,h2):=P.r.lst;let(V,g,G2,U,U,h3,h4):=q.r.lst;cases h4;refine(p,V,vs,U,U,SqL.of h1,SqL.of h3,k _ _ [] H (.refl D) (.c (.b _)) nofun p7 ?_)
  have e:vs.isEmpty=xs.isEmpty:=by
   have:=h2.len
   cases vs <;> cases xs <;> simp at this ⊢
  rw[e];exact hq
 ·exact hq.elim
def Uj{q g:TI}(h1:PI X tg e q)(h2:PI X tg e g):PI X tg e (λσ H R=>q σ H R\/g σ H R):=by
 intro gd s σ H R I h;obtain h|h:=h
 ·exact h1 gd s σ H R I h
 ·exact h2 gd s σ H R I h
def asP(i:Nat):QJ:=λq Q=>match q[i]? with
 |some (.r (.l xs))=>Q xs q
 |some (.r (.t xs))=>Q xs q
 |_=>False
def Hu{i:Nat}(h:PE X e (bZ i))(hK:‹X.K=K›):QPJ X K tg e (λσ H R=>uZ K (bZ i) σ H R\/Ju K (bZ i) σ H R) (asP i):=(Uj (lT hK h) (wu hK h),λdl bd hs H σ q Q R (F0,r0) hq k=>by
 have hold:∀{t:T}{v:V},q[i]?=Z (.r t)->Rp K dl H v t (F0 i)->Rel K dl bd ((v,t)::hs) H σ q F0:=λ{t v} e r=>r0.hold r λj u hj b hb=>by
  have ne:i≠j:=λz=>by rw[z,hj]at e;cases e
  exact(r0.o j u hj).2.2 i ne b hb
 unfold asP at hq
 split at hq
 ·rename_i xs P;let(v,hv,r):=r0.g i _ _ P U;have r1:=hold P r;let(p,vs,G,U,_,h1,h2):=r.r.lst;exact .inl (_,hv,p,U,(vs,SqL.of h1),k _ _ _ H q (F0,r1) mj hq)
 ·rename_i xs P;let(v,hv,r):=r0.g i _ _ P U;have r1:=hold P r;let(p,vs,U,h1,h2):=r.r.tup;exact .inr (_,hv,p,U,(vs,SqT.of h1),k _ _ _ H q (F0,r1) Bi hq)
 ·exact hq.elim)
def HG(g:Tg)(i:Nat):QS:=λD q=>match q[i]? with
 |some (.r t)=>Ex2 (λq'=>g.put t q=Z q') D.nx
 |_=>False
def Gy{i:Nat}:la K (ix (bZ i) (g.h K)) (HG g i):=λdl bd hs H σ q Dq D (F,r) hq E=>by
 unfold HG at hq
 split at hq
 ·rename_i t Q;let(q',P,hz):=hq;let(v,hv,rp):=r.g i _ _ Q U;exact(v,hv,wa r rp (λj u V b hb=>(r.o j u V).2.2 i (λz=>by rw[z,V]at Q;cases Q) b hb) P λak r'=>E.nx _ _ _ r' hz)
 ·exact hq.elim
def wc{i:Nat}{pos:Pos}(he:PE X e (bZ i))(hg:PG X tg (g.h K))(hs:‹swapsWithSole [tg] e pos.line X.env=pure false›)(hw:‹swappedStores [tg] e X.env=pure none›)
  (h1:‹(assignEach [tg] X.env).map (·.2)=[assign tg X.env]›):QPS X K (.Assign [tg] e pos) (ix (bZ i) (g.h K)) (HG g i):=(wo he hg hs hw h1,Gy)
def ml{xs:List T}:uz K dl (Ite K ϊ a) (ia xs) [(.ref a,.l xs)] where
 go:=λH i D h hi=>by
  let(F,r):=h (.ref a,.l xs) ad
  let(p,vs,G,e,_,h1,h2):=r.r.lst;cases e;rw[a4]at hi;have l1:i<vs.length:=by rw[h2.len];omega
  exact(vs,vs[i],SqL.of h1,by simp[l1])
 yld:=λH i x fp v H' D h hx y=>by
  have r:=h (.ref a,.l xs) ad
  let(p,vs,G,e,eF,h1,h2):=r.r.lst;cases e;let(x1,V,U):=bX hx;let(w1,G1,ak,Q,ar):=h2.get V;let(q,u1,hq,U,U,P):=y;have e1:=P vs (SqL.of h1);rw[ak]at e1;cases e1;have sub:∀b∈G1,b∈fp (.ref a,.l xs):=λb g=>by rw[eF];exact jQ _ (ar b g)
  have rs:Rps K dl H [.int (i),w1] [.i (i),x1] ([]++(G1++[])):=Rps.cons (.i _,nofun) (Rps.cons (Q,λb g=>r.n b (sub b g)) (.nil,nofun))
  refine((Evo.refl D).new hq,_,rs.tup D hq,λc g=>.inr ?_)
  rw[rD]at g;exact(_,by simp,sub c g)
 stop:=λH D h=>by
  let(F,r):=h (.ref a,.l xs) ad
  let(p,vs,G,e,_,h1,h2):=r.r.lst;cases e;exact(vs,SqL.of h1,by rw[a4,h2.len];exact ot _)
def O4(i:Nat):QJ:=λq Q=>match q[i]? with
 |some (.o (.l xs))=>Q (ia xs) (q.set i (.r (.l xs)))
 |some (.r (.l xs))=>Q (ia xs) q
 |_=>False
def x9{a:Ev}{x1}{pos p:Pos}{i:Nat}(hg:Gl X "enumerate")(hm:X.mg "enumerate"=Y)(jJ:bootBuiltins "enumerate"=Z (.type "enumerate"))(h:PE X a (bZ i))(hs:‹AD X a›)(ak:‹AC X a []›)(hK:‹X.K=K›):
  QPJ X K (.Tuple elts x1 pos') (.Call (.Name "enumerate" p) [a] [] pos) (rR K ϊ (bM (bZ i) fg)) (O4 i):=(jy hK hg hm jJ (bq h cM ak) hs,λdl bd hs H σ q Q R (F0,V) hq k=>by
 unfold O4 at hq
 split at hq
 ·rename_i xs e1;let(v,hv,r):=V.g i _ _ e1 U;have r1:=(V.down e1).hold r λj u P b hb=>by
   obtain⟨_,z,_⟩|⟨ne,P⟩:=get_set P
   ·cases z
   ·exact(V.o j u P).2.2 i (λz=>ne z.symm) b hb
  let(p,vs,G,U,_,h1,h2):=r.r.lst;exact(_,hv,p,U,(vs,SqL.of h1),k _ _ _ H _ (F0,r1) ml hq)
 ·rename_i xs e1;let(v,hv,r):=V.g i _ _ e1 U;have r1:=V.hold r λj u P b hb=>(V.o j u P).2.2 i (λz=>by subst z;rw[e1]at P;cases P) b hb
  let(p,vs,G,U,_,h1,h2):=r.r.lst;exact(_,hv,p,U,(vs,SqL.of h1),k _ _ _ H _ (F0,r1) ml hq)
 ·exact hq.elim)
end
variable{iter:Ev}
section
variable{X:Cx}{K:BT}{pos p:Pos}{ts:(St->XK)->TS}{qs:QSX}
def XOk.holds{hs hv:List (V×T)}{W:Sq->QW}{Es:St->XK}(x:XOk K dl bd hs W Es):XOk K dl bd (hv++hs) W Es:=λH σ q a C ns us (F,r) g hw=>x H σ q a C ns us (F,r.iw) g hw
def L4{wi:TI}{iq:QJ}(hp:YL (model X.prog X.w) X.A X.env X.xe)(hc:X.calm=O)(hi:QPJ X K tg iter wi iq)(hg:PG X tg (g.h K))(hb:mW X K body ts qs)
  (hs:∀x,foldedSetIterable iter X.env x=pure x:=by intro _;rfl):BR X K (.For tg iter body [] pos) (λEs=>PC wi (g.h K) (ts Es)) (λW=>T7 iq g (qs W)):=(λEs a b=>AG hp hc hi.h hg (hb.h Es a b) hs,λdl bd hs H σ q Dq D W Es r hq E x=>by
 refine hi.s dl bd hs H σ q _ _ r hq λxs Zh hv H1 q1 r1 it hz=>?_
 let(I,i0,turn,fin):=hz;refine(λi m σ H=>m=xs.length-i/\i<=xs.length/\∃q,eQ K dl bd (hv++hs) H σ q/\I i q,(xs.length,by simp,FI _,q1,r1,i0),?_)
 rintro i m σ H ⟨rfl,ay,q,⟨F,r⟩,hI⟩
 have held:∀p∈hv,∃F,Rp K dl H p.1 p.2 F:=λp hp=>let(Fp,h,_):=r.h p (qp _ hp);(Fp,h)
 by_cases P:i<xs.length
 ·refine .inr (it.go H i r.d held P,λQ H'=>∃q,eQ K dl bd (hv++hs) H' Q q/\I (i+1) q,λQ H' h=>(xs.length-(i+1),by omega,U,P,h),λv H' y=>?_)
  let(fp,V):=r.fps;have hx:xs[i]?=Z xs[i]:=by simp[P]
  let(e1,G,rx,hG):=it.yld H i xs[i] fp v H' r.d (λp hp=>(V p hp).1) hx y
  let(q',ar,hz):=turn i xs[i] q hx hI;refine wa (r.evo e1) rx (λj u hj b hb z=>?_) ar λak r2=>hb.s dl bd (hv++hs) H' ak q' _ _ W Es r2 hz (λH σ q r n=>(q,r,n),λH σ q (F,r) n=>E.nx H σ q (F,r.iw) n,λH σ q r n=>(q,r,n),E.rt,λH σ q F0 v t F r=>E.ru H σ q F0 v t F r.iw) x.holds
  obtain h |⟨p,hp,h⟩:=hG b z
  ·exact(r.gC hb).no h
  ·exact(V p hp).2 j u hj b hb h
 ·have e:i=xs.length:=by omega
  subst e;exact .inl (it.stop H r.d held,E.nx H σ q (F,r.iw) (fin q hI)))
end
variable{cs:List J}
section
variable{X:Cx}{K:BT}{es:List Ev}{te:TE}{qe:QE}{pos p:Pos}{fn:List Str}{bm:List B}
def tCs:List J->TA
 |[]=>fg
 |c::r=>bM (tC (.ref c)) (tCs r)
structure PCs(X:Cx)(K:BT)(fn:List Str)(es:List Ev)(cs:List J):Prop where
 h:PA X es (tCs cs)
 c:∀c∈cs,∃bm ini,b7 K fn c bm ini
 l:cs.length=es.length
def ML:PCs X K fn [] []:=(cM,nofun,U)
def gX{y:Str}(q:b7 K fn C bm ini)(hg:Gl X y)(hm:X.mg y=Z (.ref C))(hr:PCs X K fn es cs)(hd:autoParam (AS y) zdc._auto_1)(hs:‹pq (.Name y p::es) X.env=(ϊ,eval (.Name y p) X.env)::pq es X.env›):PCs X K fn (.Name y p::es) (C::cs):=
 (bq (rg hg hm hd) hr.h hs,λc g=>(pj.mp g).elim (λz=>z▸(bm,ini,q)) (hr.c c),by simp[hr.l])
def Lo{σ:St}{R:List V->Hp->Prop}:∀{cs:List J},R (cs.map V.ref) H->tCs cs σ H R:=by
 intro cs
 induction cs generalizing R with
 |nil=>exact λh=>h
 |cons c r g=>exact λh=>g (R:=λvs H1=>R (V.ref c::vs) H1) h
theorem Bd(c:b7 K fn C bm ini):∀{cs:List J},(∀x∈cs,∃bm ini,b7 K fn x bm ini)->W.kitAny K (.ref C) (cs.map B.ref)=Z (cs.any λx=>(B.ref C::bm).contains (.ref x)):=by
 intro cs
 induction cs with
 |nil=>exact λ_=>rfl
 |cons x r g =>
  intro h;let(bm',wQ,z):=h x lj;show(match W.kitOne K (.ref C) (.ref x)with|some O=>Z O|some ϊ=>W.kitAny K (.ref C) (r.map B.ref)|none=>Y)=_
  rw[CM c z,Xn];cases e:(B.ref C::bm).contains (.ref x)with
  |true=>rfl
  |false=>exact g λy q=>h y (jQ _ q)
def DS:∀{cs:List J}{us:List B},Vals (cs.map V.ref) us->us=cs.map B.ref:=by
 intro cs
 induction cs with
 |nil=>intro us r;cases r;rfl
 |cons c r g =>
  intro us h;cases h with
  |cons h1 h2=>rw[fR h1,g h2];rfl
def Hj(K:BT)(fn:List Str)(cs:List J):List V->Hp->VK->Prop:=λxs H Q=>∃a C b fs bm ini tp,xs=[.ref a,.ref tp]/\ExH H a C b fs/\b7 K fn C bm ini/\H tp=Z (.tup (cs.map V.ref))/\(∀c∈cs,∃bm ini,b7 K fn c bm ini)/\Q (.bl (cs.any λx=>(B.ref C::bm).contains (.ref x))) H
theorem Fy:b8 X (.builtin "isinstance") (Hj X.K fn cs):=by
 intro gd s σ H xs us Q I r h;let(a,C,b,fs,bm,ini,tp,U,ex,g,ht,hc,q):=h;cases r with
 |cons h1 V =>
  cases V with
  |cons h2 P =>
   cases P
   cases(fR h1)
   cases(fR h2)
   let(_,its,hv,hi):=I.hok tp _ ht;have e:=DS hv;subst e;let(((oc,od,ak,osl),h3,h4,n,h5),_):=hi;cases h4;cases h5;exact W.kia_tup (yI g) I.kIn (ex.cls I.hok) h3 (Bd g hc) (λz=>nomatch z) λtk=>(.bl _,H,I.tok tk,U,q)
def Ou(K:BT)(fn:List Str)(cs:List J)(qe:QE):QE:=λq Q=>qe q λt=>match t with
 |.xc C _ _=>∃bm ini,b7 K fn C bm ini/\Q (.b (cs.any λx=>(B.ref C::bm).contains (.ref x)))
 |_=>False
def GJ(hc:∀c∈cs,∃bm ini,b7 K fn c bm ini)(hl:cs.length<=1000)(h:gf K te qe):iV K (tCB (Hj K fn cs) (bM te (bM (Gf (tCs cs)) fg))) (Ou K fn cs qe):=by
 intro dl H σ q Q R rd hq k;refine h dl H σ q _ _ rd hq λv t F H1 P r1 g=>?_
 split at g
 ·let(bm,ini,cx,g):=g;refine Lo (vr (aF (by rw[dN];exact hl)),λp hp=>?_)
  have ev:=(Evo.refl P.d).new (o:=.tup (cs.map V.ref)) hp;have r2:=r1.evo P.d ev;let(a,b,vs,U,U,ex,rs):=r2.r.exc;exact(a,_,b,_,bm,ini,p,U,ex,cx,au,hc,k _ _ [] _ (P.trans ev) (.b _,nofun) nofun p7 g)
 ·exact g.elim
def Md{g}(Q:X.K=K)(hg:Gl X "isinstance")(hm:X.mg "isinstance"=Y)(P:PCs X K fn es cs)(h:QPE X K e te qe)(hl:cs.length<=1000:=by simp)
  (he:‹pq [e,.Tuple es g p2] X.env=(ϊ,eval e X.env)::pq [.Tuple es g p2] X.env›) (z:‹pq [.Tuple es g p2] X.env=(ϊ,eval (.Tuple es g p2) X.env)::pq [] X.env›) (q:‹(backTo pos (pq [.Tuple es g p2] X.env)).any (·.1)=false›):
  QPF X K (.Call (.Name "isinstance" p) [e,.Tuple es g p2] [] pos) (tCB (Hj K fn cs) (bM te (bM (Gf (tCs cs)) fg))) (Ou K fn cs qe):=by
 subst Q;exact(gW Fy hg hm U (bq h.h (bq (AL P.h) cM z) he) ac ac he q,GJ P.c hl h.s)
end
def Dep:Nat->T->Prop
 | 0,t=>(∃x,t=.s x)\/∃x,t=.i x
 |n+1,t=>(∃x,t=.s x)\/(∃x,t=.i x)\/∃ts,t=.t ts/\∀x∈ts,Dep n x
theorem Dep.s:Dep n (.s x):=by cases n <;> exact .inl (x,U)
theorem Dep.i{x:Int}:Dep n (.i x):=by
 cases n
 ·exact .inr (x,U)
 ·exact .inr (.inl (x,U))
theorem Dep.t{ts:List T}(h:∀x∈ts,Dep n x):Dep (n+1) (.t ts):=.inr (.inr (ts,U,h))
def Dep.mono{m:Nat}{t:T}(h:Dep n t)(hm:n<=m):Dep m t:=by
 induction n generalizing m t with
 |zero =>
  obtain⟨x,rfl⟩|⟨x,rfl⟩:=h
  ·exact Dep.s
  ·exact Dep.i
 |succ n g =>
  obtain⟨x,rfl⟩|⟨x,rfl⟩|⟨ts,rfl,h⟩:=h
  ·exact Dep.s
  ·exact Dep.i
  ·obtain⟨k,rfl⟩:∃k,m=k+1:=(m-1,by lia)
   exact Dep.t λx hx=>g (h x hx) (by lia)
variable{N':List Str}{sc:Scope}{fp:List J}
section
variable{X:Cx}{K:BT}{a b:Ev}{es:List Ev}{te ta tb:TE}{qe qa qb:QE}{tl:TA}{ql:QA}{pos p:Pos}{k k':Nat}{f:J}
structure Dn(K:BT)(mg:Str->Option B)(x:Str)(st:EQ)(f:J)(fd:Ch)(ps:List Str):Prop where
 F:Fun K x x st f fd
 m:mg x=Z (.ref f)
 b:Binds K fd ps []
def aL{ps:PSp}(F:bj X.prog X.w X.K X.mg X.base CX0 k f fd prs (spQ K ps))(hr:cN k' X.A)(D:Dn X.K X.mg x st f fd prs)(ha:QPA X K (e::es) tl ql)(hk:k<=k':=by first|decide|omega)(hg:Gl X x:=by exact U)
  (q:autoParam (AS x) zdc._auto_1) (he:‹AC X e es›) (g:‹AM X pos es›):
  QPF X K (.Call (.Name x p) (e::es) [] pos) (B4 (spQ K ps) [] E0 tl) (fb ps ql):=Mh F (hr.mono hk) hg D.m D.F.kp D.b ha q he g
def VH{ps:Kr}(F:bj X.prog X.w X.K X.mg X.base (CX1 X.prog X.w) k f fd prs (D4 K ps))(hr:cN k' X.A)(D:Dn X.K X.mg x st f fd prs)(ha:QPA X K (e::es) tl ql)(hk:k<=k':=by first|decide|omega)(hg:Gl X x:=by exact U)
  (z:autoParam (AS x) zdc._auto_1) (he:‹AC X e es›) (g:‹AM X pos es›):
  QPX X K (.Call (.Name x p) (e::es) [] pos) (λEs=>Ab (D4 K ps) Es tl) (λq Q W=>ql q λts=>ps ts Q W):=L0 F (hr.mono hk) hg D.m D.F.kp D.b ha z he g
def ax:QPA X K [] fg cB:=xu.w ai
def ah{i j}:QPE X K (.Constant (.int i) j pos) (tC (.int i)) (qC (.i i)):=Zi bw
def bW(hm:X.mg "len"=Y)(ha:QPA X K (e::es) tl ql)(hg:Gl X "len":=by exact U)(q:X.K=K:=by exact U)
  (he:‹AC X e es›) (g:‹AM X pos es›):QPF X K (.Call (.Name "len" p) (e::es) [] pos) (tCB (Hg K) tl) (qCB AE ql):=cF (Fx q) LI hg hm (by kernel_rfl) ha ac ac he g
def aA(i:Nat)(g:X.N.Nodup)(he:QPF X K e te qe)(hi:‹X.N[i]?=Z x›)(hx:Loc X.env.scope x:=by first|exact .inl rfl|exact .inr U)(hs:‹swapsWith e (Z (.Name x pos')) pos.line X.env=pure false›)(hf:AT X x:=by first|exact .inl rfl|exact .inr rfl|assumption):
  QPS X K (.Assign [.Name x pos'] e pos) (ix te (fB i)) (oN i qe):=Qc g hi hx he hs hf
def bp(i:Nat)(g:X.N.Nodup)(hi:‹X.N[i]?=Z x›)(hx:Loc X.env.scope x:=by first|exact .inl rfl|exact .inr U)(hf:AT X x:=by first|exact .inl rfl|exact .inr rfl|assumption):PG X (.Name x pos) (fB i):=lX g hi hx hf
def c9{cl:List (Str×J)}{s₂:ϋ}{H₂:Hp}(i:Nat)(g:N'.Nodup:=by decide +kernel)(hi:‹N'[i]?=Z x›)(hx:Loc (blk X N' sc cl C s₂ H₂ fp).env.scope x:=by first|exact .inl rfl|exact .inr U)(hf:‹(blk X N' sc cl C s₂ H₂ fp).env.scope.names.lookup x=Z .local›):PG (blk X N' sc cl C s₂ H₂ fp) (.Name x pos) (fB i):=lX (X:=blk X N' sc cl C s₂ H₂ fp) g hi hx (.inr hf)
def dz{q g:Str}{t1 t2:TG}{j:Nat}(h1:PG X (.Name q p1) t1)(h2:PG X (.Name g p2) t2)(Q:X.K=K:=by exact U)(P:X.calm=true:=by exact U)
  (hn:‹(assignEach [.Name q p1,.Name g p2] X.env).length=2›) (z:‹(assignEach [.Name q p1,.Name g p2] X.env).findIdx? (·.1)=none›):PG X (.Tuple [.Name q p1,.Name g p2] j pos) (NK K 2 (CY t1 (CY t2 R5))):=lV Q P (cb h1 (cb h2 lU)) hn z
def bB(g:X.A.units+1<cLine)(ha:QPE X K a ta qa)(q:QPE X K b tb qb)(z:X.K=K:=by exact U):QPT X K (.Compare a [.Eq] [b] pos) (B2 (tOp (P8 K) ta tb)) (lO (qOp Ej qa qb)):=bV (AU g z) vS (bN _) ha q
def qQ(ha:QPE X K a ta qa)(g:QPE X K b tb qb):=bV (pos:=pos) Uo (vT (K:=K) (g':=λi j=>.b (decide (i<j))) λ_ _ _ _=>.b _) (bN _) ha g
def Hq(ha:QPE X K a ta qa)(g:QPE X K b tb qb):=bV (pos:=pos) CC (vT (K:=K) (g':=λi j=>.b (decide (j<i))) λ_ _ _ _=>.b _) (bN _) ha g
end
abbrev NI(K:BT)(x:Str)(f:J):Prop:=W.nsIn K mainGlobals x=Z (Z (.ref f))
abbrev LK(K:BT)(f:J)(x q:Str)(st:EQ)(oc:B)(od:Option J)(kV dc pm:B)(an:Option J)(cd ct:B)(sl:Array (Option B)):Prop:=K.lookup f=Z (oc,od,.func (W.fnOf x q (dF st) (bQ st) (aw st) .none kV dc pm an cd ct),sl)
abbrev CI(K:BT)(cd:B)(x:Str):Prop:=W.codeIn K cd x=O
abbrev KI(K:BT)(f:J):Prop:=W.keepIn K (.ref f)=O
variable{p4:Str}
section
variable{K:BT}{q:Str}{f:J}{oc kV dc pm cd ct:B}{od an:Option J}{sl:Array (Option B)}
abbrev NB(K:BT)(x:Str):Prop:=W.nsIn K mainGlobals x=Z Y
inductive DY(K:BT)(x:Str)(st:EQ)(f:J):Prop
 |mk(n:NI K x f)(fd:Ch)(F:Fun K x x st f fd)
inductive DM(K:BT)(C:J)(x q:Str)(st:EQ)(f:J):Prop
 |mk(M:Meth K C x f)(fd:Ch)(F:Fun K x q st f fd)
def DY.of(n:NI K x f)(l:LK K f x x st oc od kV dc pm an cd ct sl)(c:CI K cd x)(k:KI K f):DY K x st f:=(n,_,kY l c k)
theorem DM.of(m:W.findIn K (.ref C) x=Z (Z (.ref f)))(l:LK K f x q st oc od kV dc pm an cd ct sl)(c:CI K cd q)(k:KI K f)(i:W.isFn K (.ref f)=O):DM K C x q st f:=((m,i,k),_,kY l c k)
theorem Fun.b1{p1:Str}(F:Fun K x q st f fd)(g:∀kV dc pm an cd ct u1,bindArgs (W.fnOf x q (dF st) (bQ st) (aw st) .none kV dc pm an cd ct) ([u1],[])=pure [(p1,u1)]:=by intros;rfl):Binds K fd [p1] []:=F.binds λkV dc pm an cd ct us hl=>UA (P:=λus=>bindArgs _ (us,[])=pure (YH _ us)) (g kV dc pm an cd ct) us hl
theorem Fun.b2{p1 p2:Str}(F:Fun K x q st f fd)(g:∀kV dc pm an cd ct u1 u2,bindArgs (W.fnOf x q (dF st) (bQ st) (aw st) .none kV dc pm an cd ct) ([u1,u2],[])=pure [(p1,u1),(p2,u2)]:=by intros;rfl):Binds K fd [p1,p2] []:=F.binds λkV dc pm an cd ct us hl=>Uz (P:=λus=>bindArgs _ (us,[])=pure (YH _ us)) (g kV dc pm an cd ct) us hl
theorem Fun.b3{p1 p2 p3:Str}(F:Fun K x q st f fd)(z:∀kV dc pm an cd ct u1 u2 g,bindArgs (W.fnOf x q (dF st) (bQ st) (aw st) .none kV dc pm an cd ct) ([u1,u2,g],[])=pure [(p1,u1),(p2,u2),(p3,g)]:=by intros;rfl):Binds K fd [p1,p2,p3] []:=F.binds λkV dc pm an cd ct us hl=>Uy (P:=λus=>bindArgs _ (us,[])=pure (YH _ us)) (z kV dc pm an cd ct) us hl
theorem Fun.b4{p1 p2 p3:Str}(F:Fun K x q st f fd)(Q:∀kV dc pm an cd ct u1 u2 z g,bindArgs (W.fnOf x q (dF st) (bQ st) (aw st) .none kV dc pm an cd ct) ([u1,u2,z,g],[])=pure [(p1,u1),(p2,u2),(p3,z),(p4,g)]:=by intros;rfl):Binds K fd [p1,p2,p3,p4] []:=F.binds λkV dc pm an cd ct us hl=>Ux (P:=λus=>bindArgs _ (us,[])=pure (YH _ us)) (Q kV dc pm an cd ct) us hl
theorem Fun.b5{p1 p2 p3 V:Str}(F:Fun K x q st f fd)(hb:∀kV dc pm an cd ct u1 u2 Q z g,bindArgs (W.fnOf x q (dF st) (bQ st) (aw st) .none kV dc pm an cd ct) ([u1,u2,Q,z,g],[])=pure [(p1,u1),(p2,u2),(p3,Q),(p4,z),(V,g)]:=by intros;rfl):Binds K fd [p1,p2,p3,p4,V] []:=F.binds λkV dc pm an cd ct us hl=>Uw (P:=λus=>bindArgs _ (us,[])=pure (YH _ us)) (hb kV dc pm an cd ct) us hl
end
def ItV(v d:J)(h:Do):Prop:=h.IsItemsView v d
inductive Av(x:V)(vs:List V)(H:Hp)(Q:VK):Prop
 |mk(d kvs:_)(h1:x=.ref d)(h2:vs=[])(h3:Rd H d (.dK kvs))(h4:∀v,H v=Y->v≠d->Q (.ref v) (upd H v (.ext (ItV v d))))
section
variable{X:Cx}{o:Ev}{to:TE}{p apos aW:Pos}
theorem Rd.lt{w:Cl}{h:Do}{u:HO}(r:Rd H a u)(x:HOk P w H h):a<h.objs.size:=(r.ok x).lt
def IZ:MtR X "dict.items" Av:=by
 intro gd s σ H x vs v us Q I P V h;let(d,kvs,U,U,hd,q):=h;cases P;have g:=V.zero;subst g;let(z,hS,ws,r,dd):=i9 I.hok hd;have lt:=Rd.lt hd I.hok;refine call_meetsIn PySem.F.slot_dict_items dd.typeIs PySem.F.entry_dict_items (PySem.F.args_dict_items_1 _) (meets_dict_items (bf X.prog X.w) d hS) ((ws,dd),?_);have K:(s.heap.push {cls:=.type "dict_items",data:=.fields #[.ref d]}).get? s.heap.objs.size=Z {cls:=.type "dict_items",data:=.fields #[.ref d]}:=px s.heap U;have I1:=I.laid (a:=s.heap.objs.size) (o:=.ext (ItV s.heap.objs.size d)) (h':=s.heap.push {cls:=.type "dict_items",data:=.fields #[.ref d]}) (t':=s.toks) (λb u e=>f9 _ e) (ot _)
  ((_,K,U,U),(_,K),λh1 h2 x k=>by let(o,ho,c):=x;exact(o,k o ho,c))
 exact(.ref s.heap.objs.size,_,I1,U,q _ (I.hok.fresh (ot _)) (E3 lt))
def Gi(to:TE):TE:=λσ H Q=>to σ H λx H1=>Av x [] H1 Q
def Iv(ho:PE X o to)(cH:‹attributeBase o "items" X.env (eval o X.env)=eval o X.env›)(cG:‹(apos.endLine==aW.line)=true›):PE X (.Call (.Attribute o "items" apos) [] [] aW) (Gi to):=by
 left;refine wpAny_Call_method0_late cH cG (thn (ho gd s σ H _ I h) λv s1 g=>?_)
 let(x,H1,P,V,K):=g;let(d,kvs,U,e,hd,q):=id K;cases V;let(z,hS,ws,r,dd):=i9 P.hok hd;exact("dict","dict.items",PySem.F.plainAttrs_dict,PySem.F.slot_dict_items,PySem.F.type_dict_items,dd.typeIs,dd.mapOf.noDict,Calls.callWith_builtin U (PySem.evalArgs_none (IZ gd s1 σ H1 (.ref d) [] (.ref d) [] Q P U .nil K)))
def kT:Key->T
 |.inl i=>.i i
 |.inr x=>.s x
def Oy(p:Key×T):T:=.t [kT p.1,p.2]
end
section
variable{X:Cx}{K:BT}{a b:Ev}{ta:TE}{qa:QE}{pos p:Pos}
def Vr(qa:QE):QJ:=λq Q=>qa q λt=>match t with|.l xs=>Q (ia xs) q|_=>False
def qU{x1}(hm:X.mg "enumerate"=Y)(ha:QPF X K a ta qa)(hg:Gl X "enumerate":=by exact U)(hs:‹AD X a›)(ak:‹AC X a []›)(hK:‹X.K=K›):
  QPJ X K (.Tuple elts x1 pos') (.Call (.Name "enumerate" p) [a] [] pos) (rR K ϊ (bM ta fg)) (Vr qa):=(jy hK hg hm (by kernel_rfl) (bq ha.h cM ak) hs,λdl bd hs H σ q Q R (F0,P) hq k=>ha.s dl H σ q _ _ P.rd hq λv t F H' e1 r f n V=>by
 split at V
 ·have r1:=(P.evo e1).hold r λj u hj b hb z=>(P.gC hb).no (f b z)
  let(l1,g,G,U,U,h1,h2):=r.r.lst;exact(l1,U,(g,SqL.of h1),k _ _ _ H' q (F0,r1) ml V)
 ·exact V.elim)
end
section
variable{K:BT}
end
end L2
namespace PySem
open Sem (wp)
end PySem
namespace L2
open PySem PySem.Spec PyProof.Rows
def me:List T->Option (List Key)
 |[]=>Z []
 |x::r=>match x.key,me r with
  |some k,Z ks=>Z (k::ks)
  |_,_=>Y
theorem az.Jn{K:BT}{dl:Dl}{H:Hp}:∀{xs:List T}{vs:List V}{F:List J}{ks:List Key},az K dl H vs xs F->me xs=Z ks->vs=ks.map kV
 |[],_,_,_,h,e=>by cases h;cases e;rfl
 |x::r,_,_,_,h,e=>by
  cases h with
  |cons h1 h2 =>
   unfold me at e
   split at e
   ·next k ks q g =>
    cases e;rw[h1.key q,az.Jn h2 g];rfl
   ·cases e
end L2
namespace PySem
open Sem (wp)
section
variable{prog:Da}{w:Cl}{A:Db}{E:B->ϋ->Prop}{s:ϋ}
def nV{id:String}{b:Builtin}{args:List B}{kw:List (Str×B)}{Q:B->ϋ->Prop}(hk:builtinKind id=Y)(hp:plainId id=O)(z:entryFor table id=Z b)(ha:argsOk id (args,kw))
  (g:wpAny (model prog w) A.in1 (b (args,kw)) (λfin s'=>match fin with
   |.done f=>(match(Except.ok f:Result)with|.ok (.ret v)=>Q v s' |.ok _=>False|.error e=>E e s')
   |.again q=>q.quiet=O/\codeAny (model prog w) A q (λr s'=>match r with|.ok (.ret v)=>Q v s' |.ok _=>False|.error e=>E e s') s') E s):
  wpAny (model prog w) A (call (.builtin id) args kw) Q E s:=by
 refine wpAny_call (codeAny_call_builtin hp z ?_);simp only[checkBuiltinCall,hk];cases K:Manifest.signature? id with
 |none=>exact mX g
 |some sig =>
  simp only[argsOk,K]at ha;have h2:=ha;show wpAny _ A.in1 (Bind.checkArgs id sig (args,kw)) _ _ s;rw[h2];exact mX g
end
end PySem
namespace L2
open PySem PySem.Spec PyProof.Rows
def uc(ns:List Int)(d:Int):Int:=match ns with
 |[]=>d
 |x::r=>r.foldl max x
theorem foldl_max:∀(r:List Int)(x:Int),(r.foldl max x=x\/r.foldl max x∈r)/\x<=r.foldl max x/\∀y∈r,y<=r.foldl max x
 |[],x=>(.inl U,WZ _,λ_ h=>nomatch h)
 |y::r,x=>by
  let(h1,h2,h3):=foldl_max r (max x y);refine(?_,XH (Int.le_max_left x y) h2,λz g=>?_)
  ·obtain h1|h1:=h1
   ·show YY max (max x y) r=x\/YY max (max x y) r∈y::r;rw[h1];by_cases e:x<=y
    ·rw[Int.max_eq_right e];exact .inr lj
    ·rw[Int.max_eq_left (by lia)];exact .inl U
   ·exact .inr (jQ _ h1)
  ·obtain rfl|g:=pj.mp g
   ·exact XH (Int.le_max_right x _) h2
   ·exact h3 z g
variable{ns:List Int}
def Nc{d M:Int}(h1:M∈ns)(h2:∀y∈ns,y<=M):M=uc ns d:=by
 cases ns with
 |nil=>cases h1
 |cons x r =>
  let(a1,a2,g):=foldl_max r x;show M=r.foldl max x;refine Int.le_antisymm ?_ ?_
  ·obtain rfl|h:=pj.mp h1
   ·exact a2
   ·exact g M h
  ·obtain a1|a1:=a1
   ·rw[a1];exact h2 x lj
   ·exact h2 _ (jQ _ a1)
variable{dl:Dl}{H:Hp}
section
variable{X:Cx}{K:BT}{e b:Ev}
def Kg(h:0<ns.length):∃M,ns[argBest (λi j=>decide (ns.getD i 0 > ns.getD j 0)) (ns.length-1)]?=Z M/\M=uc ns 0:=by
 let(h1,h2):=argBest_gt (λi=>ns.getD i 0) (ns.length-1)
 have g:argBest (λi j=>decide (ns.getD i 0 > ns.getD j 0)) (ns.length-1)<ns.length:=by omega
 refine(_,gs g,Nc (SR g) λy q=>?_)
 let(j,z,U):=uj q
 have:=h2 j (by lia)
 rw[BV,BV,gs z,gs g]at this;exact this
theorem fN:∀{ns:List Int}{its:List B},Vals (ns.map V.int) its->∀(i:Nat)(v:B),its[i]?=Z v->∃t,v=.int (ns.getD i 0) t
 |[],_,h,i,v,e=>by cases h;simp at e
 |n::r,_,h,i,v,e=>by
  cases h with
  |cons h1 h2 =>
   cases i with
   |zero =>
    simp at e;let(t,g):=h1;exact(t,by rw[<- e,g];rfl)
   |succ i =>
    let(t,g):=fN h2 i v (e:)
    exact(t,by rw[g];rfl)
def az.OP{vs:List V}{F:List J}(h:az K dl H vs (ns.map T.i) F):vs=ns.map V.int/\F=[]:=by
 let(U,U):=h.vs (by unfold fls;rw[Y3,WU];exact λ_ _=>rfl)
 exact(by rw[u4];rfl,U)
def Fo(hc:X.calm=O):b8 X (.builtin "max") (λxs H Q=>∃l ns,xs=[.ref l]/\SqL X.K H l (ns.map V.int)/\ns ≠ []/\Q (.int (uc ns 0)) H):=by
 intro gd s σ H xs us Q I r h;let(l,ns,U,hl,ak,q):=h;let(u,U,ru):=vals1 r;cases ru;let(its,rl,pl,hz):=I.list hl;have hlen:=rl.length;rw[dN]at hlen;have yO:=W5.mpr ak;refine call_max_walk (wpAny_pyIter_list pl.isList ?_);let(ol,g,ay,nl,ar):=id pl.isList;have P:=kn g;refine(_,_,_,_,_,_,_,U,Walks.list (A:=X.A.in1) (I.ok.hd hc) _ l (sT P) its.toArray,((_,px _ U,U,U),(ol,f9 _ g,ay,nl,ar)),λb hb=>?_,by rw[sQ];lia,CmpOf.ints_gt (λi=>ns.getD i 0) (λi v ei=>fN rl i v (ei:)),λv h' tk hP hk=>?_)
 ·rw[BS];obtain z|z:=pj.mp hb
  ·rw[z];exact W7 _
  ·rw[fy.mp z];exact Xk P
 ·rw[sQ,<- hlen,Xy]at hP;let(M,hM,eM):=Kg yO;let(t',U):=fN rl _ v hP;refine(.int (uc ns 0),_,I.kept (λb o e=>hk b o (λz=>?_) (f9 _ e)),(t',?_),q)
  ·have:=kn e
   rw[fy.mp z]at this;exact Kt _ this
  ·rw[<- eM,BV,hM];rfl
def BH(q:X.K=K)(g:X.calm=O):b8 X (.builtin "max") (λxs H Q=>∃l ns,xs=[.ref l]/\SqL K H l (ns.map V.int)/\ns ≠ []/\Q (.int (uc ns 0)) H):=by subst q;exact Fo g
def GG:mU K (λxs H Q=>∃l ns,xs=[.ref l]/\SqL K H l (ns.map V.int)/\ns ≠ []/\Q (.int (uc ns 0)) H) (λts Q=>match ts with|[.l xs]=>∃ns:List Int,xs=ns.map .i/\ns ≠ []/\Q (.i (uc ns 0))|_=>False):=λdl H vs ts F Q R D r hq k=>by
 dsimp only at hq
 split at hq
 ·let(v,U,q):=r.one;let(ns,U,g,hq):=hq;let(l,vs,G,U,U,h1,h2):=q.r.lst;let(U,U):=h2.OP;exact(l,ns,U,SqL.of h1,g,k _ _ [] H (.refl D) (.c (.i _)) nofun p7 hq)
 ·exact hq.elim
end
variable{j:Nat}{x:Str}
section
variable{X:Cx}{K:BT}{bd:Hp}{hs:List (V×T)}{σ:St}{q:Sq}{F:Nat->List J}{e o:Ev}{pos pos':Pos}
def Rel.move{i:Nat}{t:T}{v:V}(r:Rel K dl bd hs H σ q F)(ay:i≠j)(hi:i<q.length)(hj:q[j]?=Z (.o t))(hv:σ[j]?=Z (Z v)):eQ K dl bd hs H (σ.set i (Z v)) ((q.set j .no).set i (.o t)):=by
 let(o1,o2,o3):=r.o j t hj;let(v',ak,rp):=r.g j _ t hj U;rw[hv]at ak;cases ak;have lk:∀{k:Nat}{x:Sl},((q.set j .no).set i (.o t))[k]?=Z x->(k=i/\x=.o t)\/(k≠i/\k=j/\x=.no)\/(k≠i/\k≠j/\q[k]?=Z x):=λ{k x} h=>by
  obtain⟨e1,e2,_⟩|⟨e1,e2⟩:=get_set h
  ·exact .inl (e1,e2)
  ·obtain⟨e3,e4,_⟩|⟨e3,e4⟩:=get_set e2
   ·exact .inr (.inl (e1,e3,e4))
   ·exact .inr (.inr (e1,e3,e4))
 refine(oM (oM F j []) i (F j),r.d,λk x u h1 h2=>?_,λk x h1 h2=>?_,λk hk=>?_,λk u h1=>?_,λp hp=>?_,r.f,by simp[r.l])
 ·obtain⟨rfl,rfl⟩|⟨Q,rfl,rfl⟩|⟨Q,n2,h1⟩:=lk h1
  ·cases h2;exact(v,by rw[W0 (by rw[<- r.l];exact hi)],by rw[aY];exact rp)
  ·cases h2
  ·let(w,h3,h4):=r.g k x u h1 h2;exact(w,by rw[N8 (λz=>Q z.symm)];exact h3,by rw[aK Q,aK n2];exact h4)
 ·obtain⟨rfl,rfl⟩|⟨Q,rfl,rfl⟩|⟨Q,n2,h1⟩:=lk h1
  ·cases h2
  ·rw[aK Q,aY]
  ·rw[aK Q,aK n2];exact r.n k x h1 h2
 ·rw[SO,SO]at hk;have ar:=(iY.mp hj).1;rw[aK (by lia),aK (by lia)]
  exact r.z k hk
 ·have mem:∀{m:Nat}{b:J},b∈(oM (oM F j []) i (F j)) m->(m=i/\b∈F j)\/(m≠i/\m≠j/\b∈F m):=λ{m b} P=>by
   by_cases e1:m=i
   ·subst e1;rw[aY]at P;exact .inl (U,P)
   ·rw[aK e1]at P;by_cases e2:m=j
    ·subst e2;rw[aY]at P;cases P
    ·rw[aK e2]at P;exact .inr (e1,e2,P)
  obtain⟨rfl,_⟩|⟨_,_,z⟩|⟨Q,n2,h1⟩:=lk h1
  ·rw[aY];refine(o1,o2,λm hm b P z=>?_)
   obtain⟨e,_⟩|⟨_,e2,z⟩:=mem z
   ·exact hm e
   ·exact o3 m e2 b P z
  ·cases z
  ·let(p1,p2,p3):=r.o k u h1;rw[aK Q,aK n2];refine(p1,p2,λm hm b P z=>?_)
   obtain⟨_,z⟩|⟨_,_,z⟩:=mem z
   ·exact p3 j n2.symm b P z
   ·exact p3 m hm b P z
 ·let(Fp,h1,h2):=r.h p hp;refine(Fp,h1,λk u hk b P=>?_)
  obtain⟨rfl,_⟩|⟨_,_,z⟩|⟨Q,n2,hk⟩:=lk hk
  ·rw[aY]at P;exact h2 j t hj b P
  ·cases z
  ·rw[aK Q,aK n2]at P;exact h2 k u hk b P
def TV(i j:Nat):QS:=λD q=>i≠j/\i<q.length/\match q[j]? with
 |some (.o t)=>D.nx ((q.set j .no).set i (.o t))
 |_=>False
def L5{i:Nat}(Q:X.N.Nodup)(he:PE X e (bZ j))(hi:‹X.N[i]?=Z x›)(hx:Loc X.env.scope x:=by first|exact .inl rfl|exact .inr U)(hs:‹swapsWith e (Z (.Name x pos')) pos.line X.env=pure false›)(hf:AT X x:=by first|exact .inl rfl|exact .inr rfl|assumption):
  QPS X K (.Assign [.Name x pos'] e pos) (ix (bZ j) (fB i)) (TV i j):=(gI Q hi hx he hs hf,λdl bd hs H σ q Dq D (F,r) hq E=>by
 let(z,hl,hq):=hq
 split at hq
 ·rename_i t P;let(v,hv,_):=r.g j _ t P U;exact(v,hv,E.nx H _ _ (r.move z hl P hv) hq)
 ·exact hq.elim)
end
namespace TM
open Sem (wp)
open Builtin
end TM
end L2
namespace PySem
open AutoSeq1 (wpAny_loadPart')
open MeetsSeq MeetsSeq2 MeetsSeq3
end PySem
namespace L2
open PySem PySem.Spec PyProof.Rows
variable{elts:List Ev}{pos':Pos}{tl:TA}{ql:QA}
section
variable{X:Cx}{K:BT}{a:Ev}{pos:Pos}
def Vp(ql:QA):QI:=λq Q=>ql q λts=>match ts with|[.l xs]=>Q (ia xs)|_=>False
def Hw{V}{p:Pos}(hg:Gl X "enumerate")(hm:X.mg "enumerate"=Y)(jJ:bootBuiltins "enumerate"=Z (.type "enumerate"))(ha:QPA X K [a] tl ql)(hs:‹AD X a›)(hK:‹X.K=K›):
  QPI X K (.Tuple elts V pos') (.Call (.Name "enumerate" p) [a] [] pos) (rR K ϊ tl) (Vp ql):=(jy hK hg hm jJ ha.h hs,λdl H σ q Q R rd hq k=>ha.s dl H σ q _ _ rd hq λvs ts F H' e1 r _ z=>by
 split at z
 ·let(v,U,P):=r.one;let(l1,g,G,U,_,h1,h2):=P.r.lst;exact(l1,U,(g,SqL.of h1),k _ _ _ H' e1 ml (λp hp=>by rw[fy.mp hp];exact(_,P)) z)
 ·exact z.elim)
end
end L2
namespace PySem
open Sem (wp)
section
variable{prog:Da}{w:Cl}{A:Db}{R:Result->ϋ->Prop}{I:J}{fp wr:List J}{n:Nat}{P:Nat->B->Prop}{St:Nat->Do->Prop}{κ:Type}[DecidableEq κ]{knd:KeyKind prog w κ}
def cR(xs more:List (List κ×J×B)):List (List κ×J×B):=more.foldl (λacc p=>storedH acc p.1 p.2.1 p.2.2) xs
def qy(xs:List (List κ×J×B))(k:List κ)(a:J)(v:B):(storedH xs k a v).length<=xs.length+1:=by
 unfold storedH
 split <;> simp
def rG(more:List (List κ×J×B)):∀(xs:List (List κ×J×B)),(cR xs more).length<=xs.length+more.length:=by
 induction more with
 |nil=>intro xs;exact ot _
 |cons p r g =>
  intro xs;have h1:=g (storedH xs p.1 p.2.1 p.2.2);have h2:=qy xs p.1 p.2.1 p.2.2;show(cR (storedH xs p.1 p.2.1 p.2.2) r).length<=_;simp only[ri]
  lia
def wH(xs more:List (List κ×J×B))(p:List κ×J×B):cR xs (more++[p])=storedH (cR xs more) p.1 p.2.1 p.2.2:=by
 unfold cR;rw[Ym];rfl
def nh{h h':Do}{ks:List κ}{b:J}(x:(tupleKind knd).is h ks b)(k:∀o,h.get? b=Z o->h'.get? b=Z o):(tupleKind knd).is h' ks b:=by
 let(o,its,m,h1,r):=x;exact(o,its,m,k o h1,r)
def Heap.DictOfH.at{h h':Do}{S:J}{xs:List (List κ×J×B)}(x:h.DictOfH (tupleKind knd) S xs)(k:∀o,h.get? S=Z o->h'.get? S=Z o)(q:∀z∈xs,∀o,h.get? z.2.1=Z o->h'.get? z.2.1=Z o):h'.DictOfH (tupleKind knd) S xs:=by
 let(o,es,ep,h1,h2,h3,h4,h5,h6):=x;exact(o,es,ep,k o h1,h2,h3,h4,λz g=>nh (h5 z g) (q z g),h6)
def mem_storedH{xs:List (List κ×J×B)}{k:List κ}{a:J}{v:B}{z:List κ×J×B}(h:z∈storedH xs k a v):z.2.1=a\/∃y∈xs,y.2.1=z.2.1:=by
 unfold storedH at h
 split at h
 ·let(y,q,U):=n8.mp h;refine .inr (y,q,?_);unfold putAt
  split <;> rfl
 ·obtain g|g:=n6.mp h
  ·exact .inr (z,g,U)
  ·rw[fy.mp g];exact .inl U
def yD{more:List (List κ×J×B)}:∀{xs:List (List κ×J×B)}{z:List κ×J×B},z∈cR xs more->(∃y∈xs,y.2.1=z.2.1)\/∃y∈more,y.2.1=z.2.1:=by
 induction more with
 |nil=>intro xs z h;exact .inl (z,h,U)
 |cons p r K =>
  intro xs z h;obtain⟨y,g,e⟩|⟨y,g,e⟩:=K (xs:=storedH xs p.1 p.2.1 p.2.2) h
  ·obtain q |⟨u,P,q⟩:=mem_storedH g
   ·exact .inr (p,lj,by rw[<- e,q])
   ·exact .inl (u,P,by rw[q,e])
  ·exact .inr (y,jQ _ g,e)
theorem gc(hu:A.units+3<cLine)(W:Walks prog w A.in1 I fp wr n P St)(S:J)(a0:S ∉ fp)(res:B)(h0:Do)(pairs:List (List κ×J×B))(hsz:pairs.length<=pY)(bg:pairs.length=n)
  (ar:∀z∈pairs,(tupleKind knd).is h0 z.1 z.2.1/\z.2.1 ∉ wr/\z.2.1≠S)
  (hp:∀i v,P i v->∃(a b:J)(o:Obj)(val:B)(k:List κ)(m:Nat),v=.ref a/\pairs[i]?=Z (k,b,val)/\h0.get? a=Z o/\o.cls=.type "tuple" /\ o.data=.seq #[.ref b,val] m/\a ∉ wr/\a≠S):
  ∀(j i:Nat)(s:ϋ),n-i=j->i<=n->St i s.heap->s.heap.DictOfH (tupleKind knd) S (cR [] (pairs.take i))->(∀b o,b ∉ wr->b≠S->h0.get? b=Z o->s.heap.get? b=Z o) ->
  (∀h' tk,(∀b o,b ∉ wr->b≠S->s.heap.get? b=Z o->h'.get? b=Z o)->h'.DictOfH (tupleKind knd) S (cR [] pairs)->R (.ok (.ret res)) {s with heap:=h',toks:=tk}) ->
  codeAny (model prog w) A (.builtin "dict.update.loop" ([.ref S,.ref I,rawInt i,res],[])) R s:=by
 have aW:=λh=>a0 (W.sub _ h)
 have sub:∀{i:Nat}{z:List κ×J×B},z∈cR [] (pairs.take i)->z.2.1 ∉ wr/\z.2.1≠S:=λ{i z} h=>by
  obtain⟨y,hy,_⟩|⟨y,hy,e⟩:=yD h
  ·cases hy
  ·rw[<- e];exact(ar y (QL hy)).2
 intro j
 induction j with
 |zero =>
  intro i s hk hi ak hS Q hR;have bt:i=n:=by lia
  subst bt;refine SQ F.bP ?_;rw[Xm F.aQ _];refine fu (W.done s _ _ ak λh' tk g=>?_)
  refine fu (mX (mX (hR h' tk (λb o K _ e=>g b o K e) ?_)))
  have hS:=hS.at (λo=>g S o aW) λz V o=>g _ o (sub V).1
  rw[<- bg,sP]at hS;exact hS
 |succ j ih =>
  intro i s hk hi ak hS Q hR;have aN:=Xx hk;refine SQ F.bP ?_;refine fu (W.item i s _ _ aN ak λv h' tk hP uo g=>?_)
  let(a,b,o,val,k,m,U,ay,ho,hc,hd,aR,bz):=hp i v hP;have aM:=g a o aR (Q a o aR bz ho);have bK:=hS.at (λo=>g S o aW) λz V o=>g _ o (sub V).1
  have V:=ar _ (mu ay);have wV:(tupleKind knd).is h' k b:=nh V.1 λo e=>g b o V.2.1 (Q b o V.2.1 V.2.2 e)
  refine fu (FH (fu (wpAny_tryCatch ?_)));refine fu (WV (o,aM,hc) ?_);refine fu (wpAny_seqItems aM hd (mX ?_));have bh:(cR [] (pairs.take i)).length<=pY:=by
   have h1:=rG (pairs.take i) [];rw[sR,Xb]at h1;omega
  refine FH (wpAny_dictSet_heap (hsz:=bh) ?_ wV bK λb0 Bv bb=>?_)
  ·rw[Xm F.aQ _];exact tupleKind_room_in1 ap
  have e:cR [] (pairs.take (i+1))=storedH (cR [] (pairs.take i)) k b val:=by
   rw[ro,ay];exact wH _ _ _
  rw[<- e]at Bv;have fr:∀b o,b≠S->h'.get? b=Z o->b0.get? b=Z o:=λb o K eb=>(bb.2 b K).trans eb
  exact mX (UY F.aQ _,ih (i+1) _ (by rw[Yd,hk];rfl) aN (W.frame _ _ _ uo λb K o eb=>fr b o (λz=>a0 (z▸K)) eb) Bv (λb o K q eb=>fr b o q (g b o K (Q b o K q eb))) λh3 a3 br bI=>(hR h3 a3 (λb o K q eb=>br b o K q (fr b o q (g b o K eb))) bI))
theorem lE{E:B->ϋ->Prop}{s:ϋ}{S p:J}{its:Array B}{pairs:List (List κ×J×B)}{id:String}{res:B}(hu:A.units+3<cLine)(hh:A.handled=Y)(hS:s.heap.DictOfH (tupleKind knd) S [])(ay:p≠S)
  (ho:∃(o:Obj)(n:Nat),s.heap.get? p=Z o/\o.dict=Y/\o.data=.seq its n/\(o.cls=.type "tuple" \/ o.cls=.type "list")) (hsz:pairs.length<=pY) (aM:pairs.length=its.size)
  (Q:∀z∈pairs,(tupleKind knd).is s.heap z.1 z.2.1)
  (hp:∀(i:Nat)(v:B),its[i]?=Z v->∃(a b:J)(o:Obj)(val:B)(k:List κ)(m:Nat),v=.ref a/\pairs[i]?=Z (k,b,val)/\s.heap.get? a=Z o/\o.cls=.type "tuple" /\ o.data=.seq #[.ref b,val] m)
  (hR:∀h' tk,(∀b o,b≠S->s.heap.get? b=Z o->h'.get? b=Z o)->h'.DictOfH (tupleKind knd) S (cR [] pairs)->R (.ok (.ret res)) {s with heap:=h',toks:=tk}):
  wpAny (model prog w) A.in1 (Builtin.Dict.updateFrom id S (.ref p) [] res) (λfin s'=>match fin with|.done f=>R (.ok f) s' |.again c'=>c'.quiet=O/\codeAny (model prog w) A c' R s') (λe s'=>R (.error e) s') s:=by
 let(o,n,hg,V,K,g):=ho;have P:∀{a:J}{oa:Obj}{m:Nat}{us:Array B},s.heap.get? a=Z oa->oa.data=.seq us m->a≠S:=λ{a oa m us} e4 e6 z=>by
  let(o,_,_,e,hc,hd,_):=hS;rw[<- z,e4]at e;cases e;rw[e6]at hd;cases hd
 have fin:∀(h1:Do) tk h2 I St,(∀b o,s.heap.get? b=Z o->h1.get? b=Z o)->(∀b o,h1.get? b=Z o->h2.get? b=Z o)->h1.objs.size<=I->Walks prog w A.in1 I [I,p] [I] its.size (λi v=>its[i]?=Z v) St->St 0 h2 ->
   codeAny (model prog w) A (.builtin "dict.update.loop" ([.ref S,.ref I,rawInt 0,res],[])) R {s with heap:=h2,toks:=tk}:=by
  intro h1 tk h2 I St k1 k2 hI W ar;have q:∀b o,s.heap.get? b=Z o->b≠I:=λb o e z=>by
   have:=kn (k1 b o e)
   exact absurd (sS this hI) (by rw[z];exact Kt _)
  have aN:S ∉ [I,p]:=λz=>by
   let(o,_,_,e,_):=hS;obtain z|z:=pj.mp z
   ·exact q S o e z
   ·exact ay (fy.mp z).symm
  refine gc (knd:=knd) hu W S aN res s.heap pairs hsz aM (λz hz=>?_) (λi v hP=>?_) its.size 0 _ U (FI _) ar ?_ (λb o _ _ e=>k2 b o (k1 b o e)) λh' ak hk aR=>?_
  ·have hk:=Q z hz;let(oz,iz,mz,e1,e2,e3,_):=hk;exact(Q z hz,λy=>q _ oz e1 (fy.mp y),P e1 e3)
  ·let(a,b,oa,val,k,m,e1,e2,e4,e5,e6):=hp i v hP;exact(a,b,oa,val,k,m,e1,e2,e4,e5,e6,λz=>q a oa e4 (fy.mp z),P e4 e6)
  ·exact hS.at (λo e=>k2 _ _ (k1 _ _ e)) λz hz=>nomatch hz
  ·exact hR h' ak (λb o hb e=>hk b o (λz=>q b o e (fy.mp z)) hb (k2 b o (k1 b o e))) aR
 obtain g|g:=g
 ·refine fu (WV (o,hg,g) ?_);refine fu (i7 hg g K V hh λh1 tk k1=>?_)
  refine fu (Xc ?_);have hT:h1.IsTuple p its:=(o,k1 _ _ hg,g,n,K);exact fu (wpAny_pyIter_tuple hT (mX (UY F.aQ _,(fin h1 tk _ h1.objs.size _ k1 (λb o e=>f9 _ e) (ot _) (Walks.tuple (show A.in1.handled=Y from hh) _ p (sT (kn (k1 _ _ hg))) its) ((_,px _ U,U,U),hT.push _)))))
 ·refine fu (WV (o,hg,g) ?_);refine fu (jF hg g K V hh λh1 tk k1=>?_)
  refine fu (Xc ?_);have hT:h1.IsList p its:=(o,k1 _ _ hg,g,n,K);exact fu (wpAny_pyIter_list hT (mX (UY F.aQ _,(fin h1 tk _ h1.objs.size _ k1 (λb o e=>f9 _ e) (ot _) (Walks.list (show A.in1.handled=Y from hh) _ p (sT (kn (k1 _ _ hg))) its) ((_,px _ U,U,U),hT.push _)))))
end
end PySem
namespace L2
open PySem PySem.Spec PyProof.Rows
variable{H:Hp}{gd:List (J×Obj)}
section
variable{X:Cx}
def gn(kvs more:List (List Key×V)):List (List Key×V):=more.foldl (λacc kv=>putK acc kv.1 kv.2) kvs
def KT.merge:∀{more:List (List Key×V)}{rs:List (List Key×J×B)}{kvs:List (List Key×V)}{xs:List (List Key×J×B)},KT H more rs->KT H kvs xs->KT H (gn kvs more) (cR xs rs):=by
 intro more rs kvs xs r
 induction r generalizing kvs xs with
 |nil=>intro q;exact q
 |@cons p q ps qs h t z =>
  intro g;let(h1,h2,h3):=h;have e:=KT.put g p.1 (b:=q.2.1) h2 h3;have K:KT H (putK kvs p.1 p.2) (storedH xs q.1 q.2.1 q.2.2):=by rw[<- h1];exact e
  exact z K
theorem jE:∀(more kvs:List (List Key×V)),(gn kvs more).length<=kvs.length+more.length
 |[],kvs=>by show kvs.length<=kvs.length+0;lia
 |p::r,kvs=>by
  have h1:=jE r (putK kvs p.1 p.2);have h2:=gp kvs p.1 p.2;show(gn (putK kvs p.1 p.2) r).length<=_;rw[ri];lia
inductive Hk(xs:List V)(H:Hp)(Q:VK):Prop
 |mk(p:J)(ps bs:List J)(kvs:List (List Key×V))(h1:xs=[.ref p])(h2:H p=Z (.lst (ps.map V.ref)))(h3:ps.length=kvs.length)(h3':bs.length=kvs.length)(h4:∀(i:Nat)(a b:J)(kv:List Key×V),ps[i]?=Z a->bs[i]?=Z b->kvs[i]?=Z kv->H a=Z (.tup [.ref b,kv.2])/\H b=Z (.tup (kv.1.map kV)))(h5:∀d,H d=Y->Q (.ref d) (upd H d (.dT (gn [] kvs))))
def Er{σ:St}{s:ϋ}(I:Inv X gd σ H s):∀{ps bs:List J}{kvs:List (List Key×V)}{us:List B},Vals (ps.map V.ref) us->ps.length=kvs.length->bs.length=kvs.length->(∀(i:Nat)(a b:J)(kv:List Key×V),ps[i]?=Z a->bs[i]?=Z b->kvs[i]?=Z kv->H a=Z (.tup [.ref b,kv.2])/\H b=Z (.tup (kv.1.map kV))) ->
  ∃pairs:List (List Key×J×B),KT H kvs pairs/\∀(i:Nat)(v:B),us[i]?=Z v->∃(a b:J)(o:Obj)(val:B)(k:List Key)(m:Nat),v=.ref a/\pairs[i]?=Z (k,b,val)/\s.heap.get? a=Z o/\o.cls=.type "tuple" /\ o.data=.seq #[.ref b,val] m:=by
 intro ps
 induction ps with
 |nil =>
  intro bs kvs us r hl _ _;have e:kvs=[]:=by cases kvs with|nil=>rfl|cons _ _=>simp at hl
  subst e;cases r;exact([],.nil,λi v h=>by simp at h)
 |cons p ps ih =>
  intro bs kvs us r hl K h;cases kvs with
  |nil=>simp at hl
  |cons kv kvs =>
   cases bs with
   |nil=>simp at K
   |cons b bs =>
   cases r with
   |@cons _ u _ us r1 Q =>
    let(pairs,h1,h2):=ih (bs:=bs) Q (hl:) (K:) λi p b kv z q g=>h (i+1) p b kv (z:) (q:) (g:)
    let(hp,hq):=h 0 p b kv ad ad ad
    let(its,P,(o,ho,hc,m,hd),_):=I.tuple (SqT.of hp);cases P with
    |@cons _ key _ rest k1 k2 =>
     cases k2 with
     |@cons _ val _ To k3 k4 =>
      cases k4
      cases(k1)
      refine((kv.1,b,val)::pairs,.cons (U,hq,k3) h1,λi v hv=>?_)
      cases i with
      |zero =>
       simp at hv;subst hv
       cases(r1)
       exact(p,b,o,val,kv.1,m,U,by simp,ho,hc,hd)
      |succ i =>
       let(a,b',oa,Pj,k,m',z,q,g):=h2 i v (hv:)
       exact(a,b',oa,Pj,k,m',z,(q:),g)
def KT.keys{kvs:List (List Key×V)}{xs:List (List Key×J×B)}(r:KT H kvs xs):∀z∈xs,H z.2.1=Z (.tup (z.1.map kV)):=by
 induction r with
 |nil=>intro z g;cases g
 |@cons p q ps qs h t K =>
  intro z g;obtain e|e:=pj.mp g
  ·rw[e,<- h.1];exact h.2.1
  ·exact K z e
theorem BJ(hu:X.A.units+5<cLine)(hc:X.calm=O):b8 X (.type "dict") Hk:=by
 intro gd s σ H xs us Q I r h;let(p,ps,bs,kvs,U,hp,hl,ay,ak,q):=h;let(u,U,ru):=vals1 r;cases ru;have hh:=I.ok.hd hc;obtain⟨its,P,K,ob⟩:∃its:List B,Vals (ps.map V.ref) its/\(ps.map V.ref).length<=pY/\∃(o:Obj)(n:Nat),s.heap.get? p=Z o/\o.dict=Y/\o.data=.seq its.toArray n/\(o.cls=.type "tuple" \/ o.cls=.type "list"):=by
  let(K,its,n,P,e):=(I.hok p _ hp);exact(its,P,K,_,n,e,U,U,.inr U)
 let(pairs,kv,rT):=Er I P hl ay ak;refine callType_codes (Q₁:=λobj g=>obj=.ref s.heap.objs.size/\g={s with heap:=s.heap.push {cls:=.type "dict",data:=.dict #[]}}) F.kt_called_dict (F.kt_typeCall_dict_1 _) F.entry_dict_init (kt_code_dict_new _ (U,U)) ?_
 rintro obj g ⟨rfl,rfl⟩
 have rW:(s.heap.push {cls:=.type "dict",data:=.dict #[]}).DictOfH (tupleKind (bf X.prog X.w)) s.heap.objs.size []:=Heap.DictOfH.new s.heap;refine(rW.typeIs,F.args_dict_init_2 _ _,?_);refine fu ?_;refine fu (wpAny_notOrdered_dict rW.typeIs ?_);refine mX ?_;let(o,n,ho,aN,aM,aR):=ob;have ar:=P.length;rw[dN]at ar K;have aW:=Paired.length kv;refine lE (E:=λ_ _=>True) (pairs:=pairs) ?_ hh rW (sT (kn ho)) (o,n,f9 _ ho,aN,aM,aR) (by lia) (by rw[sQ];lia) (λz K=>?_) (λi v hv=>?_) λh' tk hk hd=>?_
 ·show X.A.units+1+3<cLine;omega
 ·exact nh (kS I.hok (kv.keys z K)) λo e=>f9 _ e
 ·let(a,b,oa,val,k,m,e1,e2,e4,e5,e6):=rT i v (hv:)
  exact(a,b,oa,val,k,m,e1,e2,f9 _ e4,e5,e6)
 ·refine(U,.ref s.heap.objs.size,_,I.laid (λb u e=>hk b u (sT (kn e)) (f9 _ e)) (ot _) ?_,U,q _ (I.hok.fresh (ot _)))
  let(q',es,ep,hq,h2,h3,h4,_,h5):=hd;refine(?_,?_,_,KT.keeps (KT.merge kv .nil) λc ys ec=>by rw[ao (λz=>by rw[z,I.hok.fresh (ot _)]at ec;cases ec)];exact ec,q',es,ep,hq,h2,h3,h4,h5)
  ·have:=jE kvs []
   simp only[Xb]at this
   lia
  ·have:=I.big
   exact beq_eq_false_iff_ne.mpr (E3 this)
end
variable{d:J}{dl:Dl}
section
variable{X:Cx}{K:BT}{a b e:Ev}{ta tb te:TE}{qa qb qe:QE}{pos p:Pos}
def Inv.NL{σ:St}{s:ϋ}{kvs:List (List Key×V)}(I:Inv X gd σ H s)(ha:H d=Z (.dT kvs)):∃o,Inv X gd σ (upd H d (.frz o (.dT kvs))) s:=by
 have q:∀o v,X.bd d≠Z (.frz o v):=λo v e=>by
  have:=I.base.jl d o v e
  rw[ha]at this;cases this
 let(z,hs,vs,r,o,es,ep,e,c):=(I.hok d _ ha);exact(o,I.Cf ha nofun nofun nofun q (e,z,hs,vs,KT.keeps r λc ys g=>by rw[ao (gZ g ha (λz=>nomatch z))];exact g,o,es,ep,e,c))
def yo:T->Option (List Key×V)
 |.t [.t ks,.i x]=>(me ks).map λk=>(k,.int x)
 |_=>Y
def j4:List T->Option (List (List Key×V))
 |[]=>Z []
 |x::r=>match yo x,j4 r with
  |some p,Z ps=>Z (p::ps)
  |_,_=>Y
def Et{x:T}{p:List Key×V}(h:yo x=Z p):∃ks n,x=.t [.t ks,.i n]/\me ks=Z p.1/\p.2=.int n:=by
 unfold yo at h
 split at h
 ·let(k,h1,U):=g5.mp h;exact(_,_,U,h1,U)
 ·cases h
theorem az.cv{dl:Dl}{H:Hp}:∀{xs:List T}{vs:List V}{F:List J}{kvs:List (List Key×V)},az K dl H vs xs F->j4 xs=Z kvs->∃ps bs:List J,vs=ps.map V.ref/\ps.length=kvs.length/\bs.length=kvs.length/\∀(i:Nat)(a b:J)(kv:List Key×V),ps[i]?=Z a->bs[i]?=Z b->kvs[i]?=Z kv->H a=Z (.tup [.ref b,kv.2])/\H b=Z (.tup (kv.1.map kV))
 |[],_,_,_,h,e=>by cases h;cases e;exact([],[],U,U,U,λi a b kv h=>by simp at h)
 |x::r,_,_,_,h,e=>by
  cases h with
  |cons h1 h2 =>
   unfold j4 at e
   split at e
   ·rename_i p ps q g;cases e;let(ks,n,U,hk,hv):=Et q;let(qs,bs,U,l1,l2,P):=h2.cv g;let(a,us,U,ha,hr):=h1.tup;cases hr with
    |cons g1 g2 =>
     cases g2 with
     |cons g3 g4 =>
      cases g4;let(b,ws,U,Q,hw):=g1.tup;let(U,_):=g3.int;have ew:=hw.Jn hk;subst ew;refine(a::qs,b::bs,U,by simp[l1],by simp[l2],λi a' b' kv q g z=>?_)
      cases i with
      |zero=>cases q;cases g;cases z;rw[hv];exact(ha,Q)
      |succ i=>exact P i a' b' kv (q:) (g:) (z:)
   ·cases e
def PD(te:TE):TE:=λσ H Q=>tCB Hk (bM te fg) σ H λv H1=>∃d kvs,v=.ref d/\H1 d=Z (.dT kvs)/\∀o,Q v (upd H1 d (.frz o (.dT kvs)))
def Qt(qe:QE):QE:=λq Q=>qe q λt=>match t with
 |.l xs=>Ex3 (λkvs=>j4 xs=Z kvs) (λkvs=>.fz (.dT (gn [] kvs))) Q
 |_=>False
def HD(hu:X.A.units+150<cLine)(hm:X.mg "dict"=Y)(he:QPF X K e te qe)(hg:Gl X "dict":=by exact U)(hc:X.calm=true:=by exact U)
  (hv:bootBuiltins "dict"=Z (.type "dict"):=by kernel_rfl) (hs:‹AC X e []›) (V:‹(backTo pos (pq [] X.env)).any (·.1)=false›):
  QPF X K (.Call (.Name "dict" p) [e] [] pos) (PD te) (Qt qe):=(by
 left;refine thn (uR (BJ ap hc) hg hm hv (bq he.h cM hs) ac ac hs V gd s σ H _ I h) λu s' ak=>?_
 let(v,H',I',r,d,kvs,g,e2,q):=ak;let(o,I2):=I'.NL e2;exact(v,_,I2,r,q o),λdl H σ q Q R rd hq k=>he.s dl H σ q _ _ rd hq λv t F H1 g r1 f1 n1 P=>by
 split at P
 ·let(kvs,hk,hq):=P;let(p,vs,G,U,U,h1,h2):=r1.r.lst;let(ps,bs,U,l1,l2,hh):=h2.cv hk;refine(p,ps,bs,kvs,U,h1,l1,l2,hh,λd hd=>(d,_,U,au,λo=>?_))
  exact k _ _ [] _ ((g.new hd).fresh (g.free hd) (g.d.nd0 hd)) (.fz au,nofun) nofun p7 hq
 ·exact P.elim)
def aJ.fzz{v:V}{F:List J}{u:HO}(h:aJ K dl H v (.fz u) F):∃a o,v=.ref a/\F=[]/\H a=Z (.frz o u):=h.inv
def T2:Q2:=λt u Q=>match t,u with
 |.fz (.dT kvs),.t ks=>Ex2 (λp:List Key×Int=>me ks=Z p.1/\cC kvs p.1=Z (.int p.2)) λp=>Q (.i p.2)
 |_,_=>False
def HB(hu:X.A.units+150<cLine)(ha:QPE X K a ta qa)(g:QPE X K b tb qb)(hs:SJ b:=by intro _ _;rfl):QPF X K (.Subscript a b pos) (Oj ta tb) (qOp T2 qa qb):=(gm ap ha.h g.h hs,λdl H σ q Q R rd hq k=>ha.s dl H σ q _ _ rd hq λv t F H1 V P hq=>g.s dl H1 σ q _ _ (rd.evo V) hq λw u G H2 e2 r2 hq=>by
 have P:=P.evo V.d e2;unfold T2 at hq
 split at hq
 ·let(p,(hk,hv),hq):=hq;let(d,o,U,U,hd):=P.r.fzz;let(b,vs,U,g,hr):=r2.r.tup;have ev:=hr.Jn hk;subst ev;exact(d,_,U,.inr (_,p.1,b,.inr (o,hd),U,g,hv.symm),k _ _ [] H2 (V.trans e2) (.c (.i _)) nofun p7 hq)
 ·exact hq.elim)
end
def Iti(d:J)(o:Obj)(kvs:List (Key×V)):It:=
 (λi H=>H d=Z (.frz o (.dK kvs))/\i<kvs.length,
   λi H v H'=>∃(p:J)(kv:Key×V),H p=Y/\v=.ref p/\H'=upd H p (.tup [kV kv.1,kv.2])/\kvs[i]?=Z kv,
   λi H=>H d=Z (.frz o (.dK kvs))/\kvs.length<=i)
variable{P:Da}{elts:List Ev}
theorem z5{w:Cl}{K:BT}{x1}{pos:Pos}(d it:J)(o:Obj)(kvs:List (Key×V))(es:Array Y8)(ep:Nat)(ho:o.data=.dict es ep):
  Turn P w K (.Tuple elts x1 pos) (Iti d o kvs) [it] it (λi h=>∃ok q,IsItemIter h it d i kvs.length ep ok q) where
 mem:=by simp
 obj:=λi h st b g=>by
  have e:b=it:=(g:)
  subst e;let(ok,q,e):=st;exact(_,e,λv z=>by cases z)
 keep:=λi h h' st k=>let(ok,q,e):=st;(ok,q,k it ad _ e)
 item:=by
  intro X hP hw hK hc i gd s σ H E I hf st hg;subst hP hw hK;let(ok,q,h1):=st;let(hd,aN):=hg;let(_,vs,r,at_):=kZ I hd ho;have l1:kvs.length=vs.length:=Paired.length r;obtain⟨wv,hv⟩:∃wv,vs[i]?=Z wv:=(_,gs (show i<vs.length by omega))
  let(kv,ek,e1,e2):=Paired.at_ r hv;rw[l1]at h1;refine wpAny_pyNext_items_item h1 at_ (k:=wv.1) (v:=wv.2) hv λkey h' wV ar aM V9 ay=>(_,U,(wpAny_letOwnedTupleGo_items ar λak NA RW=>?_))
  have hn:=I.hok.fresh (ot s.heap.objs.size);have le:=kn h1;have up:∀c o,c≠it->h'.get? c=Z o->ak.get? c=Z o:=λc o hc z=>RW.extBut _ _ hc z
  have I1:Inv X gd σ (upd H s.heap.objs.size (.tup [kV kv.1,kv.2])) {s with heap:=s.heap.push {cls:=.type "tuple",data:=.seq #[key,wv.2]}}:=
   I.laid (λb u z=>f9 _ z) (ot _) (by show 2<=pY;decide,[key,wv.2],.cons (Bg (by rw[e1];exact wV)) (.cons e2 .nil),((_,px _ U,U,_,U),_,px _ U,U))
  have Q:∀b ∈ [it],sV X gd (upd H s.heap.objs.size (.tup [kV kv.1,kv.2])) b:=λb g=>by
   let(f0,r):=hf b g;rw[fy.mp g]at f0 r ⊢;exact(by rw[ao (sT le)];exact f0,r)
  have I2:=by
   refine I1.pA (h':=ak) (t':=s.toks) (λb o g z=>?_) Q
   simp only[pj,xy,or_false]at g;obtain⟨rfl,rfl⟩|z':=YF z
   ·exact up _ _ g aM
   ·exact up _ _ g (ay b o g z')
  rw[<- l1]at NA;exact(.ref s.heap.objs.size,upd H s.heap.objs.size (.tup [kV kv.1,kv.2]),I2,U,(_,kv,hn,U,U,ek),(_,_,NA),λb g=>(Q b g).1)
 done:=by
  intro X hP hw hK hc i gd s σ H E I hf st hg;subst hP hw hK;let(ok,q,h1):=st;let(hd,hle):=hg;let(_,vs,r,at_):=kZ I hd ho;have l1:kvs.length=vs.length:=Paired.length r;rw[l1]at h1;exact wpAny_pyNext_items_end (I.ok.hd hc) h1 at_ (UZ ap) λh' eb=>(U,I.pA (λb o g z=>eb b o (λy=>g (by simp[y])) z) hf)
 self:=λ_ _ _ _ _ st h=>by
  let(ok,q,h1):=st;exact W.kcp_self h1 h
variable{pos':Pos}{a:J}{ob:Obj}{H1:Hp}
section
variable{X:Cx}{K:BT}{o:Ev}{to:TE}{qo:QE}{apos aW:Pos}
def Bp(to:TE):TI:=λσ H R=>Gi to σ H λx H1=>∃v d ob kvs,x=.ref v/\H1 v=Z (.ext (ItV v d))/\H1 d=Z (.frz ob (.dK kvs))/\R (Iti d ob kvs) H1
def yh{x1}(ho:PE X o to)(cH:‹attributeBase o "items" X.env (eval o X.env)=eval o X.env›)(cG:‹(apos.endLine==aW.line)=true›):PI X (.Tuple elts x1 pos') (.Call (.Attribute o "items" apos) [] [] aW) (Bp to):=by
 intro gd s σ H R I h;refine thn (Iv ho cH cG gd s σ H _ I h) λu s1 P=>?_
 let(x,H1,g,r1,v,d,ob,kvs,ex,hv,hd,q):=P;subst ex;cases r1;let(K,_):=(show bH X.prog X.w H1 s1.heap v (.ext (ItV v d))from g.hok v _ hv);let(eo,z,ar,ak,r0,o',es,ep,V,c,Q,rest):=(show bH X.prog X.w H1 s1.heap d (.frz ob (.dK kvs))from g.hok d _ hd);rw[eo]at V;cases V;let(hs,vs,r,at_):=kZ g hd Q;have l1:kvs.length=vs.length:=Paired.length r;refine wpAny_pyIter_items K at_ ?_;refine(_,[s1.heap.objs.size],_,_,H1,U,g.kept (t':=s1.toks) (λb o e=>f9 _ e),z5 d _ ob kvs es ep Q,(_,_,by rw[l1];exact px _ U),λc hc=>?_,q)
 rw[fy.mp hc];exact g.E2 (ot _) (g.hok.fresh (ot _))
def a6.at2{vs:List (Key×V)}{ts:List (Key×T)}{F:List J}(h:a6 K dl H vs ts F):F=[]->∀{i:Nat}{kv:Key×V}{t:Key×T},vs[i]?=Z kv->ts[i]?=Z t->kv.1=t.1/\aJ K dl H kv.2 t.2 []:=
 h.ind (λ_ _ _ _ h=>by simp at h) λk v x vs ts F G h _ g e {i kv t} h1 h2=>by
  let(z,q):=Fq.mp e;subst z;cases i with
  |zero=>cases h1;cases h2;exact(U,h)
  |succ i=>exact g q (h1:) (h2:)
def yK{vs:List (Key×V)}{ts:List (Key×T)}:uz K dl (Iti a ob vs) (ts.map Oy) [(.ref a,.fd ob vs ts)] where
 go:=λH i D h hi=>by
  let(F,r):=h (.ref a,.fd ob vs ts) ad
  let(_,e,_,h1,h2):=r.r.se;cases e;rw[dN]at hi;exact(h1,by rw[h2.len];exact hi)
 yld:=λH i x fp v H' D h hx y=>by
  have r:=h (.ref a,.fd ob vs ts) ad
  let(_,e,_,h1,h2):=r.r.se;cases e;let(p,kv,hp,U,U,ek):=y;rw[gV]at hx;let(t,q,U):=g5.mp hx;obtain⟨Q,g⟩:kv.1=t.1/\aJ K dl H kv.2 t.2 []:=by
   exact h2.at2 U ek q
  have rs:Rps K dl H [kV kv.1,kv.2] [kT t.1,t.2] ([]++([]++[])):=Rps.cons (by rw[Q];cases t.1;exact .i _;exact .s _,nofun) (Rps.cons (g,nofun) (.nil,nofun))
  exact((Evo.refl D).new hp,_,rs.tup D hp,λc P=>nomatch P)
 stop:=λH D h=>by
  let(F,r):=h (.ref a,.fd ob vs ts) ad
  let(_,e,_,h1,h2):=r.r.se;cases e;exact(h1,by rw[dN,h2.len];exact ot _)
def Vo(qo:QE):QI:=λq Q=>qo q λt=>match t with|.fd _ _ ts=>Q (ts.map Oy)|_=>False
def GI{σ:St}{R:It->Hp->Prop}{vs:List (Key×V)}(hd:H1 d=Z (.frz ob (.dK vs)))(k:∀w,H1 w=Y->R (Iti d ob vs) (upd H1 w (.ext (ItV w d)))):Av (.ref d) [] H1 λx H2=>∃v d ob kvs,x=.ref v/\H2 v=Z (.ext (ItV v d))/\H2 d=Z (.frz ob (.dK kvs))/\R (Iti d ob kvs) H2:=
 (d,vs,U,U,.inr (ob,hd),λw hw g=>(w,d,ob,vs,U,au,by rw[ao g.symm];exact hd,k w hw))
def ya{V}(ho:QPE X K o to qo)(cH:‹attributeBase o "items" X.env (eval o X.env)=eval o X.env›)(cG:‹(apos.endLine==aW.line)=true›):
  QPI X K (.Tuple elts V pos') (.Call (.Attribute o "items" apos) [] [] aW) (Bp to) (Vo qo):=(yh ho.h cH cG,λdl H σ q Q R rd hq k=>ho.s dl H σ q _ _ rd hq λv t F H1 z P g=>by
 split at g
 ·let(d,U,U,h1,h2):=P.r.se;refine GI (σ:=σ) h1 λw hw=>k _ _ _ _ (z.new hw) yK (λp hp=>by rw[fy.mp hp];exact(_,P.evo z.d ((Evo.refl z.d).new hw))) g
 ·exact g.elim)
def Hv{x1}(ho:QPE X K o to qo)(cH:‹attributeBase o "items" X.env (eval o X.env)=eval o X.env›)(cG:‹(apos.endLine==aW.line)=true›):
  QPJ X K (.Tuple elts x1 pos') (.Call (.Attribute o "items" apos) [] [] aW) (Bp to) (asJ (Vo qo)):=(yh ho.h cH cG,λdl bd hs H σ q Q R (F0,r0) hq k=>ho.s dl H σ q _ _ r0.rd hq λv t F H1 P V g=>by
 split at g
 ·let(d,U,U,h1,h2):=V.r.se;refine GI (σ:=σ) h1 λw hw=>?_
  have ev:=(Evo.refl P.d).new (o:=.ext (ItV w d)) hw;exact k _ _ _ _ q (F0,(r0.evo (P.trans ev)).hold (V.evo P.d ev) λj u hj b hb z=>nomatch z) yK g
 ·exact g.elim)
end
section
variable{X:Cx}{K:BT}{e:Ev}{tx:(St->XK)->TE}{qx:QX}{pos p1 p2 p3:Pos}
def Hn{y:Str}{j1 j2:_}(he:QPX X K e tx qx)(hK:‹X.K=K›)(hs:‹pq [e,.Constant (.str y) j1 p1] X.env=(ϊ,eval e X.env)::pq [.Constant (.str y) j1 p1] X.env›)(z:‹pq [.Constant (.str y) j1 p1] X.env=(ϊ,eval (.Constant (.str y) j1 p1) X.env)::pq [] X.env›)(hp:ke (.Constant (.int 0) j2 p2):=by intro _ _;rfl):
  QPX X K (.Subscript (.List [e,.Constant (.str y) j1 p1] p3) (.Constant (.int 0) j2 p2) pos) (λEs=>tOp (rIx K) (Pz (bM (tx Es) (bM (tC (.str y)) fg))) (tC (.int 0))) (λq Q W=>qx q (λt=>t.im=O/\Q t) W):=(λEs a=>by
 subst hK;exact uQ Bh (Iu (bq (he.h Es a) (bq du cM z) hs)) bF hp,λdl H σ q Q W R Es rd hq k x=>he.s dl H σ q _ W _ Es rd hq (λv t F H1 P V f1 n1 g=>by
  let(hi,g):=g;obtain rfl:=V.r.im hi;refine(by show 2<=pY;decide,λp hp=>.inl (p,[v,.str y],0,v,U,U,.inl (.inl au),bu (j:=0) U,?_))
  have ev:=(Evo.refl P.d).new (o:=.lst [v,.str y]) hp;exact k v t [] _ (P.trans ev) (V.evo P.d ev) f1 n1 g) x)
end
end L2
namespace PySem
open Sem (wp)
section
variable{prog:Da}{w:Cl}{A:Db}{R:Result->ϋ->Prop}{I:J}{fp wr:List J}{n:Nat}{P:Nat->B->Prop}{St:Nat->Do->Prop}{kw:List (Str×B)}
theorem EK(W:Walks prog w A.in1 I fp wr n P St)(bt:Nat->Nat->Bool)(Wl:CmpOf prog w A.in1 .Lt P bt)(S:J)(aW:S ∉ fp):
  ∀(k j:Nat)(s:ϋ)(Q:B)(c:Nat),n-(j+1)=k->j+1<=n->St (j+1) s.heap->P (argBest bt j) Q ->
  s.heap.get? S=Z {cls:=.type "list",dict:=Y,data:=.seq #[Q,Q] c,slots:=#[]} ->
  (∀v h' tk,P (argBest bt (n-1)) v->(∀b o,b ∉ wr->b≠S->s.heap.get? b=Z o->h'.get? b=Z o)->R (.ok (.ret v)) {s with heap:=h',toks:=tk}) ->
  codeAny (model prog w) A (.builtin "min.loop" ([.ref I,.none,.ref S],kw)) R s:=by
 have aR:S ∉ wr:=λh=>aW (W.sub _ h)
 have CU:(toString "min"++toString ".loop":String)="min.loop":=by decide
 intro k
 induction k with
 |zero =>
  intro j s Q c hk hj ak V hS hR;have aN:j+1=n:=by omega
  refine SQ F.entry_min_loop ?_;refine fu (wpAny_seqItems hS U ?_);refine fu (wpAny_tryCatch (W.done s _ _ (aN▸ak) λh' tk q=>?_))
  have K:=q S _ aR hS;refine fu (WW K U (fu (wpAny_letGo (mX (hR Q _ tk (by rw[<- aN];exact V) λb o g z e=>(uk _ _ (Ne.symm z)).trans (q b o g e))))))
 |succ k ih =>
  intro j s Q c hk hj ak V hS hR;have ar:=Xx hk;refine SQ F.entry_min_loop ?_;refine fu (wpAny_seqItems hS U ?_);refine fu (wpAny_tryCatch (W.item (j+1) s _ _ ar ak λv h' tk hP uo q=>?_))
  have K:=q S _ aR hS;show wpAny _ A.in1 (tryCatch (holding [v,v] (richCompare .Lt v Q >>= _)) _ >>= _) _ _ _;refine fu (wpAny_tryCatch (FH (fu (Wl (j+1) (argBest bt j) v Q _ _ _ hP V (fu (FH (wpAny_truthy_bool (fu (wpAny_letGo (mX ?_))))))))));cases hb:bt (j+1) (argBest bt j)with
  |true =>
   refine fu ?_;refine WW K U (fu (wpAny_letGo ?_));rw[CU];refine mX (UY F.plain_min_loop _,ih (j+1) _ v _ (by rw[Yd,hk];rfl) ar (W.frame _ _ _ uo λb a0 o e=>?_) (by simp only[argBest,hb,if_true];exact hP) (v5 _ K U)
    λv' aM Ge ay JB=>?_)
   ·exact(uk _ _ (λh:S=b=>aW (by rw[h];exact a0))).trans e
   ·exact hR v' aM Ge ay λb o g z e=>JB b o g z ((uk _ _ (Ne.symm z)).trans (q b o g e))
  |false =>
   refine fu (wpAny_letGo ?_);rw[CU];refine mX (UY F.plain_min_loop _,ih (j+1) _ Q c (by rw[Yd,hk];rfl) ar uo (by simp only[argBest,hb,XU,if_false];exact V) K λv' aM Ge ay JB=>?_)
   exact hR v' aM Ge ay λb o g z e=>JB b o g z (q b o g e)
end
def F.FA(a d:B):argsOk "min" ([a],[("default",d)]):=by kernel_rfl
section
variable{prog:Da}{w:Cl}{A:Db}{E:B->ϋ->Prop}{s:ϋ}
theorem Fm{l:J}{its:Array B}{d:B}{Q:B->ϋ->Prop}(val:Nat->Int)(hh:A.handled=Y)(hl:s.heap.IsTuple l its)(hv:∀(i:Nat) v,its[i]?=Z v->∃t,v=.int (val i) t)
  (hQ:∀v h' tk,(its.size=0->v=d)->(0<its.size->its[argBest (λi j=>decide (val i<val j)) (its.size-1)]?=Z v)->(∀b o,s.heap.get? b=Z o->h'.get? b=Z o)->Q v {s with heap:=h',toks:=tk}):
  wpAny (model prog w) A (call (.builtin "min") [.ref l] [("default",d)]) Q E s:=by
 have CU:(toString "min"++toString ".loop":String)="min.loop":=by decide
 let(ol,P,ay,nl,ar):=id hl;refine nV F.kind_min F.plain_min F.entry_min (F.FA _ _) ?_;refine fu (wpAny_of_eq (show Builtin.Builtins.bindParams "min" ["key","default"] 0 ([],[("default",d)])=pure [Y,Z d]from by kernel_rfl) (fu (mX (fu (wpAny_pyIter_tuple hl (fu (Xa ?_)))))))
 rw[CU];have V:=kn P;have hsz:∀o:Obj,(s.heap.push o).objs.size=s.heap.objs.size+1:=λo=>BS _ _
 have W:=Walks.tuple (prog:=prog) (w:=w) (A:=A.in1) hh s.heap.objs.size l (sT V) its;have K:(λi (h:Do)=>h.IsTupleIter s.heap.objs.size l i/\h.IsTuple l its) 0 ((s.heap.push {cls:=.type "tuple_iterator",data:=.fields #[.ref l,.int 0 0]}).push (~~~([]:List B).toArray)):=
  ((_,f9 _ (px _ U),U,U),(ol,f9 _ (f9 _ P),ay,nl,ar))
 have hS:((s.heap.push {cls:=.type "tuple_iterator",data:=.fields #[.ref l,.int 0 0]}).push (~~~([]:List B).toArray)).get? (s.heap.objs.size+1)=Z {cls:=.type "list",dict:=Y,data:=.seq #[],slots:=#[]}:=by
  rw[<- hsz];exact px _ U
 have q:s.heap.objs.size+1 ∉ [s.heap.objs.size,l]:=λz=>by
  obtain z|z:=pj.mp z
  ·exact absurd z (E3 (W7 _))
  ·exact absurd (fy.mp z) (E3 (Xk V))
 have aN:=λz=>q (pj.mpr (.inl (fy.mp z)))
 have up:∀b o,s.heap.get? b=Z o->((s.heap.push {cls:=.type "tuple_iterator",data:=.fields #[.ref l,.int 0 0]}).push (~~~([]:List B).toArray)).get? b=Z o:=λb o e=>f9 _ (f9 _ e)
 have old:∀b o,s.heap.get? b=Z o->b ∉ [s.heap.objs.size]/\b≠s.heap.objs.size+1:=λb o e=>by
  have:=kn e
  exact(λz=>sT this (fy.mp z),sT (Xk this))
 rw[hsz];refine mX (UY F.plain_min_loop _,SQ F.entry_min_loop ?_);refine fu (wpAny_seqItems hS U ?_);by_cases h0:its.size=0
 ·exact fu (wpAny_tryCatch (W.done _ _ _ (by rw[h0];exact K) λh' tk g=>(fu (Xc (mX (hQ d h' tk (λ_=>rfl) (λz=>absurd z ap) λb o e=>g b o (old b o e).1 (up b o e)))))))
 ·refine fu (wpAny_tryCatch (W.item 0 _ _ _ ap K λv h' tk hP uo g=>?_))
  have ak:=g _ _ aN hS;show wpAny _ A.in1 (updateSeq (s.heap.objs.size+1) (λ_=>#[v,v]) >>= _) _ _ _
  refine fu ?_;refine WW ak U ?_;refine mX (UY F.plain_min_loop _,EK W _ (CmpOf.ints_lt val hv) (s.heap.objs.size+1) q _ 0 _ v _ U ap (W.frame _ _ _ uo λb aM o e=>?_) hP (v5 _ ak U) λv' aW Ge aR JB=>?_)
  ·exact(uk _ _ (λh=>q (by rw[h];exact aM))).trans e
  ·exact hQ v' aW Ge (λz=>absurd z h0) (λ_=>aR) λb o e=>JB b o (old b o e).1 (old b o e).2 ((uk _ _ (Ne.symm (old b o e).2)).trans (g b o (old b o e).1 (up b o e)))
end
end PySem
namespace L2
open PySem PySem.Spec PyProof.Rows
def O7(ns:List Int)(d n:Int):Prop:=(ns=[]->n=d)/\(ns ≠ []->n∈ns/\∀y∈ns,n<=y)
variable{ns:List Int}{p3:Pos}
section
variable{X:Cx}{K:BT}{e:Ev}{te:TE}{qe:QE}{p pos Jl:Pos}
def FC(h:0<ns.length):∃M,ns[argBest (λi j=>decide (ns.getD i 0<ns.getD j 0)) (ns.length-1)]?=Z M/\∀y∈ns,M<=y:=by
 let(h1,h2):=argBest_lt (λi=>ns.getD i 0) (ns.length-1)
 have g:argBest (λi j=>decide (ns.getD i 0<ns.getD j 0)) (ns.length-1)<ns.length:=by omega
 refine(_,gs g,λy q=>?_)
 let(j,z,U):=uj q
 have:=h2 j (by lia)
 rw[BV,BV,gs z,gs g]at this;exact this
def Oe(K:BT)(te:TE)(d:Int):TE:=λσ H Q=>te σ H λv H1=>∃l ns,v=.ref l/\SqT K H1 l (ns.map V.int)/\∀n,O7 ns d n->Q (.int n) H1
def MF{d:Int}{j1}(hg:Gl X "min")(hm:X.mg "min"=Y)(he:PE X e te)(hc:X.calm=O)(hs:‹AD X e›):
  PE X (.Call (.Name "min" p) [e] [(Z "default",.Constant (.int d) j1 p3,Jl)] pos) (Oe X.K te d):=by
 left;refine WK (gK (u:=.builtin "min") I hg hm (by kernel_rfl) (PyProof.Rows.callWith_kw ?_ (by rw[hs];rfl) (by rw[hs];rfl)))
 rw[hs];refine Calls.spliced_cons (thn (he gd s σ H _ I h) λu s1 g=>?_)
 let(x,H1,I1,r1,l,ns,ex,hl,q):=g;subst ex;cases r1;refine Calls.spliced_nil ?_;refine thn (MB (bF) QY pos gd s1 σ H1 (λvs H2=>vs=[.int d]/\H2=H1) I1 (U,U)) λus s2 g=>?_
 let(vs,H2,V,rv,e1,e2):=g;subst e1 e2;let(ud,U,t,U):=vals1 rv;let(its,P,pl,hz):=V.tuple hl;have hlen:=P.length;rw[dN]at hlen;refine Fm (λi=>ns.getD i 0) (I.ok.hd hc) pl (λi v ei=>fN P i v (ei:)) λv h' tk z0 z1 hk=>?_
 rw[sQ]at z0 z1;by_cases h0:its.length=0
 ·have hn:ns=[]:=xw.mp (by lia)
  subst hn;rw[z0 h0];exact(.int d,_,V.kept hk,(_,U),q _ (λ_=>rfl,λz=>absurd U z))
 ·have:=z1 (by lia)
  let(M,hM,eM):=FC (ns:=ns) (by lia)
  rw[<- hlen]at this;rw[Xy]at this;let(t',U):=fN P _ v this;refine(.int M,_,V.kept hk,(t',?_),q _ (λz=>by subst z;exact absurd hlen.symm h0,λ_=>(mu hM,eM)))
  rw[BV,hM];rfl
def TX(d:Int)(qe:QE):QE:=λq Q=>qe q λt=>match t with
 |.t xs=>Ex2 (λ(ns:List Int)=>xs=ns.map .i) λns=>∀n,O7 ns d n->Q (.i n)
 |_=>False
def Mb{d:Int}{j1}(hm:X.mg "min"=Y)(he:QPE X K e te qe)(hg:Gl X "min":=by exact U)(hK:‹X.K=K›)(V:‹X.calm=true›)(hs:‹AD X e›):
  QPF X K (.Call (.Name "min" p) [e] [(Z "default",.Constant (.int d) j1 p3,Jl)] pos) (Oe K te d) (TX d qe):=(by subst hK;exact MF hg hm he.h V hs,λdl H σ q Q R rd hq k=>he.s dl H σ q _ _ rd hq λv t F H1 e1 P g=>by
 split at g
 ·let(ns,U,g):=g;let(l,vs,U,h1,h2):=P.r.tup;let(U,_):=h2.OP;exact(l,ns,U,SqT.of h1,λn hn=>k _ _ [] H1 e1 (.c (.i _)) nofun p7 (g n hn))
 ·exact g.elim)
end
namespace TM
open Sem (wp)
open Builtin
end TM
end L2
namespace L2
open PySem PySem.Spec PyProof.Rows
section
variable{X:Cx}{K:BT}
inductive Tz(x y:V)(H:Hp)(Q:VK):Prop
 |mk(d:Bool)(h1:y=.bl d)(h2:(x=.non/\Q (.bl ϊ) H)\/(∃n,x=.int n/\Q (.bl ϊ) H)\/∃c,x=.bl c/\Q (.bl (c==d)) H)
def Q9:OpR X (compareOp .Is) Tz:=by
 intro gd s σ H x y v u Q I g z h;let(d,U,h):=h;cases z;obtain⟨rfl,q⟩|⟨n,rfl,q⟩|⟨c,rfl,q⟩:=h
 ·cases g;exact mX (.bl _,H,I,U,q)
 ·let(t,U):=g;exact mX (.bl _,H,I,U,q)
 ·cases g;exact is_bool (.bl _,H,I,U,q)
def VL:Q2:=λt u Q=>match u with
 |.b d=>match t with
  |.n=>Q (.b ϊ)
  |.i _=>Q (.b ϊ)
  |.b c=>Q (.b (c==d))
  |_=>False
 |_=>False
def LL:dQ K Tz VL:=by
 intro dl H x y t u F G Q R D g q hq k;have fin:∀b:Bool,Q (.b b)->R (.bl b) H:=λb h=>k _ _ [] H (.refl D) (.c (.b _)) nofun p7 h
 cases u with
 |b d =>
  let(U,U):=q.r.bl;cases t with
  |n=>let(U,U):=g.r.non;exact(d,U,.inl (U,fin _ hq))
  |i n=>let(U,U):=g.r.int;exact(d,U,.inr (.inl (n,U,fin _ hq)))
  |b c=>let(U,U):=g.r.bl;exact(d,U,.inr (.inr (c,U,fin _ hq)))
  |_=>exact False.elim hq
 |_=>exact False.elim hq
end
variable{d:J}{ep:Nat}{ns:List Int}{Q:B->ϋ->Prop}
section
variable{prog:Da}{w:Cl}{A:Db}{E:B->ϋ->Prop}{s:ϋ}
theorem J6{kvs:List (Key×B)}{R:List B->ϋ->Prop}(K:A.handled=Y)(lo:(d==sysModules)=ϊ)(z:s.heap.DictAt (bf prog w) d kvs ep)(hn:kvs.length<=pY)
  (h:∀(h':Do)(tk:Nat)(acc:Array B),(∀b o,s.heap.get? b=Z o->h'.get? b=Z o)->s.heap.objs.size<h'.objs.size->ItemsOf (λi v=>∃k x,kvs[i]?=Z (k,x)/\(bf prog w).is k v=O) acc kvs.length->R acc.toList {s with heap:=h',toks:=tk}):wpAny (model prog w) A (collect (.ref d)) R E s:=by
 have g:d<s.heap.objs.size:=z.lt_size;unfold collect;refine fu (wpAny_runValue (SQ PySem.F.entry_proto_collect ?_));rw[Xm PySem.F.plain_proto_collect _];refine fu (Xa (mX (UY PySem.F.plain_list_iadd _,SQ PySem.F.entry_list_iadd ?_)));rw[Xm PySem.F.plain_list_iadd _];have P:(s.heap.push (~~~([]:List B).toArray)).get? s.heap.objs.size=Z (~~~#[]):=px _ U;have old:∀b o,s.heap.get? b=Z o->b≠s.heap.objs.size:=λb o e=>sT (kn e)
 have ld:∀{h':Do}{tk:Nat}{acc:Array B}{c:Nat},(∀b o,b≠s.heap.objs.size->(s.heap.push (~~~([]:List B).toArray)).get? b=Z o->h'.get? b=Z o)->h'.get? s.heap.objs.size=Z {cls:=.type "list",dict:=Y,data:=.seq acc c,slots:=#[]} ->
   ItemsOf (λi v=>∃k x,kvs[i]?=Z (k,x)/\(bf prog w).is k v=O) acc kvs.length->R acc.toList {s with heap:=h',toks:=tk}:=λ{h' tk acc c} k1 k2 k3 =>
  h h' tk acc (λb o e=>k1 b o (old b o e) (f9 _ e)) (kn k2) k3
 have key:=W.kdl_extend (A:=A) (s:={s with heap:=s.heap.push (~~~([]:List B).toArray)}) (res:=.ref s.heap.objs.size)
  (R:=λq s'=>∃h' tk acc c,q=.ok (.ret (.ref s.heap.objs.size))/\s'={s with heap:=h',toks:=tk}/\h'.get? s.heap.objs.size=Z {cls:=.type "list",dict:=Y,data:=.seq acc c,slots:=#[]}/\R acc.toList {s with heap:=h',toks:=tk})
  (W.kdl_dict (knd:=bf prog w) lo) K (z.push _) s.heap.objs.size (E3 g) (E3 g) 0 P (λh' tk acc c k1 k2 k3=>(h',tk,acc,c,U,U,k2,ld k1 k2 k3)) hn
 refine SH key (λfin s' x=>?_) λe s' x=>?_
 ·cases fin with
  |done f =>
   let(h',tk,acc,c,e,U,k2,k3):=x;cases e;exact fu (wpAny_load k2 (mX k3))
  |again c₁ =>
   refine(x.1,codeAny_mono x.2 λq s₂ y=>?_)
   let(h',tk,acc,c,U,U,k2,k3):=y;exact fu (wpAny_load k2 (mX k3))
 ·let(_,_,_,_,Q,_):=x;cases Q
def xl{kvs:List (Key×B)}(hh:A.handled=Y)(lo:(d==sysModules)=ϊ)(P:s.heap.DictAt (bf prog w) d kvs ep)(hk:kvs.map (·.1)=ns.map Sum.inl)(z:ns.length<64)
  (hQ:∀(l:J)(out:Array B)(ns':List Int)(e:Nat)(h':Do)(tk:Nat),IntsAre out.toList ns'->ns'.Perm ns->ns'.Pairwise (· <= ·)->h'.get? l=Z (seqObj "list" out e)->s.heap.objs.size<=l->(∀b o,s.heap.get? b=Z o->h'.get? b=Z o)->Q (.ref l) {s with heap:=h',toks:=tk}):
  wpAny (model prog w) A (call (.builtin "sorted") [.ref d]) Q E s:=by
 have hlen:kvs.length=ns.length:=(congrArg N9 hk:)
 refine Calls.call_function_entry kind_sorted plain_sorted entry_sorted (args_sorted1 _) ?_;unfold Builtin.«sorted»;refine fu (m:=checkCount "sorted" 1 1 _) (mX ?_);refine fu (J6 (A:=A.in1) hh lo P (vr (sS (by omega:kvs.length<64) ac)) λh' tk acc K hsz gL=>?_)
 have q:acc.toList.length=ns.length:=by rw[Xd,gL.1,hlen]
 have hI:IntsAre acc.toList ns:=by
  have go:∀(vs:List B)(ns:List Int),vs.length=ns.length->(∀(i:Nat)(v:B)(n:Int),vs[i]?=Z v->ns[i]?=Z n->∃t,v=.int n t)->IntsAre vs ns:=by
   intro vs
   induction vs with
   |nil=>intro ns hl _;cases ns with|nil=>exact .nil|cons _ _=>simp at hl
   |cons v r ih =>
    intro ns hl h;cases ns with
    |nil=>simp at hl
    |cons n ns =>
     let(t,U):=h 0 v n U U;exact .cons n t (ih ns (hl:) λi v' n' h1 h2=>h (i+1) v' n' (h1:) (h2:))
  refine go _ _ q λi v n h1 h2=>?_
  let(k,x,e1,V):=gL.2 i v (by rw[<- X4];exact h1)
  have e3:=congrArg (·[i]?) hk;simp only[gV,e1,h2]at e3;have e4:k=.inl n:=Option.some.inj e3;subst e4
  have:=Bg V
  exact this
 refine fu (wpAny_newList ?_ (fits_of_scanBound (XG (by rw[q];exact z) ac)))
 have g:(h'.push (seqObj "list" acc.toList.toArray 0)).get? h'.objs.size=Z (seqObj "list" acc.toList.toArray 0):=px _ U;show wpAny _ _ _ _ _ {s with heap:=h'.push (seqObj "list" acc.toList.toArray 0),toks:=tk}
 refine fu (FH (S9 slot_list_sort (_,g,U) entry_list_sort (list_sort_tree g hI (by rw[q];exact z) λout ns' a1 a2 a3=>(_,U,?_)) (args_list_sort _)))
 let(e,he):=sortedHeap_at (out:=out) g;refine mX (_,U,hQ _ out ns' e _ _ a1 a2 a3 he ?_ λb o V=>?_)
 ·exact vr hsz
 ·have:=K b o V
  rw[sortedHeap_old (sT (kn this)) (by rw[BS];exact Xk (kn this))]
  exact f9 _ this
end
variable{kvs:List (Key×V)}{b:Ev}{ta:TE}{qa:QE}{qb:QE}
section
variable{X:Cx}{K:BT}
inductive Au(xs:List V)(H:Hp)(Q:VK):Prop
 |mk(d:J)(ob:Obj)(kvs:List (Key×V))(ns:List Int)(h1:xs=[.ref d])(h2:H d=Z (.frz ob (.dK kvs)))(h3:kvs.map (·.1)=ns.map Sum.inl)(h4:ns.length<64)(h5:∀l (ns':List Int),ns'.Perm ns->ns'.Pairwise (· <= ·)->H l=Y->Q (.ref l) (upd H l (.lst (ns'.map V.int))))
def KV.UD{vs:List (Key×B)}(h:KV kvs vs):vs.map (·.1)=kvs.map (·.1):=by
 induction h with
 |nil=>rfl
 |cons h _ g=>rw[x2,x2,g];exact congrArg (· :: _) h.1.symm
def BG(hc:X.calm=O):b8 X (.builtin "sorted") Au:=by
 intro gd s σ H xs us Q I r h;let(d,ob,kvs,ns,U,hd,hk,K,q):=h;let(u,U,ru):=vals1 r;cases ru;let(eo,z,ar,ak,r0,o',es,ep,e',c,nS,rest):=(show bH X.prog X.w H s.heap d (.frz ob (.dK kvs))from I.hok d _ hd);rw[eo]at e';cases e';let(hs,vs,rv,at_):=kZ I hd nS;refine xl (I.ok.hd hc) hs at_ (by rw[KV.UD rv];exact hk) K λl out ns' e h' tk a1 a2 a3 he g P=>?_
 exact(.ref l,_,I.laid (a:=l) (h':=h') (t':=tk) (o:=.lst (ns'.map V.int)) P g (by rw[dN,a2.length_eq];exact vr (sS K ac),out.toList,e,uD a1,by rw[Array.toArray_toList];exact he),U,q l ns' a2 a3 (I.hok.fresh g))
def zi(q:X.K=K)(g:X.calm=O):b8 X (.builtin "sorted") Au:=BG g
def Ql:QC:=λts Q=>on1 ts λt=>match t with
 |.fd _ _ ks=>Ex2 (λns:List Int=>ks.map (·.1)=ns.map Sum.inl/\ns.length<64) λns=>∀ns':List Int,ns'.Perm ns->ns'.Pairwise (· <= ·)->Q (.l (ns'.map .i))
 |_=>False
def D8:mU K Au Ql:=λdl H vs ts F Q R D r hq k=>by
 replace hq:=on1.inv hq
 let(t,U,hq):=hq;cases t with
 |fd o g ks =>
  let(ns,(h1,h2),hq):=hq;let(v,U,z):=r.one;let(a,U,U,h3,h4):=z.r.se;refine(a,o,g,ns,U,h3,by rw[h4.ks];exact h1,h2,λl ns' p1 p2 hl=>?_)
  exact k _ (.l (ns'.map .i)) [l] _ ((Evo.refl D).new hl) (.l au (kK ns'),λb q=>by rw[fy.mp q];exact D.nd0 hl) (λb q=>by rw[fy.mp q];exact hl) ad (hq ns' p1 p2)
 |_=>exact False.elim hq
inductive He(x:V)(y:V)(H:Hp)(Q:VK):Prop
 |mk(a:J)(z:V)(n:Int)(h1:x=.ref a)(h2:y=.int n)(h3:H a=Z (.lst [z]))(h4:0<=n)(h5:n<=16000000)(h6:∀p,H p=Y->Q (.ref p) (upd H p (.lst (uA n.toNat z))))
def JM{α:Type}{x:α}:∀n:Nat,(YY (λq g=>q++g) #[] (uA n #[x]))=(uA n x).toArray:=by
 have go:∀(n:Nat)(acc:Array α),YY (λq g=>q++g) acc (uA n #[x])=acc++(uA n x).toArray:=by
  intro n
  induction n with
  |zero=>intro acc;simp
  |succ n z =>
   intro acc;rw[W4,List.foldl_cons,z]
   apply Array.ext'
   simp[W4]
 intro n;rw[go];simp
def MV:OpR X (binaryOp .Mult) He:=by
 intro gd s σ H x y v u Q I P K h;let(a,z,n,U,U,ha,h0,ar,q):=h;cases P;let(t,U):=K;let(hz,its,m,V,e):=(I.hok a _ ha);obtain⟨w,rfl,g⟩:∃w,its=[w]/\RelV z w:=by
  cases V with
  |cons h1 h2=>cases h2;exact(_,U,h1)
 have ak:pY=16777216:=Xe;refine wpAny_binaryOp_repeat_ref (show(PySem.Value.type "list" == PySem.Value.type "int")=ϊ from by decide) (_,e,U) (λs'=>typeIs_int s' n t) noFill_list_mul PySem.F.fills_int_mul PySem.F.slot_int_rmul repeat_list PySem.F.slot_int_index.lookup
  (call_meets PySem.F.slot_int_rmul (typeIs_int s n t) PySem.F.entry_int_rmul (PySem.F.args_int_rmul_2 _ _) (int___rmul___int_list n t a _ m)
   (e,U,(_,e,U),call_meets PySem.F.slot_list_mul (_,e,U) PySem.F.entry_list_mul (PySem.F.args_list_mul_2 _ _)
    (AutoListH.list___mul___list_int_3 a _ m n t (by simp[Builtin.List.listFitsIndex];omega) (by simp;omega) (by simp[Builtin.List.listTooLong];omega))
    (e,?_)))
 have e2:((if([w].toArray).isEmpty=O then 0 else n.toNat):Nat)=n.toNat:=by rw[if_neg ad]
 rw[e2,JM];refine(.ref s.heap.objs.size,_,I.laid (t':=s.toks) (o:=.lst (uA n.toNat z)) (λb ob q=>f9 _ q) (ot _) (by rw[X3];omega,uA n.toNat w,0,?_,px _ U),U,q _ (I.hok.fresh (ot _)))
 generalize n.toNat=j
 induction j with
 |zero=>exact .nil
 |succ j ih=>rw[W4,W4];exact .cons g ih
def HL:Q2:=λt u Q=>match t,u with
 |.l [x],.i n=>x.im=O/\0<=n/\n<=16000000/\Q (.l (uA n.toNat x))
 |_,_=>False
def GF:dQ K He HL:=by
 intro dl H x y t u F G Q R D r1 r2 hq k;unfold HL at hq
 split at hq
 ·rename_i x n;let(hi,h0,V,hq):=hq;let(a,vs,G0,U,U,h1,s1):=r1.r.lst;let(U,U):=r2.r.int;obtain⟨z,rfl,rz⟩:∃z,vs=[z]/\aJ K dl H z x []:=by
   cases s1 with
   |cons g1 g2=>cases g2;rw[g1.im hi]at g1;exact(_,U,g1)
  refine(a,z,n,U,U,h1,h0,V,λp hp=>?_)
  have ev:=(Evo.refl D).new (o:=.lst (uA n.toNat z)) hp;have g:aJ K dl (upd H p (.lst (uA n.toNat z))) z x []:=rz.dq (ev.tf D) (λ_ q=>q) λ_ q=>nomatch q
  have rr:∀j:Nat,az K dl (upd H p (.lst (uA n.toNat z))) (uA j z) (uA j x) []:=by
   intro j
   induction j with
   |zero=>exact .nil
   |succ j ih=>rw[W4,W4];exact .cons g ih
  exact k _ (.l (uA n.toNat x)) [p] _ ev (.l au (rr _),λb P=>by rw[fy.mp P];exact D.nd0 hp) (λb P=>by rw[fy.mp P];exact hp) ad hq
 ·exact hq.elim
def Ma{a:Ev}{tb:TE}{pos:Pos}(ha:QPE X K a ta qa)(g:QPE X K b tb qb):QPF X K (.BinOp a .Mult b pos) (tOp He ta tb) (qOp HL qa qb):=kM MV GF ha g
end
variable{p4:Str}{fd:Ch}
section
variable{K:BT}{x q:Str}{st:EQ}{f:J}
def V1{P:List B->Prop}(h:∀a b c d e g,P [a,b,c,d,e,g])(us:List B)(e:us.length=6):P us:=by
 cases us with
 |nil=>cases e
 |cons a r=>exact Uw (P:=λr=>P (a::r)) (h a) r (Nat.succ.inj e)
theorem Fun.b6{p1 p2 p3 p5 p6:Str}(F:Fun K x q st f fd)(hb:∀kV dc pm an cd ct u1 u2 V Q z g,bindArgs (W.fnOf x q (dF st) (bQ st) (aw st) .none kV dc pm an cd ct) ([u1,u2,V,Q,z,g],[])=pure [(p1,u1),(p2,u2),(p3,V),(p4,Q),(p5,z),(p6,g)]:=by intros;rfl):Binds K fd [p1,p2,p3,p4,p5,p6] []:=F.binds λkV dc pm an cd ct us hl=>V1 (P:=λus=>bindArgs _ (us,[])=pure (YH _ us)) (hb kV dc pm an cd ct) us hl
end
end L2
namespace K30
open PySem L2
abbrev Zl:Str:="_law_deal_here"
abbrev Zm:Str:="piece"
abbrev Zn:Str:="_law_scope"
abbrev Zo:Str:="_law_parts"
abbrev Zp:Str:="self"
abbrev Zq:Str:="_law_numbers"
abbrev Zr:Str:="_law_f"
abbrev Zs:Str:="_law_world"
abbrev Zt:Str:="_law_room"
abbrev Zu:Str:="_law_lines"
abbrev Zv:Str:="_law_many"
abbrev Zw:Str:="_law_words_here"
abbrev Zx:Str:="_law_script"
abbrev Zy:Str:="_law_program_here"
abbrev Zz:Str:="_law_kind"
abbrev ZA:Str:="_law_cell"
abbrev ZB:Str:="_law_at"
abbrev ZC:Str:="_law_found"
abbrev ZD:Str:="_law_some"
abbrev ZE:Str:="_law_kinds_here"
abbrev ZF:Str:="_law_base"
abbrev ZH:Str:="_law_other"
abbrev ZI:Str:="_law_fields"
abbrev ZJ:Str:="_law_heads"
abbrev ZK:Str:="_law_name"
abbrev ZL:Str:="_law_most"
abbrev ZM:Str:="_law_mark"
abbrev ZN:Str:="_law_paper"
def top(i:Nat):EQ:=PySem.Challenge.pw_pursewright_k30_the_first_row_not_kept.main.body.getD i (.Pass (0,0,0,0))
abbrev fns:List Str:=["row","word","name","maker"]
theorem CK:("row":Str)∈fns:=by simp[fns]
theorem JK:FOk "row":=by unfold FOk;rw[typeLookup_type,builtinLookup_eq_fast];kernel_rfl
abbrev uK:EQ:=inClass (top 2) 0
abbrev lI:EQ:=inClass (top 3) 0
abbrev kD:EQ:=inClass (top 5) 0
theorem xW:aG [Zp,"row"] [Zp,"row"] (aw kD):=by symm
abbrev qG:EQ:=inClass (top 7) 0
abbrev iy:EQ:=inClass (top 17) 0
theorem vV:aG [Zp,Zm,"above","arm"] [Zp,Zm,"above","arm"] (aw iy):=by symm
abbrev gD:EQ:=inClass (top 24) 0
theorem tT:aG [Zp,"f","free","spent","kinds","holdings"] [Zp,"f","free","spent","kinds","holdings"] (aw gD):=by symm
abbrev jt:EQ:=top 10
theorem iC:aG ["kinds","kind","name","makers"] ["kinds","kind"] (aw jt):=by symm
abbrev qK:EQ:=top 11
theorem gQ:aG ["kinds","kind","reached","names","name","makers"] ["kinds","kind"] (aw qK):=by symm
abbrev fj:EQ:=top 12
theorem bT:aG ["kinds","kind","reached","waiting","here","maker","field"] ["kinds","kind"] (aw fj):=by symm
abbrev fk:EQ:=top 13
theorem eC:aG ["kinds","maker","name","makers"] ["kinds","maker"] (aw fk):=by symm
abbrev js:EQ:=top 15
theorem iB:aG ["functions","name","number","function"] ["functions","name"] (aw js):=by symm
abbrev vY:EQ:=top 18
theorem lJ:aG ["body","told","waiting","spot"] ["body"] (aw vY):=by symm
abbrev fi:EQ:=top 19
theorem nt:aG [Zm,"number"] [Zm,"number"] (aw fi):=by symm
abbrev qN:EQ:=top 20
theorem Eb:aG ["body"] ["body"] (aw qN):=by symm
abbrev gG:EQ:=top 21
theorem cX:aG ["program","f","told","found","spot","kinds"] ["program","f"] (aw gG):=by symm
abbrev kH:EQ:=top 22
theorem jr:aG ["program",Zm,"arm","kinds","word","fields"] ["program",Zm,"arm","kinds"] (aw kH):=by symm
abbrev qM:EQ:=top 25
theorem fM:aG ["program","f","told","found","spot",Zm,"met"] ["program","f"] (aw qM):=by symm
abbrev eD:EQ:=top 26
theorem dU:aG ["program","f","params","holdings"] ["program","f"] (aw eD):=by symm
abbrev iE:EQ:=top 27
theorem dw:aG ["program","n",Zm,"stand","holdings","name","family","free"] ["program","n",Zm,"stand"] (aw iE):=by symm
abbrev fQ:EQ:=top 28
theorem a7:aG ["program","n",Zm,"arm","stand","family","free","g","kinds","holdings","name","kind"] ["program","n",Zm,"arm","stand"] (aw fQ):=by symm
abbrev Ai:EQ:=top 29
theorem vU:aG ["program","f","n",Zm,"word","g"] ["program","f","n",Zm] (aw Ai):=by symm
abbrev iD:EQ:=top 30
theorem tS:aG ["program","f","n",Zm] ["program","f","n",Zm] (aw iD):=by symm
abbrev kG:EQ:=top 31
theorem xX:aG [Zm] [Zm] (aw kG):=by symm
abbrev kF:EQ:=top 34
theorem dJ:aG ["program","told","f","function","k","param"] ["program"] (aw kF):=by symm
abbrev gF:EQ:=top 35
theorem qI:aG ["program","family","kind"] ["program","family","kind"] (aw gF):=by symm
abbrev eI:EQ:=top 36
theorem bJ:aG ["program","f","told","ahead","n",Zm,"family"] ["program","f"] (aw eI):=by symm
abbrev Al:EQ:=top 37
theorem fE:aG ["program","places","told","f","function","body","n","stand","done"] ["program"] (aw Al):=by symm
abbrev kE:EQ:=top 38
theorem dI:aG ["program","n","places","stand","told","name","kind","maker","pairs"] ["program","n","places","stand"] (aw kE):=by symm
abbrev qL:EQ:=top 39
theorem jX:aG ["places","pairs","weights","unknown","times"] ["places","pairs"] (aw qL):=by symm
abbrev ny:EQ:=top 41
theorem fP:aG ["program","paper","parts","numbers","number","row"] ["program","paper"] (aw ny):=by symm
abbrev Ao:EQ:=top 43
theorem lK:aG [Zx,ZF,"_law_cells","_law_number_here",ZA] [Zx,ZF] (aw Ao):=by symm
abbrev An:EQ:=top 44
theorem pE:aG [Zl,Zv,"_law_number_here","_law_one",ZH] [Zl,Zv] (aw An):=by symm
abbrev vX:EQ:=top 45
theorem b9:aG [Zl,Zv,"_law_letters","_law_core",ZB,"_law_turn",ZC,"_law_k","_law_own","_law_word","_law_near"] [Zl,Zv] (aw vX):=by symm
abbrev v7:EQ:=top 46
theorem cu:aG [Zl,Zw,"_law_form","_law_a","_law_b","_law_m",ZC,Zv,"_law_made","_law_k","_law_makers","_law_j","_law_wide",ZI] [Zl,Zw] (aw v7):=by symm
abbrev Am:EQ:=top 47
theorem pC:aG [Zl,Zn,ZD,ZC,Zz,"_law_own"] [Zl,Zn,ZD] (aw Am):=by symm
abbrev v8:EQ:=top 48
theorem dy:aG [Zl,Zs,Zn,Zz,Zr,ZE,ZJ,Zw,"_law_own","_law_x","_law_maker",ZI,"_law_names"] [Zl,Zs,Zn,Zz,Zr] (aw v8):=by symm
abbrev Ap:EQ:=top 49
theorem dB:aG [Zl,Zs,Zn,Zr,Zt,ZE,ZJ,Zw,"_law_x",Zz,"_law_makers","_law_arms","_law_maker",ZI,"_law_more","_law_names"] [Zl,Zs,Zn,Zr,Zt] (aw Ap):=by symm
abbrev Aq:EQ:=top 50
theorem bY:aG [Zl,Zs,Zn,Zr,Zt,ZE,ZJ,Zw,Zz,"_law_form","_law_x","_law_coins","_law_word","_law_y",ZH,"_law_g","_law_names",ZK,"_law_makers","_law_maker",ZI] [Zl,Zs,Zn,Zr,Zt] (aw Aq):=by symm
abbrev nu:EQ:=top 51
theorem bL:aG [Zl,ZL,Zt,Zw,ZE,ZJ,"_law_own",Zr,Zv,"_law_params","_law_functions","_law_head","_law_body_here"] [Zl,ZL,Zt] (aw nu):=by symm
abbrev vW:EQ:=top 52
theorem qH:aG [Zu,Zo,Zq,"_law_place","_law_line"] [Zu,Zo,Zq] (aw vW):=by symm
abbrev qO:EQ:=top 53
theorem Ec:aG [Zl,ZM,Zo] [Zl,ZM,Zo] (aw qO):=by symm
abbrev Aj:EQ:=top 54
theorem iA:aG [Zy,ZN,ZC,"e","_law_others"] [Zy,ZN] (aw Aj):=by symm
abbrev vZ:EQ:=top 55
theorem qJ:aG [Zy,Zu,Zo,Zq,"_law_due",ZC] [Zy,Zu,Zo,Zq] (aw vZ):=by symm
abbrev Ak:EQ:=top 56
theorem fD:aG [Zl,Zu,Zo,Zq,"_law_place","_law_why","_law_weights","_law_low",ZD,ZB,"_law_lack","_law_more"] [Zl,Zu,Zo,Zq] (aw Ak):=by symm
abbrev oo:EQ:=top 57
theorem fh:aG [Zx,Zl,Zy,Zu,"_law_marks",Zo,Zq,"_law_turn","_law_more",ZB] [Zx] (aw oo):=by symm
set_option genInjectivity false in
structure Adr where
 aB:J
 ck:J
 dY:J
 va:Ch
 br:J
 cg:J
 mH:Ch
 bU:J
 bg:J
 cJ:J
 k7:Ch
 cz:J
 bK:J
 de:J
 sj:Ch
 di:J
 aR:J
 dO:J
 jM:Ch
 aM:J
 dh:J
 iT:Ch
 gv:J
 oC:Ch
 mB:J
 y4:Ch
 dD:J
 jb:Ch
 dE:J
 jc:Ch
 gu:J
 oB:Ch
 pT:J
 Dc:Ch
 dC:J
 ja:Ch
 mF:J
 y9:Ch
 e7:J
 ku:Ch
 iR:J
 sy:Ch
 mE:J
 y8:Ch
 df:J
 ib:Ch
 fK:J
 mK:Ch
 d5:J
 jL:Ch
 w5:J
 JV:Ch
 fJ:J
 mJ:Ch
 iQ:J
 sx:Ch
 iP:J
 sv:Ch
 eZ:J
 kr:Ch
 dg:J
 ic:Ch
 xb:J
 JY:Ch
 iO:J
 sr:Ch
 mD:J
 y7:Ch
 kb:J
 ve:Ch
 xh:J
 J1:Ch
 xg:J
 J0:Ch
 pS:J
 C9:Ch
 pV:J
 De:Ch
 xf:J
 JZ:Ch
 pW:J
 Df:Ch
 xi:J
 J3:Ch
 sf:J
 BD:Ch
 ka:J
 vd:Ch
 pR:J
 C8:Ch
 mG:J
 za:Ch
 w6:J
 JW:Ch
 pU:J
 Dd:Ch
 xa:J
 JX:Ch
 u9:J
 O3:Ch
 ig:J
structure Txt(K:BT)(mg:Str->Option B)(a:Adr):Prop where
 vJ:b7 K fns a.aB (bmV) Y
 t9:mg "PurseError"=Z (.ref a.aB)
 KR:W.keepIn K (.ref a.aB)=O
 FW:b7 K fns a.ck (.ref a.aB::bmV) (Z a.dY)
 EH:mg "NoText"=Z (.ref a.ck)
 SX:W.keepIn K (.ref a.ck)=O
 og:Fun K "__init__" "NoText.__init__" uK a.dY a.va
 SY:W.isFn K (.ref a.dY)=O
 S0:Binds K a.va [Zp,"row"] []
 xI:b7 K fns a.br (.ref a.aB::bmV) (Z a.cg)
 wF:mg "NoProgram"=Z (.ref a.br)
 Nq:W.keepIn K (.ref a.br)=O
 i3:Fun K "__init__" "NoProgram.__init__" lI a.cg a.mH
 NN:W.isFn K (.ref a.cg)=O
 NV:Binds K a.mH [Zp,"word","name"] []
 DO:b7 K fns a.bU (.ref a.aB::bmV) Y
 A0:mg "NoValue"=Z (.ref a.bU)
 RA:W.keepIn K (.ref a.bU)=O
 c7:b7 K fns a.bg (.ref a.aB::bmV) (Z a.cJ)
 kQ:mg "NoPaper"=Z (.ref a.bg)
 rM:W.keepIn K (.ref a.bg)=O
 i4:Fun K "__init__" "NoPaper.__init__" kD a.cJ a.k7
 sd:W.isFn K (.ref a.cJ)=O
 sH:Binds K a.k7 [Zp,"row"] []
 FV:b7 K fns a.cz (.ref a.aB::bmV) Y
 EG:mg "NoTurn"=Z (.ref a.cz)
 SW:W.keepIn K (.ref a.cz)=O
 DP:b7 K fns a.bK (.ref a.aB::bmV) (Z a.de)
 A1:mg "NoChain"=Z (.ref a.bK)
 RB:W.keepIn K (.ref a.bK)=O
 lr:Fun K "__init__" "NoChain.__init__" qG a.de a.sj
 R6:W.isFn K (.ref a.de)=O
 Sh:Binds K a.sj [Zp,"maker"] []
 Lh:b7 K fns a.di (.ref a.aB::bmV) Y
 IW:mg "NoRow"=Z (.ref a.di)
 UC:W.keepIn K (.ref a.di)=O
 cj:Cls K a.aR
 wD:mg "Spot"=Z (.ref a.aR)
 wG:Mk K a.aR a.dO
 dA:bR K a.aR "piece"
 bI:bR K a.aR "above"
 jB:bR K a.aR "arm"
 gy:Fun K "__init__" "Spot.__init__" iy a.dO a.jM
 Nb:Meth K a.aR "__init__" a.dO
 jO:Binds K a.jM [Zp,Zm,"above","arm"] []
 bh:Cls K a.aM
 rE:mg "Stand"=Z (.ref a.aM)
 rF:Mk K a.aM a.dh
 dH:bR K a.aM "f"
 eU:bR K a.aM "free"
 dW:bR K a.aM "spent"
 cY:bR K a.aM "kinds"
 cQ:bR K a.aM "holdings"
 fL:Fun K "__init__" "Stand.__init__" gD a.dh a.iT
 KQ:Meth K a.aM "__init__" a.dh
 iU:Binds K a.iT [Zp,"f","free","spent","kinds","holdings"] []
 nd:[a.aB,a.ck,a.br,a.bU,a.bg,a.cz,a.bK,a.di].Nodup
 jU:Dn K mg "makers_of" jt a.gv a.oC ["kinds","kind"]
 tu:Dn K mg "within" qK a.mB a.y4 ["kinds","kind"]
 jh:Dn K mg "reached_kinds" fj a.dD a.jb ["kinds","kind"]
 fw:Dn K mg "kind_of_maker" fk a.dE a.jc ["kinds","maker"]
 fe:Dn K mg "number_of" js a.gu a.oB ["functions","name"]
 pZ:Dn K mg "spots" vY a.pT a.Dc ["body"]
 jg:Dn K mg "spots_beneath" fi a.dC a.ja [Zm,"number"]
 tG:Dn K mg "pieces" qN a.mF a.y9 ["body"]
 kA:Dn K mg "kinds_ahead" gG a.e7 a.ku ["program","f"]
 lu:Dn K mg "bound_by" kH a.iR a.sy ["program",Zm,"arm","kinds"]
 zy:Dn K mg "stands" qM a.mE a.y8 ["program","f"]
 il:Dn K mg "stand_at_begin" eD a.df a.ib ["program","f"]
 i6:Dn K mg "stand_with" iE a.fK a.mK ["program","n",Zm,"stand"]
 jT:Dn K mg "stand_behind" fQ a.d5 a.jL ["program","n",Zm,"arm","stand"]
 KH:Dn K mg "uses" Ai a.w5 a.JV ["program","f","n",Zm]
 m5:Dn K mg "taken_free" iD a.fJ a.mJ ["program","f","n",Zm]
 tE:Dn K mg "spent_by" kG a.iQ a.sx [Zm]
 i5:Dn K mg "unknowns" kF a.iP a.sv ["program"]
 cL:Dn K mg "unknowns_of" gF a.eZ a.kr ["program","family","kind"]
 ip:Dn K mg "piece_unknowns" eI a.dg a.ic ["program","f"]
 BX:Dn K mg "rows" Al a.xb a.JY ["program"]
 tw:Dn K mg "use_rows" kE a.iO a.sr ["program","n","places","stand"]
 tD:Dn K mg "summed" qL a.mD a.y7 ["places","pairs"]
 vz:Dn K mg "checked" ny a.kb a.ve ["program","paper"]
 xC:Dn K mg "_law_deal" Ao a.xh a.J1 [Zx,ZF]
 aU:Dn K mg "_law_draw" An a.xg a.J0 [Zl,Zv]
 Dy:Dn K mg "_law_words" vX a.pS a.C9 [Zl,Zv]
 Dz:Dn K mg "_law_kinds" v7 a.pV a.De [Zl,Zw]
 tI:Dn K mg "_law_fill" Am a.xf a.JZ [Zl,Zn,ZD]
 xB:Dn K mg "_law_ended" v8 a.pW a.Df [Zl,Zs,Zn,Zz,Zr]
 KN:Dn K mg "_law_case" Ap a.xi a.J3 [Zl,Zs,Zn,Zr,Zt]
 lB:Dn K mg "_law_body" Aq a.sf a.BD [Zl,Zs,Zn,Zr,Zt]
 vy:Dn K mg "_law_program" nu a.ka a.vd [Zl,ZL,Zt]
 xA:Dn K mg "_law_wrong" vW a.pR a.C8 [Zu,Zo,Zq]
 zz:Dn K mg "_law_number" qO a.mG a.za [Zl,ZM,Zo]
 KJ:Dn K mg "_law_told" Aj a.w6 a.JW [Zy,ZN]
 p8:Dn K mg "_law_right" vZ a.pU a.Dd [Zy,Zu,Zo,Zq]
 KL:Dn K mg "_law_step" Ak a.xa a.JX [Zl,Zu,Zo,Zq]
 Vv:Dn K mg "law" oo a.u9 a.O3 [Zx]
 cS:mg "len"=Y
 xo:mg "list"=Y
 d7:mg "tuple"=Y
 Kf:mg "int"=Y
 Sj:mg "bool"=Y
 ft:mg "dict"=Y
 sJ:mg "reversed"=Y
 vt:mg "max"=Y
 Vk:mg "min"=Y
 Kc:mg "sum"=Y
 gw:mg "range"=Y
 d8:mg "isinstance"=Y
 Vj:mg "zip"=Y
 bz:mg "enumerate"=Y
 xp:mg "ValueError"=Y
 Ke:mg "sorted"=Y
 Ka:mg "PAYING"=Z (.ref a.ig)
 HF:∀H:Hp,SqT K H a.ig ([("make":Str),"call","pay","give"].map V.str)
def wK:Str:="abcdefghijklmnopqrstuvwxyz"
def yJ:List Str:=["kind","def","to","let","make","call"]
def kq:List Str:=["name","case","end","pay","get","give"]
def kept:List Str:=yJ++kq
def near:List Str:=["lets","callx","payer","ender","tom","nameb","makes","gets","giver","kinds","defs","cases"]
theorem CL{i:Int}(h0:0<=i)(h1:i<26):atI (Str.cps wK).toList i=Z (rJ i.toNat):=by
 obtain⟨n,rfl⟩:∃n:Nat,i=n:=(i.toNat,by lia)
 have h2:n<26:=by lia
 have h3:∀n:Fin 26,atI (Str.cps wK).toList (n.val)=Z (rJ n.val):=by decide +kernel
 have:=h3 (n,h2)
 simpa using this
theorem IT:∀w∈near,1<=w.length/\w.length<=20:=by decide +kernel
def tM(m:Mk1):T:=.t [.s m.1,.t (m.2.map .s)]
def tMs(ms:List Mk1):T:=.t (ms.map tM)
def tK(k:Kd):T:=.t [.s k.1,tMs k.2]
def tKs(ks:List Kd):T:=.t (ks.map tK)
inductive Ih(ts:List L2.T)(Q:L2.T->Prop):Prop
 |mk(ks:List Kd)(k:Str)(h1:ts=[tKs ks,.s k])(h2:Q (tMs (g6 ks k)))
theorem a5{α:Type}{f:α->T}(h:∀x,(f x).im=O):∀xs:List α,T.ims (xs.map f)=O
 |[]=>rfl
 |x::r=>by show((f x).im&&T.ims (r.map f))=O;rw[h x,a5 h r];rfl
theorem CT(m:Mk1):(tM m).im=true:=by show(O&&(T.ims (m.2.map T.s)&&O))=O;rw[a5 (f:=T.s) (λ_=>rfl)];rfl
theorem rQ(m:List Mk1):(tMs m).im=true:=a5 CT m
theorem yL(m:Kd):(tK m).im=true:=by show(O&&((tMs m.2).im&&O))=O;rw[rQ];rfl
theorem wR(m:List Kd):(tKs m).im=true:=a5 yL m
inductive Ms(ts:List L2.T)(Q:L2.T->Prop):Prop
 |mk(m:Int)(h1:ts=[.dv,.i m])(h2:0<m)(h3:m<=52)(h4:∀ws:List Str,(ws.length:Int)=m->ws.Nodup->(∀w∈ws,1<=w.length/\w.length<=20)->Q (.l (ws.map .s)))
variable{ws:List Str}
theorem dX{w:Str}:inT (.s w) (ws.map T.s)=inV (.str w) (ws.map V.str):=by
 unfold inT inV;rw[Xs,Xs];rfl
theorem rY(ws:List Str):fls (ws.map T.s)=true:=by
 unfold fls;rw[Y3,WU];exact λ_ _=>rfl
theorem a9(ws:List Str):T.ims (ws.map T.s)=true:=a5 (λ_=>rfl) ws
theorem noq{w z:Str}(h:z∈kq):w++("q":Str)≠z:=by
 intro e;have h1:(w++("q")).cps.toList.getLast?=Z 113:=by simp[Str.cps_append,show(Str.ofString "q").cps=#[113]from by decide +kernel]
 rw[e]at h1;have h2:∀z∈kq,z.cps.toList.getLast? ≠ Z 113:=by decide +kernel
 exact h2 z h h1
theorem Ri{w:Str}:inV (.str (w++("q":Str))) (kq.map V.str)=false:=by
 cases e:inV (.str (w++("q"))) (kq.map V.str)with
 |false=>rfl
 |true=>exact absurd U (noq (pP.mp e))
theorem kU{w:Str}:inV (.str w) (kept.map V.str)=(inV (.str w) (yJ.map V.str)||inV (.str w) (kq.map V.str)):=by
 unfold kept inV;rw[pz,List.any_append]
theorem NX{i:Int}(h0:0<=i)(h1:i<ws.length):∃w,atI (ws.map T.s) i=Z (.s w)/\w∈ws:=by
 let(v,e,hm):=Sn (xs:=ws.map T.s) h0 (h1:)
 let(w,hw,U):=n8.mp hm;exact(w,e,hw)
structure Dp(ks:List Kd):Prop where
 k1:1<=ks.length
 k2:ks.length<=3
 nd:(ks.map (·.1)).Nodup
 mn:(names ks).Nodup
 ne:∀k∈ks,k.2 ≠ []/\k.2.length<=6
 fl:∀k∈ks,∀m∈k.2,m.2.length<=4/\∀f∈m.2,f∈ks.map (·.1)
inductive Mx(ts:List L2.T)(Q:L2.T->Prop):Prop
 |mk(ws:List Str)(h1:ts=[.dv,.l (ws.map .s)])(h2:ws.length=40)(h3:ws.Nodup)(h4:∀ks,Dp ks->(∀m∈names ks,m∈ws)->Q (tKs ks))
variable{j:Nat}
theorem fW{w:Str}(h:ws[j]?=Z w):atI (ws.map T.s) (j:Int)=Z (.s w):=bu (by rw[gV,h];rfl)
theorem Vd(h:ws.length=40):d9 (ws.map T.s) (Z 4) Y++d9 (ws.map T.s) Y (Z 4)=(ws.drop 4++ws.take 4).map T.s:=by
 unfold d9;have q:HT.sIx (ws.map T.s).length 0 (Z 4)=4:=by rw[dN,h];rfl
 have g:HT.sIx (ws.map T.s).length (ws.map T.s).length (Z 4)=4:=by rw[dN,h];rfl
 rw[q,g];show(List.drop 4 (ws.map T.s)).take ((ws.map T.s).length-4)++(List.drop 0 (ws.map T.s)).take (4-0)=_;rw[Yz (by rw[WT];lia),YI,pz,Yp,X6]
theorem sC{α β:Type}(f:α->β)(xs:List α)(lo hi:Option Int):d9 (xs.map f) lo hi=(d9 xs lo hi).map f:=by
 unfold d9;rw[dN,<- Yp,<- X6]
theorem CQ(ws:List Str)(lo hi:Option Int):T.ims (d9 (ws.map T.s) lo hi)=true:=by rw[sC];exact a9 _
theorem Ui(x y:Int)(b:Bool):atI [T.i x,T.i y] (if b=O then 1 else 0)=Z (.i (if b=O then y else x)):=by cases b <;> rfl
theorem Ox{x y z r:Int}(h0:0<=r)(h1:r<3):∃v,atI [T.i x,T.i y,T.i z] r=Z (.i v)/\(v=x\/v=y\/v=z):=by
 obtain⟨n,rfl⟩:∃n:Nat,r=n:=(r.toNat,by lia)
 match n,h1 with
 | 0,_=>exact(x,U,.inl U)
 | 1,_=>exact(y,U,.inr (.inl U))
 | 2,_=>exact(z,U,.inr (.inr U))
 |n+3,h=>lia
theorem leK(a b:Nat)(h:‹Nat.ble a b=true›):a<=b:=Nat.le_of_ble_eq_true h
theorem BL{α:Type}{p:α->Prop}:∀x∈([]:List α),p x:=λ_ h=>absurd h xy
theorem all1{α:Type}{p:α->Prop}{a:α}(h:p a):∀x ∈ [a],p x:=λ_ hx=>fy.mp hx▸h
theorem all2{α:Type}{p:α->Prop}{a b:α}(h:p a)(h2:p b):∀x ∈ [a,b],p x:=λx hx=>(pj.mp hx).elim (λe=>e▸h) (all1 h2 x)
theorem Wx{α:Type}{p:α->Prop}{a b c:α}(h:p a)(h2:p b)(h3:p c):∀x ∈ [a,b,c],p x:=λx hx=>(pj.mp hx).elim (λe=>e▸h) (all2 h2 h3 x)
structure sO(ws M:List Str)(many:Nat)(ks:List Kd)(k made:Nat):Prop where
 nm:ks.map (·.1)=ws.take k
 mn:names ks=M.take made
 b1:made<=6*k
 ne:∀k∈ks,k.2 ≠ []/\k.2.length<=6
 fl:∀k∈ks,∀m∈k.2,m.2.length<=4/\∀f∈m.2,f∈ws.take many
variable{ms:List Mk1}
theorem sO.next{M:List Str}{many:Nat}{ks:List Kd}{k made g:Nat}{n:Str}(D:sO ws M many ks k made)(hn:ws[k]?=Z n)(hm:M.take made++ms.map (·.1)=M.take g)(h0:ms ≠ [])(h1:ms.length<=6)(h2:g<=made+ms.length)(h3:∀m∈ms,m.2.length<=4/\∀f∈m.2,f∈ws.take many):
  sO ws M many (ks++[(n,ms)]) (k+1) g where
 nm:=by rw[pz,D.nm,<- take_one hn];rfl
 mn:=by
  have:names (ks++[(n,ms)])=names ks++ms.map (·.1):=by unfold names;simp
  rw[this,D.mn,hm]
 b1:=by have:=D.b1;lia
 ne:=λx hx=>by
  obtain h|h:=n6.mp hx
  ·exact D.ne x h
  ·rw[fy.mp h];exact(h0,h1)
 fl:=λx hx=>by
  obtain h|h:=n6.mp hx
  ·exact D.fl x h
  ·rw[fy.mp h];exact h3
theorem sO.good{M:List Str}{many:Nat}{ks:List Kd}{made:Nat}(D:sO ws M many ks many made)(hw:ws.Nodup)(g:M.Nodup)(h1:1<=many)(h2:many<=3)(hl:3<=ws.length):Dp ks:=by
 have hlen:ks.length=many:=by
  have:=congrArg N9 D.nm
  rw[dN,sR]at this
  lia
 refine(by lia,by lia,by rw[D.nm];exact hw.sublist (W9 _ _),by rw[D.mn];exact g.sublist (W9 _ _),D.ne,λk hk m hm=>?_)
 have z:=D.fl k hk m hm;rw[D.nm];exact z
theorem Bk{a b:Str}:decide ((Sum.inr a:Key)=.inr b)=decide (a=b):=by
 by_cases h:a=b
 ·simp
 ·rw[decide_eq_false h,decide_eq_false λz=>h (Sum.inr.inj z)]
variable{mg:Str->Option B}
theorem never{P:Da}{w:Cl}{K:BT}{base:Do}{CX:CXT}{k:Nat}{f:J}{fd:Ch}{ps:List Str}{sp:PSp}(h:∀ts Q,¬ sp ts Q):bj P w K mg base CX k f fd ps (spQ K sp):=
 (λ_ _ _ _ g=>by let(_,ts,_,Qp,_,_,z,_):=g;exact(h ts Qp z).elim,λ_ _ _ _ _ _ _ _ _ _ _ _ _ g=>by let(_,ts,_,Qp,_,_,z,_):=g;exact(h ts Qp z).elim)
def kEn(k:Kd):Key×T:=(.inr k.1,tMs k.2)
theorem rh:∀ks:List Kd,cv (ks.map tK)=Z (ks.map kEn)
 |[]=>rfl
 |k::r=>by
  show(match(Z (.inr k.1)),cv (r.map tK)with|some k',Z r=>Z ((Prod.mk k' (tMs k.2))::r)|_,_=>Y)=_
  rw[rh r];rfl
theorem ma:∀{ps acc:List (Key×T)},(ps.map (·.1)).Nodup->(∀p∈ps,∀q∈acc,q.1≠p.1)->cZ acc ps=acc++ps
 |[],acc,_,_=>by simp[cZ]
 |p::ps,acc,h,hd=>by
  have h':=v3.mp h;have e:jw acc p.1 p.2=acc++[p]:=by
   unfold jw;rw[if_neg];intro z;let(q,hq,P):=WX.mp z;exact hd p ad q hq (of_decide_eq_true P)
  show cZ (jw acc p.1 p.2) ps=_;rw[e,ma h'.2 λK g q hq=>?_]
  ·simp
  ·obtain z|z:=n6.mp hq
   ·exact hd K (by simp[g]) q z
   ·rw[fy.mp z];exact λe=>h'.1 (n8.mpr (K,g,e.symm))
theorem Nh{ks:List Kd}{k:Str}(h:k∈ks.map (·.1)):cw (ks.map kEn) (.inr k)=Z (tMs (g6 ks k)):=by
 unfold cw g6
 induction ks with
 |nil=>cases h
 |cons x r g =>
  by_cases e:x.1=k
  ·rw[x2,Pt,Pt,show(kEn x).1=.inr x.1 from U,Bk,decide_eq_true e];rfl
  ·have h':k∈r.map (·.1):=by
    obtain z|z:=pj.mp h
    ·exact absurd z.symm e
    ·exact z
   rw[x2,Pt,Pt,show(kEn x).1=.inr x.1 from U,Bk,decide_eq_false e];exact g h'
theorem NQ{ks:List Kd}(h:(ks.map (·.1)).Nodup):cZ [] (ks.map kEn)=ks.map kEn:=by
 rw[ma]
 ·rfl
 ·rw[u4]
  have:(ks.map ((λx=>x.1) ∘ kEn))=(ks.map (·.1)).map Sum.inr:=by rw[u4];rfl
  rw[this];exact Xl.mpr (h.imp λg z=>g (Sum.inr.inj z))
 ·intro p _ q hq;cases hq
theorem uW{ks:List Kd}{k:Str}(g:(ks.map (·.1)).Nodup)(h:k∈ks.map (·.1)):cw (cZ [] (ks.map kEn)) (.inr k)=Z (tMs (g6 ks k)):=by rw[NQ g,Nh h]
structure cI(ks:List Kd):Prop where
 k1:1<=ks.length
 k2:ks.length<=6
 nd:(ks.map (·.1)).Nodup
 mn:(names ks).Nodup
 ne:∀k∈ks,k.2 ≠ []/\k.2.length<=6
 fl:∀k∈ks,∀m∈k.2,m.2.length<=4/\∀f∈m.2,f∈ks.map (·.1)
theorem Sk{r:Int}(h0:0<=r)(h1:r.toNat<ws.length):atI (ws.map L2.T.s) r=Z (.s ws[r.toNat]):=by
 have:=fW (ws:=ws) (j:=r.toNat) (w:=ws[r.toNat]) (by simp[h1])
 rwa [W3 h0]at this
abbrev Sc:=List (Str×Str)
def tP(p:Str×Str):T:=.t [.s p.1,.s p.2]
theorem fA(p:Str×Str):(tP p).im=true:=rfl
def Fills(sc:Sc)(ns fs:List Str):Prop:=ns.length=fs.length/\∀p∈ns.zip fs,p∈sc
variable{sc:Sc}{ns:List Str}
theorem Fills.snoc{fs:List Str}{n f:Str}(h:Fills sc ns fs)(hp:(n,f)∈sc):Fills sc (ns++[n]) (fs++[f]):=by
 refine(by simp[h.1],λp g=>?_)
 rw[List.zip_append h.1]at g;obtain z|z:=n6.mp g
 ·exact h.2 p z
 ·simp at z;rw[z];exact hp
inductive AH(ts:List L2.T)(Q:L2.T->Prop):Prop
 |mk(sc:Sc)(fs:List Str)(t:T)(h1:(t=.t (fs.map .s)\/t=.l (fs.map .s)))(h2:ts=[.dv,.l (sc.map tP),t])(h3:sc.length<=60)(h4:fs.length<=1000)(h5:Q .n)(h6:∀ns:List Str,Fills sc ns fs->Q (.t (ns.map .s)))
abbrev Hd:=Str×Sc×Str
def tH(h:Hd):T:=.t [.s h.1,.t (h.2.1.map tP),.s h.2.2]
theorem UJ(h:Hd):(tH h).im=true:=by
 show(O&&(T.ims (h.2.1.map tP)&&O))=O;rw[a5 fA];rfl
def tW(ks:List Kd)(hs:List Hd)(ws:List Str):T:=.t [tKs ks,.l (hs.map tH),.l (ws.map .s)]
structure Wld(ks:List Kd)(hs:List Hd)(ws:List Str):Prop where
 gk:cI ks
 wl:ws.length=40
 wn:ws.Nodup
 h1:1<=hs.length
 h8:hs.length<=8
 hn:(hs.map (·.1)).Nodup
 hp:∀h∈hs,h.2.1.length<=4/\(∀p∈h.2.1,p.2∈ks.map (·.1))/\h.2.1.map (·.1)=ws.take h.2.1.length/\h.2.2∈ks.map (·.1)
structure sN(ks:List Kd)(ws:List Str)(h:Hd)(sc:Sc):Prop where
 nm:sc.map (·.1)=ws.take sc.length
 ln:sc.length<=30
 kd:∀p∈sc,p.2∈ks.map (·.1)
 p1:h.2.1.length<=sc.length
 pf:sc.take h.2.1.length=h.2.1
abbrev Arm:=Str×List Str×T×Nat
def tA(a:Arm):T:=.t [.s a.1,.t (a.2.1.map .s),a.2.2.1]
inductive Snd(ks:List Kd)(hs:List Hd)(r:Str):Nat->Sc->T->Prop
 |give{sc:Sc}{x:Str}:(x,r)∈sc->Snd ks hs r 1 sc (.t [.s "give",.s x])
 |fc{n:Nat}{sc:Sc}{w:Str}{c:Int}{b:T}:(w="pay" \/ w="get")->Snd ks hs r n sc b->Snd ks hs r (n+1) sc (.t [.s w,.i c,b])
 |name{n:Nat}{sc:Sc}{x y k:Str}{b:T}:(y,k)∈sc->x ∉ sc.map (·.1)->Snd ks hs r n (sc++[Prod.mk x k]) b->Snd ks hs r (n+1) sc (.t [.s "name",.s x,.s y,b])
 |make{n:Nat}{sc:Sc}{x:Str}{m:Mk1}{kd:Kd}{ns:List Str}{b:T}:kd∈ks->m∈kd.2->Fills sc ns m.2->x ∉ sc.map (·.1)->Snd ks hs r n (sc++[(x,kd.1)]) b->Snd ks hs r (n+1) sc (.t [.s "make",.s x,.s m.1,.t (ns.map .s),b])
 |call{n:Nat}{sc:Sc}{x:Str}{h:Hd}{ns:List Str}{b:T}:h∈hs->Fills sc ns (h.2.1.map (·.2))->x ∉ sc.map (·.1)->Snd ks hs r n (sc++[(x,h.2.2)]) b->Snd ks hs r (n+1) sc (.t [.s "call",.s x,.s h.1,.t (ns.map .s),b])
 |case{sc:Sc}{x:Str}{kd:Kd}(arms:List Arm):(x,kd.1)∈sc->kd∈ks->arms.map (·.1)=kd.2.map (·.1) ->
   (∀(i:Nat)(a:Arm)(m:Mk1),arms[i]?=Z a->kd.2[i]?=Z m->a.2.1.length=m.2.length/\(sc.map (·.1)++a.2.1).Nodup) ->
   (∀(i:Nat)(a:Arm)(m:Mk1),arms[i]?=Z a->kd.2[i]?=Z m->Snd ks hs r a.2.2.2 (sc++a.2.1.zip m.2) a.2.2.1) ->
   Snd ks hs r (1+(arms.map (·.2.2.2)).sum) sc (.t [.s "case",.s x,.t (arms.map tA)])
theorem Snd.im{ks:List Kd}{hs:List Hd}{r:Str}{n:Nat}{sc:Sc}{b:T}(h:Snd ks hs r n sc b):b.im=true:=by
 induction h with
 |give _=>rfl
 |fc _ _ g=>show(O&&(O&&(T.im _&&O)))=O;rw[g];rfl
 |name _ _ _ g=>show(O&&(O&&(O&&(T.im _&&O))))=O;rw[g];rfl
 |make _ _ _ _ _ g=>show(O&&(O&&(O&&(T.ims _&&(T.im _&&O)))))=O;rw[g,a9];rfl
 |call _ _ _ _ g=>show(O&&(O&&(O&&(T.ims _&&(T.im _&&O)))))=O;rw[g,a9];rfl
 |@case sc x kd arms _ _ hn _ _ g =>
  show(O&&(O&&(T.ims (arms.map tA)&&O)))=O
  have:T.ims (arms.map tA)=true:=by
   have go:∀l,(∀t∈l,t.im=O)->T.ims l=true:=by
    intro l
    induction l with
    |nil=>intro _;rfl
    |cons t r g=>intro h;show(t.im&&T.ims r)=O;rw[h t lj,g λt q=>h t (jQ _ q)];rfl
   refine go _ λt q=>?_
   let(a,ha,U):=n8.mp q;let(i,hi,e):=uj ha;have hl:=by have:=congrArg N9 hn;simpa using this.symm
   have z:=g i a (kd.2[i]'(by lia)) (by rw[gs hi,e]) (gs _)
   show(O&&(T.ims (a.2.1.map .s)&&(a.2.2.1.im&&O)))=O;rw[z,a9];rfl
  rw[this];rfl
def tb:Nat->List Nat
 | 0=>[2]
 |n+1=>(1+max ((tb n).getD 0 2) (max ((tb n).getD 1 2) (max (2*(tb n).getD 2 2) (max (3*(tb n).getD 3 2) (max (4*(tb n).getD 4 2) (max (5*(tb n).getD 5 2) (6*(tb n).getD 6 2)))))))::tb n
def sz(n:Nat):Nat:=(tb n).getD 0 2
theorem jn:∀n k:Nat,(tb n).getD k 2=sz (n-k)
 | 0,0=>rfl
 | 0,k+1=>by rw[Nat.zero_sub];rfl
 |n+1,0=>rfl
 |n+1,k+1=>by
  rw[Nat.add_sub_add_right,<- jn n k];rfl
theorem Lp(n:Nat):sz (n+1)=1+max (sz n) (max (sz (n-1)) (max (2*sz (n-2)) (max (3*sz (n-3)) (max (4*sz (n-4)) (max (5*sz (n-5)) (6*sz (n-6))))))):=by
 show 1+max ((tb n).getD 0 2) _=_;rw[jn,jn,jn,jn,jn,jn,jn];rfl
theorem Ac(n:Nat):1+sz n<=sz (n+1):=by exact Yc (Xu _ _) 1
theorem Gs:∀n:Nat,2<=sz n
 | 0=>ot _
 |n+1=>by have:=Ac n;have:=Gs n;lia
variable{n:Nat}
theorem Lr{k:Nat}(h1:1<=k)(h6:k<=6):1+k*sz (n-k)<=sz (n+1):=by
 rw[Lp]
 have:k=1\/k=2\/k=3\/k=4\/k=5\/k=6:=by lia
 have r:∀{a b c:Nat},a<=c->a<=max b c:=λh=>ui h (Nat.le_max_right _ _)
 refine Yc ?_ 1;obtain rfl|rfl|rfl|rfl|rfl|rfl:=this
 ·rw[Nat.one_mul];exact r (Xu _ _)
 ·exact r (r (Xu _ _))
 ·exact r (r (r (Xu _ _)))
 ·exact r (r (r (r (Xu _ _))))
 ·exact r (r (r (r (r (Xu _ _)))))
 ·exact r (r (r (r (r (r (ot _))))))
variable{m:Nat}
theorem Lq(h:n<=m):sz n<=sz m:=by
 induction h with
 |refl=>exact ot _
 |step _ g=>exact ui g (ui (Nat.le_add_left _ _) (Ac _))
theorem Tf:sz 30<=50000:=by decide +kernel
variable{kd:Kd}
theorem yC{ks:List Kd}(g:(ks.map (·.1)).Nodup)(h:kd∈ks):g6 ks kd.1=kd.2:=by
 unfold g6
 induction ks with
 |nil=>cases h
 |cons x r q =>
  rw[x2,v3]at g;by_cases e:x.1=kd.1
  ·obtain z|z:=pj.mp h
   ·subst z;simp
   ·exact absurd (n8.mpr (kd,z,e.symm)) g.1
  ·rw[Pt,decide_eq_false e];obtain z|z:=pj.mp h
   ·exact absurd (by rw[z]) e
   ·exact q g.2 z
theorem OD{ks:List Kd}{k:Str}(h:k∈ks.map (·.1)):∃kd∈ks,kd.1=k:=by
 let(kd,h1,h2):=n8.mp h;exact(kd,h1,h2)
variable{x:Str}
theorem sN.fresh{ks:List Kd}{h:Hd}(S:sN ks ws h sc)(wn:ws.Nodup)(hx:ws[sc.length]?=Z x):x ∉ sc.map (·.1):=by
 rw[S.nm];intro z;have q:=wn.sublist (W9 (sc.length+1) ws);rw[<- take_one hx]at q;exact(Fs.mp q).2.2 x z x ad U
theorem sN.snoc{ks:List Kd}{h:Hd}{k:Str}(S:sN ks ws h sc)(hx:ws[sc.length]?=Z x)(hl:sc.length<30)(hk:k∈ks.map (·.1)):sN ks ws h (sc++[Prod.mk x k]) where
 nm:=by rw[pz,S.nm,jR];exact take_one hx
 ln:=by simp;lia
 kd:=λp hp=>by
  obtain z|z:=n6.mp hp
  ·exact S.kd p z
  ·rw[fy.mp z];exact hk
 p1:=by rw[jR];have:=S.p1;lia
 pf:=by rw[X8 S.p1];exact S.pf
inductive pM(ts:List L2.T)(Q:L2.T->Prop):Prop
 |mk(ks:List Kd)(hs:List Hd)(ws:List Str)(sc:Sc)(f:Nat)(h:Hd)(h1:ts=[.dv,tW ks hs ws,.l (sc.map tP),.s h.2.2,.i f])(h2:Wld ks hs ws)(h3:hs[f]?=Z h)(h4:sN ks ws h sc)(h5:∀n b,n<=2->Snd ks hs h.2.2 n sc b->Dep 2 b->Q b)
inductive kO(N:Nat)(ts:List L2.T)(Q:L2.T->Prop):Prop
 |mk(ks:List Kd)(hs:List Hd)(ws:List Str)(sc:Sc)(f:Nat)(h:Hd)(u:Int)(h1:ts=[.dv,tW ks hs ws,.l (sc.map tP),.i f,.rm u])(h2:Wld ks hs ws)(h3:hs[f]?=Z h)(h4:sN ks ws h sc)(h5:sc.length<=21)(h6:u.toNat<N)(h7:∀n b,n<=sz u.toNat->Snd ks hs h.2.2 n sc b->Dep (3*u.toNat+2) b->Q b)
inductive QU(N:Nat)(ts:List L2.T)(Q:L2.T->Prop):Prop
 |mk(ks:List Kd)(hs:List Hd)(ws:List Str)(sc:Sc)(f:Nat)(h:Hd)(u:Int)(h1:ts=[.dv,tW ks hs ws,.l (sc.map tP),.i f,.rm u])(h2:Wld ks hs ws)(h3:hs[f]?=Z h)(h4:sN ks ws h sc)(h5:sc.length<=17)(h6:sc ≠ [])(h7:u.toNat<N)(h8:∀n b,n<=sz (u.toNat+1)->Snd ks hs h.2.2 n sc b->Dep (3*u.toNat+5) b->Q b)
theorem zc{α:Type}{xs:List α}(h:n<=xs.length):d9 xs Y (Z (n:Int))=xs.take n:=by
 unfold d9;rw[HT.xY,HT.Cd,SM h,YI,Nat.sub_zero]
theorem Fills.self:Fills sc ((sc.take n).map (·.1)) ((sc.take n).map (·.2)):=by
 refine(by simp,λp hp=>?_)
 rw[List.zip_map',n8]at hp;let(q,hq,U):=hp;exact QL hq
theorem BY{fs:List Str}(h:ns.length=fs.length):(ns.zip fs).map (·.1)=ns:=by
 rw[Yv (by lia)]
theorem sN.more{ks:List Kd}{h:Hd}{fs:List Str}(S:sN ks ws h sc)(wn:ws.Nodup)(e:ns=(ws.drop sc.length).take fs.length)(hl:sc.length+fs.length<=30)(hw:40<=ws.length)(hk:∀f∈fs,f∈ks.map (·.1)):
  ns.length=fs.length/\(sc.map (·.1)++ns).Nodup/\sN ks ws h (sc++ns.zip fs):=by
 have l1:ns.length=fs.length:=by rw[e,sR,WT];lia
 have g:sc.map (·.1)++ns=ws.take (sc.length+fs.length):=by rw[S.nm,e,List.take_add]
 have q:(ns.zip fs).length=fs.length:=by rw[Xi];lia
 refine(l1,by rw[g];exact wn.sublist (W9 _ _),(?_,?_,λp hp=>?_,?_,?_))
 ·rw[pz,BY l1,g,jR,q]
 ·rw[jR];lia
 ·obtain z|z:=n6.mp hp
  ·exact S.kd p z
  ·exact hk p.2 (Xt z).2
 ·rw[jR];have:=S.p1;lia
 ·rw[X8 S.p1];exact S.pf
variable{arms:List Arm}{Zg:Nat}
theorem PN(h:∀a∈arms,a.2.2.2<=Zg):(arms.map (·.2.2.2)).sum<=arms.length*Zg:=by
 induction arms with
 |nil=>simp
 |cons a r g =>
  have h1:=h a lj;have h2:=g λb q=>h b (jQ _ q)
  rw[x2,XN,ri,Nat.add_mul]
  lia
structure Pa(ks:List Kd)(hs:List Hd)(r:Str)(sc:Sc)(Zg D:Nat)(a:Arm)(m:Mk1):Prop where
 nm:a.1=m.1
 ln:a.2.1.length=m.2.length
 nd:(sc.map (·.1)++a.2.1).Nodup
 sn:Snd ks hs r a.2.2.2 (sc++a.2.1.zip m.2) a.2.2.1
 sz:a.2.2.2<=Zg
 dp:Dep D a.2.2.1
structure uB(ks:List Kd)(hs:List Hd)(r:Str)(sc:Sc)(Zg D:Nat)(arms:List Arm)(ms:List Mk1):Prop where
 ln:arms.length=ms.length
 ok:∀(i:Nat)(a:Arm)(m:Mk1),arms[i]?=Z a->ms[i]?=Z m->Pa ks hs r sc Zg D a m
variable{hs:List Hd}{r:Str}{D:Nat}
theorem uB.snoc{ks:List Kd}{a:Arm}{m:Mk1}(h:uB ks hs r sc Zg D arms ms)(ha:Pa ks hs r sc Zg D a m):uB ks hs r sc Zg D (arms++[a]) (ms++[m]):=by
 refine(by simp[h.ln],λi q m' h1 h2=>?_)
 by_cases hi:i<arms.length
 ·rw[Dr hi]at h1;rw[Dr (by rw[<- h.ln];exact hi)]at h2
  exact h.ok i q m' h1 h2
 ·rw[M1 (by lia)]at h1
  rw[M1 (by rw[<- h.ln];lia),<- h.ln]at h2
  have g:i-arms.length=0:=by
   have:=(iY.mp h1).1
   simp at this
   lia
  rw[g]at h1 h2;simp at h1 h2;subst h1 h2;exact ha
theorem uB.snd{ks:List Kd}(h:uB ks hs r sc Zg D arms kd.2)(hx:(x,kd.1)∈sc)(hk:kd∈ks):Snd ks hs r (1+(arms.map (·.2.2.2)).sum) sc (.t [.s "case",.s x,.t (arms.map tA)])/\(arms.map (·.2.2.2)).sum<=arms.length*Zg:=by
 refine(.case arms hx hk ?_ (λi a m h1 h2=>((h.ok i a m h1 h2).ln,(h.ok i a m h1 h2).nd)) (λi a m h1 h2=>(h.ok i a m h1 h2).sn),PN λa ha=>?_)
 ·apply Y0
  intro i;rw[gV,gV];by_cases hi:i<arms.length
  ·have q:=gs hi;have g:kd.2[i]?=Z (kd.2[i]'(by rw[<- h.ln];exact hi)):=gs _
   rw[q,g];exact congrArg Z (h.ok i _ _ q g).nm
  ·rw[UZ ap,UZ (by rw[<- h.ln];omega)]
   rfl
 ·let(i,hi,e):=uj ha;exact(h.ok i a _ (by rw[gs hi,e]) (gs (by rw[<- h.ln];exact hi))).sz
theorem gJ{α:Type}{xs:List α}{f:α->T}{r:Int}(h0:0<=r)(h1:r<xs.length):∃x∈xs,atI (xs.map f) r=Z (f x):=by
 have h:r.toNat<xs.length:=by lia
 refine(xs[r.toNat],SR h,?_)
 have:=bu (xs:=xs.map f) (by rw[gV,gs h];rfl)
 rwa [W3 h0]at this
theorem max_two{r g:Int}(P:0<=r)(K:r<n)(z:0<=g)(q:g<n):0 <=(if g > r then g else r)/\(if g > r then g else r)<n:=by split <;> lia
theorem FJ{α β:Type}{A:List α}{Zg:List β}{a:α}{b:β}(ha:A[j]?=Z a)(g:Zg[j]?=Z b):(A.take (j+1)).zip (Zg.take (j+1))=(A.take j).zip (Zg.take j)++[(a,b)]:=by
 have h1:=(iY.mp ha).1;have h2:=(iY.mp g).1;rw[ro,ro,ha,g,List.zip_append (by rw[sR,sR];lia)]
 rfl
theorem uB.im{ks:List Kd}{hs:List Hd}{r:Str}{sc:Sc}{Zg D:Nat}{arms:List Arm}{ms:List Mk1}(h:uB ks hs r sc Zg D arms ms):T.ims (arms.map tA)=true:=by
 have go:∀l,(∀t∈l,t.im=O)->T.ims l=true:=by
  intro l
  induction l with
  |nil=>intro _;rfl
  |cons t r q=>intro h;show(t.im&&T.ims r)=O;rw[h t lj,q λt g=>h t (jQ _ g)];rfl
 refine go _ λt g=>?_
 let(a,ha,U):=n8.mp g;let(i,hi,e):=uj ha;have z:=(h.ok i a _ (by rw[gs hi,e]) (gs (by rw[<- h.ln];exact hi))).sn.im
 show(O&&(T.ims (a.2.1.map .s)&&(a.2.2.1.im&&O)))=O;rw[z,a9];rfl
theorem y3{l:List Str}:Dep (n+1) (.t (l.map .s)):=Dep.t λx hx=>by
 let(z,_,U):=n8.mp hx;exact Dep.s
theorem kc:∀x∈([]:List T),Dep n x:=nofun
theorem dP{t:T}{ts:List T}(h:Dep n t)(hs:∀x∈ts,Dep n x):∀x∈t::ts,Dep n x:=λx hx=>(pj.mp hx).elim (λe=>e▸h) (hs x)
theorem so:Dep (n+1) (.t [.s "give",.s x]):=Dep.t (dP Dep.s (dP Dep.s kc))
theorem Fb{w:Str}{c:Int}{b:T}(h:Dep D b):Dep (D+1) (.t [.s w,.i c,b]):=Dep.t (dP Dep.s (dP Dep.i (dP h kc)))
variable{y:Str}
theorem JS{w:Str}{b:T}(h:Dep D b):Dep (D+1) (.t [.s w,.s x,.s y,b]):=Dep.t (dP Dep.s (dP Dep.s (dP Dep.s (dP h kc))))
theorem mI{w:Str}{b:T}(h:Dep D b)(h1:1<=D):Dep (D+1) (.t [.s w,.s x,.s y,.t (ns.map .s),b]):=by
 obtain⟨k,rfl⟩:∃k,D=k+1:=(D-1,by lia)
 exact Dep.t (dP Dep.s (dP Dep.s (dP Dep.s (dP y3 (dP h kc)))))
theorem uB.dep{ks:List Kd}(h:uB ks hs r sc Zg D arms ms)(h1:1<=D):Dep (D+3) (.t [.s "case",.s x,.t (arms.map tA)]):=by
 obtain⟨k,rfl⟩:∃k,D=k+1:=(D-1,by omega)
 refine Dep.t (dP Dep.s (dP Dep.s (dP (Dep.t λt g=>?_) kc)))
 let(a,ha,U):=n8.mp g;let(i,hi,e):=uj ha;exact Dep.t (dP Dep.s (dP y3 (dP (h.ok i a _ (by rw[gs hi,e]) (gs (by rw[<- h.ln];exact hi))).dp kc)))
abbrev Fn:=Hd×T×Nat
def tF(f:Fn):T:=.t [.s f.1.1,.t (f.1.2.1.map tP),.s f.1.2.2,f.2.1]
structure Prog(ks:List Kd)(fs:List Fn):Prop where
 gk:cI ks
 l8:fs.length<=8
 hn:(fs.map (·.1.1)).Nodup
 pk:∀f∈fs,f.1.2.1.length<=4/\(∀p∈f.1.2.1,p.2∈ks.map (·.1))/\(f.1.2.1.map (·.1)).Nodup/\f.1.2.2∈ks.map (·.1)
 sn:∀f∈fs,Snd ks (fs.map (·.1)) f.1.2.2 f.2.2 f.1.2.1 f.2.1/\f.2.2<=50000
 dp:∀f∈fs,Dep 92 f.2.1
theorem Dp.p{ks:List Kd}(g:Dp ks):cI ks:=(g.k1,by have:=g.k2;lia,g.nd,g.mn,g.ne,g.fl)
inductive Em(ts:List L2.T)(Q:L2.T->Prop):Prop
 |mk(m u:Int)(h1:ts=[.dv,.i m,.i u])(h2:0<m)(h3:m<=8)(h4:0<=u)(h5:u<=30)(h6:∀ks fs,Prog ks fs->fs ≠ []->(∀f∈fs,f.2.2<=sz u.toNat)->fs.length<=m.toNat->(∀f∈fs,Dep (3*u.toNat+2) f.2.1)->Q (.t [tKs ks,.t (fs.map tF)]))
def nO(o:Nat)(f:Nat):Nat:=if o=0 then f else 39-f
structure vv(ks:List Kd)(ws:List Str)(o:Nat)(hs:List Hd)(i:Nat):Prop where
 ln:hs.length=i
 nm:hs.map (λh=>Z h.1)=(N6 i).map λf=>ws[nO o f]?
 hp:∀h∈hs,h.2.1.length<=4/\(∀p∈h.2.1,p.2∈ks.map (·.1))/\h.2.1.map (·.1)=ws.take h.2.1.length/\h.2.2∈ks.map (·.1)
theorem vv.snoc{ks:List Kd}{o:Nat}{i:Nat}{h:Hd}(H:vv ks ws o hs i)(hn:ws[nO o i]?=Z h.1)(hp:h.2.1.length<=4/\(∀p∈h.2.1,p.2∈ks.map (·.1))/\h.2.1.map (·.1)=ws.take h.2.1.length/\h.2.2∈ks.map (·.1)):vv ks ws o (hs++[h]) (i+1) where
 ln:=by simp[H.ln]
 nm:=by rw[pz,H.nm,YB];simp[hn]
 hp:=λh' hm=>by
  obtain z|z:=n6.mp hm
  ·exact H.hp h' z
  ·rw[fy.mp z];exact hp
theorem vv.nd{ks:List Kd}{o:Nat}{i:Nat}(H:vv ks ws o hs i)(hl:ws.length=40)(wn:ws.Nodup)(hi:i<=8):(hs.map (·.1)).Nodup:=by
 have e:(hs.map (·.1)).map Z=(N6 i).map λf=>ws[nO o f]?:=by rw[<- H.nm,u4];rfl
 have n:((N6 i).map λf=>ws[nO o f]?).Nodup:=by
  refine Xl.mpr (List.Pairwise.imp_of_mem (λ{a b} ha K g z=>?_) (Y6))
  have ha:=Xq.mp ha;have l1:nO o a<ws.length:=by unfold nO;split <;> lia
  have q:=z
  have:=(Y4 l1 wn).mp q
  unfold nO at this
  split at this <;> lia
 rw[<- e]at n;exact(Xl.mp n).imp λg z=>g (by rw[z])
theorem Uu{l:List J}(h:l.Nodup){x y:J}(i j:Nat)(hi:l[i]?=Z x)(g:l[j]?=Z y)(ne:i≠j):x≠y:=λz=>by
 subst z;let(h1,K):=iY.mp hi;let(h2,q):=iY.mp g;exact ne ((Yq h).mp (K.trans q.symm))
variable{C:J}
theorem nk{Zg C':J}(h1:C'≠C)(h2:C'≠Zg):(B.ref C :: .ref Zg::bmV).contains (.ref C')=false:=by
 have q:(B.ref C'==B.ref C)=false:=beq_eq_false_iff_ne.mpr λz=>h1 (B.ref.inj z)
 have g:(B.ref C'==B.ref Zg)=false:=beq_eq_false_iff_ne.mpr λz=>h2 (B.ref.inj z)
 rw[BU,BU,q,g];rfl
variable{bm:List B}
theorem PR:(B.ref C::bm).contains (.ref C)=true:=by rw[BU,beq_self_eq_true,Yy]
theorem PQ{Zg:J}:(B.ref C :: .ref Zg::bm).contains (.ref Zg)=true:=by rw[BU,BU,beq_self_eq_true,Yy,XY]
section
variable{K:BT}{fn:List Str}{C C':J}{bm:List B}{ini:Option J}{i:Nat}{qs:QS}{qr:QH}{ns:List Str}{us:List T}{D:dm}{q:Sq}
theorem Vm(c:b7 K fn C bm ini)(h:(B.ref C::bm).contains (.ref C')=O)(k:qs (D.go i) (q.set i (.r (.xc C ns us)))):TL K fn C' i qs qr C ns us D q:=(bm,ini,c,by rw[if_pos h];exact k)
end
variable{N:Nat}{fm:Int}{sc':Sc}{os:List (Option Str)}{o:Option Str}{xs:List (Fn×List (Option Str))}{sp:Int}{l:Nat}{ps:List Nat}{kvs:List (List Key×V)}{parts:Int}
section
variable{P:Da}{w:Cl}{K:BT}{mg:Str->Option B}{base:Do}{a:Adr}
theorem fH(T:Txt K mg a):bj P w K mg base CX0 1 a.xg a.J0 [Zl,Zv] Gv:=by
 refine T.aU.F.ok pE (λvs H Q E h=>?_) (λcdv A outer s H vs Q E hr h=>?_)
 ·let(d,l,m,U,_):=h;rfl
 ·let(d,l,m,U,(s0,n0,ay,D0),m0,m1,k):=h;have q:=bD hr;refine(_,((bC (yf PassesOwn.never (PW.pt (HR (lP OA (gm q (pv 0) du (λ_ _=>rfl)) bF (bN _)) (Cp (lP CC (gW mQ ba T.cS PySem.boot_len (bq (gm q (pv 0) du (λ_ _=>rfl)) cM)) bF (bN _)))))
 (eT (pL q (pv 0) du (IA PySem.F.plainAttrs_list PySem.F.slot_list_pop PySem.F.type_list_pop IY (gm q (pv 0) du (λ_ _=>rfl))) U)))
 (bC (gI (i:=2) pE.nd U (Or.inl U) (gm q (pv 0) du (λ_ _=>rfl)))
 (bC (H0 (lP CC (pv 2) bF (bN _))
 (bC (pL q (pv 0) du (cP yq (pv 2) (pv 1)) U)
 (eT (qW (cP iI (pv 2) (pv 1)))))
 Cs)
 (bC (gI (i:=3) pE.nd U (Or.inl U) (cP iI (cP nK (cP kP (gm q (pv 0) du (λ_ _=>rfl)) bF) bF) bF))
 (bC (pL q (pv 0) du (cP iI (cP nK (cP kP (pv 3) bF) bF) bF) U)
 (bC (gI (i:=4) pE.nd U (Or.inl U) (cP iI (cP kP (gm q (pv 0) du (λ_ _=>rfl)) (gm q (pv 0) du (λ_ _=>rfl))) bF))
 (eT (qW (cP iI (cP nK (cP kP (cP iI (cP kP (pv 3) (pv 3)) bF) bF) (pv 4)) (pv 1))))))))))),?_)
  refine DR (λc σ H1=>∃s n ls,σ=[Z (.ref d),Z (.int m),Y,Y,Y]/\cT H1 d l s n ls/\Kp d l H H1/\c=ls.length) (s0,n0,ay,U,D0,Kp.refl,U) ?_ ?_
  ·rintro c σ H1 ⟨s1,n1,ls,rfl,D,K1,rfl⟩
   refine(_,U,d,_,U,D.U6,?_);refine(_,U,_,_,U,U,_,U,?_);refine aI (λh1=>?_) (λh1=>?_)
   ·have h1:0<n1:=of_decide_eq_true h1;have q0:0<=n1 / m:=Int.ediv_nonneg (by lia) (by lia)
    refine(_,U,_,U,_,_,U,U,(m0,m1),_,U,d,_,U,D.Ue,?_);refine(_,U,_,U,_,_,U,U,m0,?_);exact k _ _ (mod_lt m0).1 (mod_lt m0).2 (_,_,_,D.num q0) K1.Pk
   ·refine(_,U,d,_,U,D.JH,_,_,U,U,.inr (by decide,by decide),_,_,U,U,_,_,U,U,(by show(0:Int)<2147483647;decide),?_)
    have b2:=mod_lt (x:=(s1*48271+7919) % 2147483647*40692+104729) (m:=2147483399) ac
    refine(_,U,_,_,U,U,.inr (by decide,by decide),_,_,U,U,_,_,U,U,(by show(0:Int)<2147483399;decide),_,U,d,_,U,D.Ub,?_)
    have z:=D.VC (m:=((s1*48271+7919) % 2147483647*40692+104729) % 2147483399) b2.1 (by lia)
    refine(_,U,d,_,U,z.JH,_,U,d,_,U,z.JH,_,_,U,U,.inl (by lia,by lia),_,_,U,U,(by show(0:Int)<2147483563;decide),?_)
    refine(_,U,_,U,_,_,U,U,.inl (by lia,by lia),_,_,U,U,(by show(0:Int)<2147483629;decide),_,_,U,U,.inr (by decide,by decide),_,U,_,_,U,U,_,U,_,_,U,U,m0,?_)
    exact k _ _ (mod_lt m0).1 (mod_lt m0).2 (_,_,_,z) K1.Pk
  ·rintro c σ H1 ⟨s1,n1,ls,rfl,D,K1,rfl⟩ hx
   refine(_,U,d,_,U,D.U6,U,_,U,?_);refine aI (λh1=>?_) (λh1=>hx)
   refine(_,U,d,_,U,D.O1,l,_,U,.inl (SqL.of D.hl),_,_,U,U,_,U,?_);refine aI (λh2=>?_) (λh2=>hx)
   obtain rfl |⟨ls',x,rfl⟩:=YD ls
   ·simp at h2
   ·have ar:H1 l=Z (.lst (ls'.map V.int++[.int x])):=(D.hl:)
    refine(λak H'=>∃s n g,ak=[Z (.ref d),Z (.int m),Y,Y,Y]/\cT H' d l s n g/\Kp d l H H'/\g.length<(ls'++[x]).length,λak H' (s2,n2,g,e,z,K2,h)=>(g.length,(h:),s2,n2,g,e,z,K2,U),?_)
    have x0:0<=x:=D.l0 x ad
    have z:=D.list (ls':=ls') λy hy=>D.l0 y (by simp[hy])
    refine(_,U,d,_,U,D.O1,.inl (U,_,SqL.of ar),l,_,.int x,U,U,ar,ad,?_)
    rw[YG];refine(_,U,d,_,U,z.Ue,?_);exact(_,_,ls',U,z.num x0,(K1.Vw).Pk,by simp)
theorem M5(T:Txt K mg a):bj P w K mg base CX0 1 a.xh a.J1 [Zx,ZF] (PV K):=by
 refine T.xC.F.ok lK (λvs H Q E h=>?_) (λcdv A outer s H vs Q E hr h=>?_)
 ·let(a,ns,b,U,_):=h;rfl
 ·let(p0,ns,b,U,hS,hlen,b0,b1,k):=h;have hu:=bD hr;refine(_,((bC (Ct (i:=2) lK.nd U (Or.inl U) U (pN (yj B7 (pv 0) (wq (pv 1)) (wq bF))) (N':=[ZA]) (.own U .nil) (λ_ _ _ _ _=>((lX (i:=0) (show([ZA]:List Str).Nodup from by decide +kernel) U (Or.inl U)),Cr,(gW (ie U) ba T.vt (by kernel_rfl) (bq (pv 0) (bq (cP AQ bF (pv 0)) cM))))))
 (bC (gI (i:=3) lK.nd U (Or.inl U) (cP nK bF (pv 1)))
 (bC (AG PassesOwn.never U (pN (pv 2)) (lX (i:=4) lK.nd U (Or.inl U))
 (eT (gI (i:=3) lK.nd U (Or.inl U) (cP iI (cP nK (cP kP (pv 3) bF) (cP iI (pv 4) bF)) bF))))
 (eT (qW (Cv (lQ du (pv 3) (lQ du bF (lQ du (q9 U U T.xo U T.sJ (Cw U (pN (pv 2)) (N':=[ZA]) (.own U .nil) (λ_ _ _ _ _=>((lX (i:=0) (show([ZA]:List Str).Nodup from by decide +kernel) U (Or.inl U)),(Cq (lP Up (pv 0) (cP IJ bF bF) (bN _))),(pv 0))))) Cu))) U U (by intro z;cases z) ac))))))),?_)
  let(cs,aW,lcs):=J5 ns (Z b) (Z 63);refine(_,U,_,U,_,U,_,U,p0,_,U,hS,λp hp=>(p,U,(_,SqL.of au),?_))
  rw[aW];have s1:lb H (upd H p (.lst (cs.map V.int))):=(lb.refl H).new hp;refine vf (K:=K) (a:=p) (xs:=cs.map V.int) (λi ys g H'=>∃zs:List Int,ys=zs.map V.int/\(∀z∈zs,0<=z)/\zs.length=i/\(∃o,g=[o])/\H'=upd H p (.lst (cs.map V.int))) ([],U,by simp,U,(_,U),U) ?_ ?_ ?_
  ·rintro i ys g H' hi ⟨zs,rfl,_,hz,_,rfl⟩
   refine(SqL.of au,?_);rw[dN]at hi ⊢;exact aF (by lia)
  ·rintro i x ys g H' hi ⟨zs,rfl,z0,hz,⟨o,rfl⟩,rfl⟩
   let(c,U):=int_at hi;refine NF ?_;refine(_,U,_,U,_,_,U,U,_,_,U,?_);refine(zs++[if 0-c > c then 0-c else c],by simp,?_,by simp[hz],(_,U),U)
   intro z ak;obtain h|h:=n6.mp ak
   ·exact z0 z h
   ·rw[fy.mp h]
    split <;> lia
  ·rintro ys g H' ⟨zs,rfl,z0,hz,_,rfl⟩ D hD
   have s2:lb H (upd (upd H p (.lst (cs.map V.int))) D (.lst (zs.map V.int))):=s1.new hD;have ar:(upd (upd H p (.lst (cs.map V.int))) D (.lst (zs.map V.int))) D=Z (.lst (zs.map V.int)):=au
   generalize upd (upd H p (.lst (cs.map V.int))) D (.lst (zs.map V.int))=H2 at s2 ar ⊢
   refine(_,U,_,_,U,U,?_);refine(_,U,D,U,(_,SqL.of ar),JJ (K:=K) (a:=D) (xs:=zs.map V.int) (λi g H'=>∃(n:Int)(o:Option V),g=[Z (.ref p0),Z (.int b),Z (.ref D),Z (.int n),o]/\0<=n/\n<2147483647/\H2=H')
    (_,_,U,by lia,by lia,U) (λi g H' _ (_,_,_,_,_,e)=>by rw[<- e];exact SqL.of ar) ?_ ?_)
   ·rintro i y g H' hi ⟨n,o,rfl,n0,n1,rfl⟩
    let(z,U):=int_at hi;refine(_,U,_,_,U,U,.inr (by decide,by decide),_,U,_,_,U,U,(by show(0:Int)<2147483629;decide),_,_,U,U,_,_,U,U,(by show(0:Int)<2147483647;decide),?_)
    exact(_,_,U,(mod_lt ac).1,(mod_lt ac).2,U)
   ·rintro g H' ⟨n,o,rfl,n0,aR,rfl⟩
    intro pd ay;have R3:(upd H2 pd (.dK [])) D=Z (.lst (zs.map V.int)):=by rw[ao (aO ar ay)];exact ar
    have s3:lb H (upd H2 pd (.dK [])):=s2.new ay;have RX:(upd H2 pd (.dK [])) pd=Z (.dK []):=au;have aN:H pd=none:=s2.free ay
    generalize upd H2 pd (.dK [])=H3 at R3 s3 RX ⊢
    refine(_,U,_,U,D,U,(_,SqL.of R3),vf (K:=K) (a:=D) (xs:=zs.map V.int) (λi ys g H'=>∃ws:List Int,ys=ws.map V.int/\(∀z∈ws,0<=z)/\ws.length<=i/\(∃o,g=[o])/\H3=H') ([],U,by simp,ot _,(_,U),U) ?_ ?_ ?_)
    ·rintro i ys g H' hi ⟨ws,rfl,_,ak,_,rfl⟩
     refine(SqL.of R3,?_);rw[dN]at hi ⊢;rw[dN]at hz;exact aF (by lia)
    ·rintro i x ys g H' hi ⟨ws,rfl,w0,ak,⟨o,rfl⟩,rfl⟩
     let(c,U,hc):=Nu hi;refine(_,U,_,_,U,U,(by decide,by decide,by decide),_,_,U,U,_,U,?_)
     refine aI (λh1=>?_) (λh1=>?_)
     ·refine(_,U,ws++[c],by simp,?_,by simp;lia,(_,U),U)
      intro z ak;obtain h|h:=n6.mp ak
      ·exact w0 z h
      ·rw[fy.mp h];exact z0 c hc
     ·exact(ws,U,w0,by lia,(_,U),U)
    ·rintro ys g H' ⟨ws,rfl,w0,ak,_,rfl⟩ D2 aM
     refine(D2,_,U,SqL.of au,λq hq=>?_)
     have n1:pd≠D2:=aO RX aM;have e1:(upd H3 D2 (.lst (ws.map V.int))) pd=Z (.dK []):=by rw[ao n1];exact RX
     have n2:pd≠q:=aO e1 hq;have s4:lb H (upd (upd H3 D2 (.lst (ws.map V.int))) q (.lst ((ws.map V.int).reverse))):=(s3.new aM).new hq;refine(by rw[ao n2];exact e1,[(.inr "seed",.int n),(.inr "number",.int 0),(.inr "left",.ref q)],U,(by show 3<=15;decide),?_)
     refine k pd q _ aN ((s3.new aM).free hq) (n,0,ws.reverse,au,?_,n0,aR,WZ _,?_) ?_
     ·rw[ao n2.symm,au,List.map_reverse]
     ·intro x hx;exact w0 x (hx:)
     ·intro c o hc
      have:c≠pd:=aO hc aN
      rw[ao this];exact s4 c o hc
theorem l7(T:Txt K mg a):bj P w K mg base CX0 1 a.gv a.oC ["kinds","kind"] (spQ K Ih):=by
 refine T.jU.F.okQ iC (λ_ _ _ _ _ _ hr=>?_)
 ·have hu:=bD hr;refine(_,_,((ag (bE (g:=(Tg.tp [2,3])) PassesOwn.never U (jv (Zj (qv 0))) (dz (bp 2 iC.nd) (bp 3 iC.nd))
 (aj (aX (bB hu (qv 2) (qv 1))
 (aj (aD (Zj (qv 3))))
 aC)))
 (aj (aD (aq ai))))),λts Q h=>?_)
  let(ks,k,U,hq):=h;refine(wR ks,λi q=>(∃o2 o3,q=[.r (tKs ks),.r (.s k),o2,o3])/\∀(j:Nat)(y:Kd),j<i->ks[j]?=Z y->y.1≠k,((_,_,U),λj y hj=>absurd hj (Nat.not_lt_zero _)),?_,?_)
  ·rintro i x q hx ⟨⟨o2,o3,rfl⟩,ak⟩
   rw[gV]at hx;let(kk,hk,U):=g5.mp hx;refine(_,U,?_);refine(U,?_);refine aI (λg1=>?_) (λg1=>?_)
   ·refine(rQ _,?_);rw[CJ hk (V.str.inj (of_decide_eq_true g1)) ak]at hq;exact hq
   ·refine((_,_,U),λj y hj hy=>?_)
    by_cases e:j=i
    ·subst e;rw[hk]at hy;cases hy;exact λz=>g1 (decide_eq_true (congrArg V.str z))
    ·exact ak j y ap hy
  ·rintro q ⟨⟨o2,o3,rfl⟩,ak⟩
   rw[Na λj y hy=>ak j y (by have:=(iY.mp hy).1;simp;omega) hy]at hq
   exact hq
theorem IK(T:Txt K mg a):bj P w K mg base CX0 2 a.pS a.C9 [Zl,Zv] (spQ K Ms):=by
 have aN:=iS (@fH P w K mg base a T);refine T.Dy.F.okQ b9 (λ_ _ _ _ _ _ hr=>?_)
 ·have hu:=bD hr;refine(_,_,((ag (aA 2 b9.nd aH)
 (ag (aA 3 b9.nd (Mc (Zi aH) (Zi (cp U (nC U T.gw (ae (Zi (aL aN hr T.aU (ae (qv 0) (ae ah ax)))) ax)) (N':=["_law_k","_law_letters",Zl]) (.own U (.got (i:=2) U U (.inl U) (.got (i:=0) U U (.inl U) .nil))) (cm (g:=(Tg.nm 0)) (λ_ _ _ _ _=>((c9 0),(Zj (av (qv 1) (Zi (aL aN hr T.aU (ae (qv 2) (ae ah ax)))))))))))))
 (ag (aA 4 b9.nd (aL aN hr T.aU (ae (qv 0) (ae (Zi (a8 (Zi (bW T.cS (ae (qv 3) ax))) ah)) ax))))
 (ag (aA 5 b9.nd (aL aN hr T.aU (ae (qv 0) (ae ah ax))))
 (ag (aA 6 b9.nd (aP ai))
 (ag (bE (g:=(Tg.nm 7)) PassesOwn.never U (gS U T.gw (ae (qv 1) ax)) (bp 7 b9.nd)
 (ag (aA 8 b9.nd (Zj (av (qv 2) (Zi (HA (Zi (a8 (qv 5) (Zi (eJ ah (qv 7))))) ah)))))
 (ag (aA 9 b9.nd (a8 (Zi (a8 (Zi (a8 (Zi (a8 (Zi (fS (qv 3) iG (iF (qv 4)))) (qv 8))) (Zi (fS (qv 3) (iF (qv 4)) iG)))) (Zi (eJ (Zi aH) (Zi (HA (qv 7) ah)))))) (Zi (eJ (Zi aH) (Zi (Cn (qv 7) ah))))))
 (ag (aX (bV (wB U) qF U (qv 9) (Zi (aq (lN ba))))
 (aj (aA 9 b9.nd (a8 (qv 9) (Zi aH))))
 aC)
 (ag (aX (bV (wB U) qF U (qv 9) (Zi (aq (lN ba))))
 (aj (aA 9 b9.nd (a8 (qv 9) (Zi aH))))
 aC)
 (aj (bx (i:=6) (pv 6) (Zj (qv 9)))))))))
 (ag (aA 10 b9.nd (aP (lN ba)))
 (ag (aA 10 b9.nd (a8 (qv 10) (Zi (aP (lN ba)))))
 (ag (aA 9 b9.nd (Zj (av (qv 10) (Zi (aL aN hr T.aU (ae (qv 0) (ae ah ax)))))))
 (ag (aX (QPW.pt (qP (bB hu (Zi (aL aN hr T.aU (ae (qv 0) (ae ah ax)))) ah) (pI (bV (Ew U) qF U (qv 9) (qv 6)))))
 (aj (Cj (i:=6) (pv 6) (Zi (aL aN hr T.aU (ae (qv 0) (ae (qv 1) ax)))) (qv 9)))
 aC)
 (aj (fF (i:=6) (pv 6)))))))))))))),λts Q h=>?_)
  let(m,U,m0,m1,hq):=h;refine(by decide,by decide,λn n0 n1=>(by lia,by lia,aF (by rw[eR];lia),λi ys=>∃cs:List Nat,ys=cs.map (λc=>.s ⟨#[c]⟩)/\cs.length=i,([],U,U),?_,?_))
  ·rintro i x ys hx ⟨cs,rfl,hc⟩
   let(U,hi):=kI hx;refine(_,U,by decide,by decide,λr r0 r1=>(by decide +kernel,_,CL r0 r1,U,?_))
   exact(cs++[rJ r.toNat],by simp,by simp[hc])
  ·rintro ys ⟨cs,rfl,hc⟩
   rw[eR]at hc;have e2:((cs.map (λc=>(⟨#[c]⟩:Str))).map (·.length)).sum=cs.length:=by
    clear hc
    induction cs with
    |nil=>rfl
    |cons c cs ih=>simp only[x2,XN,ri,ih,show(⟨#[c]⟩:Str).length=1 from rfl];lia
   refine(cs.map (λc=>(⟨#[c]⟩:Str)),?_,?_,?_)
   ·rw[<- Ln,u4];rfl
   ·rw[e2,show(Str.ofString "").length=0 from by decide +kernel];lia
   have z:=PySem.size_glued (Str.ofString "") (cs.map (λc=>(⟨#[c]⟩:Str)))
   rw[e2,show(Str.ofString "").length=0 from by decide +kernel]at z
   have lz:(Txt.join (Str.ofString "") (cs.map (λc=>(⟨#[c]⟩:Str)))).length<=5:=by
    show(Builtin.Str.glued _ _).length<=5
    lia
   generalize Txt.join (Str.ofString "") (cs.map (λc=>(⟨#[c]⟩:Str)))=core at lz ⊢
   refine(bA (by lia),by lia,by lia,λat_ a0 a1=>(by decide,by decide,λtn t0 t1=>?_))
   have ay:(Txt.slice core Y (Z at_)).length<=5:=ui (Txt.slice_le _ _ _) lz;have ar:(Txt.slice core (Z at_) Y).length<=5:=ui (Txt.slice_le _ _ _) lz;have lx:(Str.ofString "x").length=1:=by decide +kernel
   have ly:(Str.ofString "y").length=1:=by decide +kernel
   have lq:(Str.ofString "q").length=1:=by decide +kernel
   refine(by lia,by lia,λi q=>(∃o7 o8 o9 L,q=[.r .dv,.r (.i m),.o (.s wK),.o (.s core),.o (.i at_),.o (.i tn),.o (.l L),o7,o8,o9,.no]/\L=((N6 i).map (wordOf kept (Txt.slice core Y (Z at_)) (Txt.slice core (Z at_) Y) tn.toNat)).map .s),(_,_,_,_,U,U),?_,?_)
   ·rintro i x q hx ⟨o7,o8,o9,L,rfl,rfl⟩
    let(U,hi):=kI hx;have hi:i<52:=by lia
    have e1:∀c:Nat,(⟨#[c]⟩:Str).length=1:=λ_=>rfl
    have eL:rJ (((tn+7*(0+(i:Int))) % 26).toNat)=rJ (tn.toNat+7*i):=by
     have ht:tn+7*(0+(i:Int))=((tn.toNat+7*i:Nat):Int):=by rw[XI,Int.natCast_add,YA,W3 t0];rfl
     rw[ht];show 97+(tn.toNat+7*i) % 26 % 26=97+(tn.toNat+7*i) % 26;rw[Nat.mod_mod]
    have r1:=g7 "x" ((0+(i:Int)) % 2).toNat;have r2:=g7 "y" ((0+(i:Int)) / 26).toNat
    replace r1:(jk "x" ((0+(i:Int)) % 2).toNat).length<=1:=by rw[r1,lx,XI];exact(show i % 2*1<=1 from by rw[Nat.mul_one];exact XZ (YU i ac))
    replace r2:(jk "y" ((0+(i:Int)) / 26).toNat).length<=1:=by rw[r2,ly,XI];exact(show i / 26*1<=1 from by rw[Nat.mul_one];exact XZ (Nat.div_lt_of_lt_mul hi))
    refine(_,U,.inl (by lia,by lia),(by show(0:Int)<26;decide),(by decide +kernel),_,CL (mod_lt ac).1 (mod_lt ac).2,U,?_)
    refine(bA (by lia),bA (by rw[e1];lia),bA (by lia),bA (by rw[Str.length_append,e1];lia),(by show(0:Int)<2;decide),by lia,by lia,by lia,bA (by rw[Str.length_append,Str.length_append,e1];lia),(by decide,by decide),by lia,by lia,by lia,bA (by rw[Str.length_append,Str.length_append,Str.length_append,e1];lia),?_)
    have eW:Txt.slice core Y (Z at_)++⟨#[rJ (((tn+7*(0+(i:Int))) % 26).toNat)]⟩++Txt.slice core (Z at_) Y++jk "x" ((0+(i:Int)) % 2).toNat++jk "y" ((0+(i:Int)) / 26).toNat=dj (Txt.slice core Y (Z at_)) (Txt.slice core (Z at_) Y) tn.toNat i:=by
     unfold dj;rw[eL,show((0+(i:Int)) % 2).toNat=i % 2 from by rw[XI];rfl,show((0+(i:Int)) / 26).toNat=i / 26 from by rw[XI];rfl]
    have lW:=vq (Txt.slice core Y (Z at_)) (Txt.slice core (Z at_) Y) tn.toNat i;rw[eW];have snoc:∀z:Str,z=wordOf kept (Txt.slice core Y (Z at_)) (Txt.slice core (Z at_) Y) tn.toNat i ->
      ((N6 i).map (wordOf kept (Txt.slice core Y (Z at_)) (Txt.slice core (Z at_) Y) tn.toNat)).map L2.T.s++[L2.T.s z]=((N6 (i+1)).map (wordOf kept (Txt.slice core Y (Z at_)) (Txt.slice core (Z at_) Y) tn.toNat)).map L2.T.s:=λz hz=>by
     subst hz;rw[YB];simp
    have ln:(((N6 i).map (wordOf kept (Txt.slice core Y (Z at_)) (Txt.slice core (Z at_) Y) tn.toNat)).map L2.T.s).length<pY:=aF (by simp;lia)
    refine(by rfl,aI (λg1=>?_) (λg1=>?_))
    ·have g1:inV (.str (dj (Txt.slice core Y (Z at_)) (Txt.slice core (Z at_) Y) tn.toNat i)) (yJ.map V.str)=true:=by rw[<- dX];exact g1
     refine(bA (by rw[lq];lia),by rfl,aI (λg2=>?_) (λ_=>?_))
     ·have g2:inT (.s (dj (Txt.slice core Y (Z at_)) (Txt.slice core (Z at_) Y) tn.toNat i++("q":Str))) (kq.map L2.T.s)=true:=g2;rw[dX,Ri]at g2;cases g2
     exact(ln,U,_,_,_,_,U,snoc (dj (Txt.slice core Y (Z at_)) (Txt.slice core (Z at_) Y) tn.toNat i++("q":Str)) (by unfold wordOf;rw[kU,g1,Yy,if_pos rfl]))
    ·have g1:inV (.str (dj (Txt.slice core Y (Z at_)) (Txt.slice core (Z at_) Y) tn.toNat i)) (yJ.map V.str)=false:=by
      cases e:inV (.str (dj (Txt.slice core Y (Z at_)) (Txt.slice core (Z at_) Y) tn.toNat i)) (yJ.map V.str)with
      |false=>rfl
      |true=>rw[<- dX]at e;exact absurd e g1
     refine(by rfl,aI (λg2=>?_) (λg2=>?_))
     ·have g2:inV (.str (dj (Txt.slice core Y (Z at_)) (Txt.slice core (Z at_) Y) tn.toNat i)) (kq.map V.str)=true:=by rw[<- dX];exact g2
      exact(bA (by rw[lq];lia),ln,U,_,_,_,_,U,snoc (dj (Txt.slice core Y (Z at_)) (Txt.slice core (Z at_) Y) tn.toNat i++("q":Str)) (by unfold wordOf;rw[kU,g1,g2,YR,if_pos rfl]))
     ·have g2:inV (.str (dj (Txt.slice core Y (Z at_)) (Txt.slice core (Z at_) Y) tn.toNat i)) (kq.map V.str)=false:=by
       cases e:inV (.str (dj (Txt.slice core Y (Z at_)) (Txt.slice core (Z at_) Y) tn.toNat i)) (kq.map V.str)with
       |false=>rfl
       |true=>rw[<- dX]at e;exact absurd e g2
      exact(ln,U,_,_,_,_,U,snoc (dj (Txt.slice core Y (Z at_)) (Txt.slice core (Z at_) Y) tn.toNat i) (by unfold wordOf;rw[kU,g1,g2,YR,if_neg ac,Str.append_empty]))
   ·rintro q ⟨o7,o8,o9,L,rfl,rfl⟩
    rw[eR];have nd:((N6 m.toNat).map (wordOf kept (Txt.slice core Y (Z at_)) (Txt.slice core (Z at_) Y) tn.toNat)).Nodup:=nodup_range λi j hi hj aR=>DQ (by lia) (by lia) aR
    have wl:∀w∈(N6 m.toNat).map (wordOf kept (Txt.slice core Y (Z at_)) (Txt.slice core (Z at_) Y) tn.toNat),1<=w.length/\w.length<=20:=λw hw=>by
     let(i,hi,U):=n8.mp hw;exact zU ay ar (by have:=Xq.mp hi;lia)
    have ll:((N6 m.toNat).map (wordOf kept (Txt.slice core Y (Z at_)) (Txt.slice core (Z at_) Y) tn.toNat)).length=m.toNat:=by simp
    generalize(N6 m.toNat).map (wordOf kept (Txt.slice core Y (Z at_)) (Txt.slice core (Z at_) Y) tn.toNat)=ws at nd wl ll
    refine(bA ac,by rfl,by rfl,by decide,by decide,λr r0 r1=>?_)
    let(wd,ew,hm):=NX (ws:=near) r0 r1;refine(_,ew,U,by decide,by decide,λr3 _ _=>(U,?_))
    have done:Q (.l (ws.map .s)):=hq ws (by lia) nd wl
    refine aI (λ_=>?_) (λ_=>V7 done)
    refine(by rw[rY];rfl,aI (λh2=>?_) (λ_=>done))
    have aM:wd ∉ ws:=Nv (by rw[<- dX];simpa using h2)
    refine(m0,by lia,λr4 ak aW=>(r4.toNat,?_,a9 ws,U,?_))
    ·unfold ixN;rw[if_pos ak,if_pos (by rw[dN];lia)]
    ·have z:=hq (ws.set r4.toNat wd) (by rw[SO];lia) (EF nd aM) λw hw=>by
      obtain z|z:=XM hw
      ·exact wl w z
      ·rw[z];exact IT wd hm
     rw[List.map_set]at z;exact z
theorem IM(T:Txt K mg a):bj P w K mg base CX0 2 a.pV a.De [Zl,Zw] (spQ K Mx):=by
 have aN:=iS (@fH P w K mg base a T);refine T.Dz.F.okQ cu (λ_ _ _ _ _ _ hr=>?_)
 ·have hu:=bD hr;refine(_,_,((ag (aA 2 cu.nd (aL aN hr T.aU (ae (qv 0) (ae ah ax))))
 (ag (Qd (i:=3) (j:=4) U cu.nd U U ac U U (av (qv 1) ah) (av (qv 1) ah) U)
 (ag (aA 5 cu.nd (a8 (Zi (fS (qv 1) (iF ah) iG)) (Zi (fS (qv 1) iG (iF ah)))))
 (ag (aX (bB hu (qv 2) ah)
 (aj (aD (aq (af (aq (af (Zj (qv 3)) (af (aq (af (aq (af (Zj (av (qv 5) ah)) (af (aq ai) ai))) (af (aq (af (Zj (av (qv 5) ah)) (af (aq (af (Zj (qv 3)) ai)) ai))) ai))) ai))) ai))))
 aC)
 (ag (aX (bB hu (qv 2) ah)
 (aj (aD (aq (af (aq (af (Zj (qv 3)) (af (aq (af (aq (af (Zj (av (qv 5) ah)) (af (aq ai) ai))) (af (aq (af (Zj (av (qv 5) ah)) (af (aq (af (Zj (qv 3)) ai)) ai))) (af (aq (af (Zj (av (qv 5) ah)) (af (aq (af (Zj (qv 3)) ai)) ai))) ai)))) ai))) ai))))
 aC)
 (ag (aX (bB hu (qv 2) ah)
 (aj (aD (aq (af (aq (af (Zj (qv 3)) (af (aq (af (aq (af (Zj (av (qv 5) ah)) (af (aq ai) ai))) (af (aq (af (Zj (av (qv 5) ah)) (af (aq ai) ai))) ai))) ai))) (af (aq (af (Zj (qv 4)) (af (aq (af (aq (af (Zj (av (qv 5) ah)) (af (aq ai) ai))) (af (aq (af (Zj (av (qv 5) ah)) (af (aq (af (Zj (qv 3)) (af (Zj (qv 4)) ai))) ai))) ai))) ai))) ai)))))
 aC)
 (ag (aX (bB hu (qv 2) ah)
 (aj (aD (aq (af (aq (af (Zj (qv 3)) (af (aq (af (aq (af (Zj (av (qv 5) ah)) (af (aq ai) ai))) (af (aq (af (Zj (av (qv 5) ah)) (af (aq (af (Zj (qv 3)) (af (Zj (qv 3)) ai))) ai))) ai))) ai))) ai))))
 aC)
 (ag (aX (bB hu (qv 2) ah)
 (aj (aD (aq (af (aq (af (Zj (qv 3)) (af (aq (af (aq (af (Zj (av (qv 5) ah)) (af (aq ai) ai))) (af (aq (af (Zj (av (qv 5) ah)) (af (aq (af (Zj (qv 4)) ai)) ai))) ai))) ai))) (af (aq (af (Zj (qv 4)) (af (aq (af (aq (af (Zj (av (qv 5) ah)) (af (aq (af (Zj (qv 3)) ai)) ai))) ai)) ai))) ai)))))
 aC)
 (ag (aA 6 cu.nd (aP ai))
 (ag (aA 7 cu.nd (a8 ah (Zi (aL aN hr T.aU (ae (qv 0) (ae ah ax))))))
 (ag (aA 8 cu.nd bw)
 (ag (bE (g:=(Tg.nm 9)) PassesOwn.never U (gS U T.gw (ae (qv 7) ax)) (bp 9 cu.nd)
 (ag (aA 10 cu.nd (aP ai))
 (ag (bE (g:=(Tg.nm 11)) PassesOwn.never U (gS U T.gw (ae (Zi (a8 ah (Zi (aL aN hr T.aU (ae (qv 0) (ae (Zi (iH (aP (af bw (af bw ai))) (Zi (aV vj Cc ba T.Kf (by kernel_rfl) (ae (Zi (wg (AU hu U) vS (bN _) (qv 7) ah)) ax))))) ax)))))) ax)) (bp 11 cu.nd)
 (ag (aA 12 cu.nd (eJ (Zi (aL aN hr T.aU (ae (qv 0) (ae (Zi (iH (aP (af bw (af bw (af bw ai)))) (Zi (aL aN hr T.aU (ae (qv 0) (ae ah ax)))))) ax)))) (Zi (aV vj Cc ba T.Kf (by kernel_rfl) (ae (Zi (wg CC (vT (g':=λi j=>.b (decide (j<i))) λ_ _ _ _=>.b _) (bN _) (Zi (a8 (qv 9) (qv 11))) ah)) ax)))))
 (ag (gi (i:=13) cu.nd U (Or.inl U) U (nC U T.gw (ae (qv 12) ax)) (N':=["_law_i",Zw,Zl,Zv]) (.own U (.got (i:=1) U U (.inl U) (.got (i:=0) U U (.inl U) (.got (i:=7) U U (.inl U) .nil)))) (cm (g:=(Tg.nm 0)) (λ_ _ _ _ _=>((c9 0),(Zj (av (qv 1) (Zi (aL aN hr T.aU (ae (qv 2) (ae (qv 3) ax))))))))))
 (ag (bx (i:=10) (pv 10) (aq (af (Zj (av (qv 5) (qv 8))) (af (aV (cy U) cq ba T.d7 (by kernel_rfl) (ae (qv 13) ax)) ai))))
 (aj (aA 8 cu.nd (a8 (qv 8) ah)))))))
 (aj (bx (i:=6) (pv 6) (aq (af (Zj (av (qv 1) (qv 9))) (af (aV (cy U) cq ba T.d7 (by kernel_rfl) (ae (qv 10) ax)) ai))))))))
 (aj (aD (aV (cy U) cq ba T.d7 (by kernel_rfl) (ae (qv 6) ax))))))))))))))))),λts Q h=>?_)
  let(ws,U,hl,a0,hq):=h;obtain⟨x0,V,wr,rfl⟩:∃x0 V wr,ws=x0::V::wr:=by
   cases ws with
   |nil=>cases hl
   |cons x0 r=>cases r with
    |nil=>cases hl
    |cons V wr=>exact(x0,V,wr,U)
  have bI:atI ((x0::V::wr).map L2.T.s) 0=Z (.s x0):=fW (j:=0) U;have bz:atI ((x0::V::wr).map L2.T.s) 1=Z (.s V):=fW (j:=1) U;refine(by decide,by decide,λfm f0 f1=>(_,bI,U,_,bz,U,a9 _,a9 _,?_))
  have hM:((x0::V::wr).drop 4++(x0::V::wr).take 4).Nodup:=Ee a0;have lM:((x0::V::wr).drop 4++(x0::V::wr).take 4).length=40:=by rw[jR,WT,sR];lia
  refine(bA (by have:=congrArg N9 (Vd hl);rw[jR,dN]at this;lia),CQ _ _ _,CQ _ _ _,?_)
  rw[Vd hl];have aW:∀x∈(x0::V::wr).drop 4++(x0::V::wr).take 4,x∈x0::V::wr:=λx hx=>(n6.mp hx).elim X9 QL
  generalize(x0::V::wr).drop 4++(x0::V::wr).take 4=M at hM lM aW
  obtain⟨m0,m1,m2,m3,mr,rfl⟩:∃m0 m1 m2 m3 mr,M=m0::m1::m2::m3::mr:=by
   match M,lM with
   |m0::m1::m2::m3::mr,_=>exact(m0,m1,m2,m3,mr,U)
  have t0:atI ((m0::m1::m2::m3::mr).map L2.T.s) 0=Z (.s m0):=fW (j:=0) U;have t1:atI ((m0::m1::m2::m3::mr).map L2.T.s) 1=Z (.s m1):=fW (j:=1) U;have t2:atI ((m0::m1::m2::m3::mr).map L2.T.s) 2=Z (.s m2):=fW (j:=2) U;have t3:atI ((m0::m1::m2::m3::mr).map L2.T.s) 3=Z (.s m3):=fW (j:=3) U;have bt:3 <=(x0::V::wr).length:=by lia
  have aM:∀(ks:List Kd)(n made:Nat),sO (x0::V::wr) (m0::m1::m2::m3::mr) n ks n made->1<=n->n<=3->Q (tKs ks):=λks n made D n1 n3=>hq ks (D.good a0 hM n1 n3 bt) λx hx=>aW x (QL (D.mn▸hx))
  have a1:x0∈(x0::V::wr).take 1:=lj;have a2:x0∈(x0::V::wr).take 2:=lj;have b2:V∈(x0::V::wr).take 2:=jQ _ lj;refine(U,aI (λ_=>?_) (λ_=>?_))
  ·refine(U,_,t0,U,_,t1,U,U,?_);exact aM [(x0,[(m0,[]),(m1,[x0])])] 1 2 (U,U,by decide,all1 (Xf _ _,leK 2 6),all1 (all2 (leK 0 4,BL) (leK 1 4,all1 a1))) ac ac
  refine(U,aI (λ_=>?_) (λ_=>?_))
  ·refine(U,_,t0,U,_,t1,U,U,_,t2,U,U,?_);exact aM [(x0,[(m0,[]),(m1,[x0]),(m2,[x0])])] 1 3 (U,U,by decide,all1 (Xf _ _,leK 3 6),all1 (Wx (leK 0 4,BL) (leK 1 4,all1 a1) (leK 1 4,all1 a1))) ac ac
  refine(U,aI (λ_=>?_) (λ_=>?_))
  ·refine(U,_,t0,U,_,t1,U,U,_,t2,U,_,t3,U,U,U,?_);exact aM [(x0,[(m0,[]),(m1,[])]),(V,[(m2,[]),(m3,[x0,V])])] 2 4 (U,U,by decide,all2 (Xf _ _,leK 2 6) (Xf _ _,leK 2 6),all2 (all2 (leK 0 4,BL) (leK 0 4,BL)) (all2 (leK 0 4,BL) (leK 2 4,all2 a2 b2))) ac ac
  refine(U,aI (λ_=>?_) (λ_=>?_))
  ·refine(U,_,t0,U,_,t1,U,U,U,?_);exact aM [(x0,[(m0,[]),(m1,[x0,x0])])] 1 2 (U,U,by decide,all1 (Xf _ _,leK 2 6),all1 (all2 (leK 0 4,BL) (leK 2 4,all2 a1 a1))) ac ac
  refine(U,aI (λ_=>?_) (λ_=>?_))
  ·refine(U,_,t0,U,_,t1,U,U,U,_,t2,U,U,?_);exact aM [(x0,[(m0,[]),(m1,[V])]),(V,[(m2,[x0])])] 2 3 (U,U,by decide,all2 (Xf _ _,leK 2 6) (Xf _ _,leK 1 6),all2 (all2 (leK 0 4,BL) (leK 1 4,all1 b2)) (all1 (leK 1 4,all1 a2))) ac ac
  clear t0 t1 t2 t3 bI bz aM a1 a2 b2 bt
  generalize c5:m0::m1::m2::m3::mr=M at hM lM aW ⊢
  generalize c4:x0::V::wr=ws at a0 hl aW hq ⊢
  refine(by decide,by decide,λr2 c1 c0=>?_)
  refine(by lia,by lia,λi q=>∃ks made L o9 a3 ay ar ak,q=[.r .dv,.r (.l (ws.map .s)),.o (.i fm),.o (.s x0),.o (.s V),.o (.l (M.map .s)),.o (.l L),.o (.i (1+r2)),.o (.i (made:Nat)),o9,a3,ay,ar,ak]/\L=ks.map tK/\sO ws M (1+r2).toNat ks i made,
   ([],0,_,_,_,_,_,_,U,U,(U,U,ot _,nofun,nofun)),?_,?_)
  ·rintro i x q hx ⟨ks,made,L,o9,a3,ay,ar,ak,rfl,rfl,D⟩
   let(U,hi):=kI hx;have cH:=D.b1;have c2:ks.length=i:=by
    have:=congrArg N9 D.nm
    rw[dN,sR,SM ap]at this
    exact this
   have br:i<ws.length:=by lia
   refine(_,U,U,_,Ui 3 6 _,?_,?_,λr5 cS ck=>?_)
   ·split <;> decide
   ·split <;> decide
   have cQ:r5<6:=by split at ck <;> lia
   refine(by lia,by lia,λj q=>∃ms fU L' ay ar ak,q=[.r .dv,.r (.l (ws.map .s)),.o (.i fm),.o (.s x0),.o (.s V),.o (.l (M.map .s)),.o (.l (ks.map tK)),.o (.i (1+r2)),.o (.i (fU:Nat)),.r (.i (0+(i:Nat))),.o (.l L'),ay,ar,ak]/\L'=ms.map tM/\ms.length=j/\fU=made+j/\M.take made++ms.map (·.1)=M.take fU/\(∀m∈ms,m.2.length<=4/\∀f∈m.2,f∈ws.take (1+r2).toNat),
    ([],made,_,_,_,_,U,U,U,U,by simp,nofun),?_,?_)
   ·rintro j x q hx ⟨ms,fU,L',ay,ar,ak,rfl,rfl,aR,bh,bb,bg⟩
    let(U,hj):=kI hx;refine(_,U,by decide,by decide,λr6 cj cg=>?_)
    let(v,ev,hv):=Ox (x:=3) (y:=3) (z:=5) cj cg;refine(_,ev,by lia,by lia,λr7 cL cK=>?_)
    refine(.inl (by lia,by lia),?_)
    have ct:∀b:Bool,0<=r7*(if b=O then 1 else 0)/\r7*(if b=O then 1 else 0)<=4:=λb=>by cases b <;> simp <;> lia
    let(w0,w4):=ct (decide (0<0+(i:Int)+(0+(j:Int))))
    generalize c3:r7*(if decide (0<0+(i:Int)+(0+(j:Int)))=O then 1 else 0)=wide at w0 w4 ⊢
    refine(by lia,by lia,aF (by rw[eR];lia),λp ys=>∃fs:List Str,ys=fs.map .s/\fs.length=p/\∀f∈fs,f∈ws.take (1+r2).toNat,([],U,U,nofun),?_,?_)
    ·rintro p x ys hx ⟨fs,rfl,lf,hf⟩
     let(U,hp):=kI hx;refine(_,U,by lia,by lia,λr8 b0 bK=>?_)
     have h8:r8.toNat<ws.length:=by lia
     have e8:atI (ws.map L2.T.s) r8=Z (.s ws[r8.toNat]):=by
      have:=fW (ws:=ws) (j:=r8.toNat) (w:=ws[r8.toNat]) (by simp[h8])
      rwa [W3 b0]at this
     refine(_,e8,U,fs++[ws[r8.toNat]],by simp,by simp[lf],λf cG=>?_)
     obtain h|h:=n6.mp cG
     ·exact hf f h
     ·rw[fy.mp h];exact List.mem_take_iff_getElem.mpr (r8.toNat,Nat.lt_min.mpr ((Int.toNat_lt_toNat ap).mpr bK,h8),U)
    ·rintro ys ⟨fs,rfl,lf,hf⟩
     rw[eR]at lf;have cz:i<=2:=XZ (sS hi (YZ.mpr (show 1+r2<=3 by omega)))
     have cx:j<=5:=XZ (sS hj (YZ.mpr (show 1+r5<=6 by omega)))
     have OZ:fU<M.length:=by rw[bh,lM];exact Xg (Nat.add_le_add (ui cH (Nat.mul_le_mul_left 6 cz)) cx) ac
     have em:atI (M.map L2.T.s) ((fU:Nat):Int)=Z (.s M[fU]):=fW (by simp[OZ])
     refine(aF (by rw[dN];lia),_,em,U,a9 _,?_)
     refine(ms++[(M[fU],fs)],fU+1,_,_,_,_,U,by simp[tM],by simp[aR],by lia,?_,λm hm=>?_)
     ·rw[pz,<- xx,bb];exact take_one (by simp[OZ])
     ·obtain h|h:=n6.mp hm
      ·exact bg m h
      ·rw[fy.mp h];exact(by show fs.length<=4;lia,hf)
   ·rintro q ⟨ms,fU,L',ay,ar,ak,rfl,rfl,aR,bh,bb,bg⟩
    rw[eR]at aR bh;have ei:atI (ws.map L2.T.s) (0+((i:Nat):Int))=Z (.s ws[i]):=by rw[XI];exact fW (by simp[br])
    refine(aF (by rw[dN];lia),_,ei,U,a5 CT _,?_)
    refine(ks++[(ws[i],ms)],fU,_,_,_,_,_,_,U,by simp[tK,tMs],D.next (by simp[br]) bb (λz=>?_) (by lia) (by lia) bg)
    rw[z]at aR;simp at aR
    lia
  ·rintro q ⟨ks,made,L,o9,a3,ay,ar,ak,rfl,rfl,D⟩
   rw[eR]at D;refine(a5 yL _,?_);exact hq ks (D.good a0 hM (by lia) (by lia) (by lia)) λx hx=>aW x (QL (D.mn▸hx))
theorem CG(T:Txt K mg a):bj P w K mg base CX0 2 a.xf a.JZ [Zl,Zn,ZD] (spQ K AH):=by
 refine T.tI.F.okQ pC (λ_ _ _ _ _ _ hr=>?_)
 ·have hu:=bD hr;refine(_,_,((ag (aA 3 pC.nd (aP ai))
 (ag (bE (g:=(Tg.nm 4)) PassesOwn.never U (Hu (i:=2) (pv 2)) (bp 4 pC.nd)
 (ag (gi (i:=5) pC.nd U (Or.inl U) U (jZ (qv 1)) (N':=[ZK,ZH,Zz]) (.own U (.own U (.got (i:=4) U U (.inl U) .nil))) (AA (g:=(Tg.tp [0,1])) (λ_ _ _ _ _=>((dz (c9 0) (c9 1)),(bB hu (qv 1) (qv 2)),(Zj (qv 0))))))
 (ag (aX (bB hu (qv 5) (Zi (aP ai)))
 (aj (aD cD))
 aC)
 (aj (bx (i:=3) (pv 3) (Zj (av (qv 5) (Zi (cF (ie U) vR ba T.vt (by kernel_rfl) (ae (Zi (aL (iS (fH T)) hr T.aU (ae (qv 0) (ae (Zi (bW T.cS (ae (qv 5) ax))) ax)))) (ae (Zi (aL (iS (fH T)) hr T.aU (ae (qv 0) (ae (Zi (bW T.cS (ae (qv 5) ax))) ax)))) ax)))))))))))
 (aj (aD (aV (cy U) cq ba T.d7 (by kernel_rfl) (ae (qv 3) ax))))))),λts Q h=>?_)
  let(sc,fs,t,ht,U,aR,a0,hn,hq):=h;obtain rfl|rfl:=ht
  all_goals
   refine(λi q=>∃ns o4 o5 L,q=[.r .dv,.r (.l (sc.map tP)),.r _,.o (.l L),o4,o5]/\L=ns.map .s/\Fills sc ns (fs.take i),([],_,_,_,U,U,U,nofun),?_,?_)
   ·rintro i x q hx ⟨ns,o4,o5,L,rfl,rfl,hF⟩
    rw[gV]at hx;let(f,hf,U):=g5.mp hx;have aW:i<fs.length:=(iY.mp hf).1;refine(_,U,aF (by rw[dN];lia),λk ys=>∃os:List Str,ys=os.map .s/\os.length<=k/\∀n∈os,(n,f)∈sc,([],U,ot _,nofun),?_,?_)
    ·rintro k x ys hx ⟨os,rfl,lo,ho⟩
     rw[gV]at hx;let(p,hp,U):=g5.mp hx;refine(_,U,U,aI (λe=>(U,os++[p.1],by simp,by simp;lia,λn hn=>?_)) (λ_=>(os,U,by lia,ho)))
     obtain h|h:=n6.mp hn
     ·exact ho n h
     ·rw[fy.mp h];have e':(L2.T.s p.2).v=(L2.T.s f).v:=(e:)
      have e2:p.2=f:=V.str.inj e';rw[<- e2];exact mu hp
    ·rintro ys ⟨os,rfl,lo,ho⟩
     rw[dN]at lo;refine(by rw[rY];rfl,aI (λ_=>hn) (λay=>?_))
     have l0:0<os.length:=by
      cases os with
      |nil=>exact absurd U ay
      |cons _ _=>simp
     have ln:ns.length=i:=by rw[hF.1,sR];lia
     have ak:((os.map L2.T.s).length:Int)=os.length:=by rw[dN]
     refine(aF (by rw[dN];lia),by rw[ak];lia,by rw[ak];lia,λr r0 r1=>(by rw[ak];lia,by rw[ak];lia,λr' aN ar=>?_))
     rw[ak]at r1 ar;have hm:∃m:Int,(if r' > r then r' else r)=m/\0<=m/\m<os.length:=(_,U,by split <;> lia,by split <;> lia)
     let(m,em,m0,m1):=hm;have aM:m.toNat<os.length:=by lia
     refine(.s os[m.toNat],(by show atI (os.map L2.T.s) (if r' > r then r' else r)=_;rw[em];exact Sk m0 aM),U,ns++[os[m.toNat]],_,_,_,U,by simp,?_)
     rw[<- take_one hf];exact hF.snoc (ho _ (SR _))
   ·rintro q ⟨ns,o4,o5,L,rfl,rfl,hF⟩
    rw[dN,sP]at hF;exact(a9 _,hq ns hF)
theorem IP(T:Txt K mg a):bj P w K mg base CX0 3 a.pW a.Df [Zl,Zs,Zn,Zz,Zr] (spQ K pM):=by
 refine T.xB.F.okQ dy (λ_ _ _ _ _ _ hr=>?_)
 ·have hu:=bD hr;refine(_,_,((ag (wc (g:=(Tg.tp [5,6,7])) (i:=1) (pv 1) (lV (K:=K) (n:=3) U U (cb (bp 5 dy.nd) (cb (bp 6 dy.nd) (cb (bp 7 dy.nd) lU)))))
 (ag (aA 8 dy.nd (aL (CG T) hr T.tI (ae (qv 0) (ae (qv 2) (ae (Zi (aP (af (Zj (qv 3)) ai))) ax)))))
 (ag (aX (bV wz qE (bN _) (qv 8) (Zi cD))
 (aj (aD (aq (af aH (af (Zj (av (qv 8) ah)) ai)))))
 aC)
 (ag (aA 9 dy.nd (Zj (av (qv 7) (Zi (bW T.cS (ae (qv 2) ax))))))
 (ag (bE (g:=(Tg.tp [10,11])) PassesOwn.never U (jv (Zj (cO (Zi (aV (cE U) dG ba T.ft (by kernel_rfl) (ae (qv 5) ax))) (qv 3)))) (dz (bp 10 dy.nd) (bp 11 dy.nd))
 (ag (aA 12 dy.nd (aL (CG T) hr T.tI (ae (qv 0) (ae (qv 2) (ae (qv 11) ax)))))
 (aj (aX (bV wz qE (bN _) (qv 12) (Zi cD))
 (aj (aD (aq (af aH (af (Zj (qv 9)) (af (Zj (qv 10)) (af (Zj (qv 12)) (af (aq (af aH (af (Zj (qv 9)) ai))) ai))))))))
 aC))))
 (ag (aA 12 dy.nd (aV (cy U) cq ba T.d7 (by kernel_rfl) (ae (Zi (cp U (jZ (Zi (fS (qv 2) iG (iF (Zi (bW T.cS (ae (av (av (qv 6) (qv 4)) ah) ax))))))) (N':=[ZK,ZH]) (.own U (.own U .nil)) (cm (g:=(Tg.tp [0,1])) (λ_ _ _ _ _=>((dz (c9 0) (c9 1)),(Zj (qv 0))))))) ax)))
 (aj (aD (aq (af aH (af (Zj (qv 9)) (af (Zj (av (av (qv 6) (qv 4)) ah)) (af (Zj (qv 12)) (af (aq (af aH (af (Zj (qv 9)) ai))) ai))))))))))))))),λts Q hh=>?_)
  let(ks,hs,ws,sc,f,h,U,W,hf,S,hq):=hh;have Ny:h∈hs:=mu hf;let(a3,a0,aW,aN):=W.hp h Ny;have ef:atI (hs.map tH) (f:Int)=Z (tH h):=bu (by rw[gV,hf];rfl)
  have aM:sc.length<ws.length:=by have:=S.ln;have:=W.wl;omega
  have ex:atI (ws.map L2.T.s) ((sc.map tP).length:Int)=Z (.s ws[sc.length]):=by rw[dN];exact fW (gs aM)
  have fx:ws[sc.length] ∉ sc.map (·.1):=S.fresh W.wn (gs aM)
  generalize ws[sc.length]=x at ex fx
  refine(_,U,U,sc,[h.2.2],_,.inr U,U,by have:=S.ln;omega,by show 1<=1000;decide,?_,λns hF=>?_)
  ·let(kd,ay,ek):=OD aN;refine(_,ex,U,a5 yL ks,_,rh ks,_,uW W.gk.nd aN,rQ _,λi q=>∃ar ak V,q=[.r .dv,.r (tW ks hs ws),.r (.l (sc.map tP)),.r (.s h.2.2),.r (.i f),.r (tKs ks),.r (.l (hs.map tH)),.r (.l (ws.map .s)),.o .n,.o (.s x),ar,ak,V],(_,_,_,U),?_,?_)
   ·rintro i t q hx ⟨ar,ak,V,rfl⟩
    rw[gV]at hx;let(m,hm,U):=g5.mp hx;have aR:m∈kd.2:=by rw[<- yC W.gk.nd ay,ek];exact mu hm
    refine(_,U,sc,m.2,_,.inl U,U,by have:=S.ln;omega,by have:=(W.gk.fl kd ay m aR).1;omega,(_,_,_,U),λns hF=>?_)
    refine(U,U,a9 _,U,hq 2 _ ac (.make ay aR hF fx (.give ?_)) (mI so (ot _)))
    rw[ek];simp
   ·rintro q ⟨ar,ak,V,rfl⟩
    have ec:d9 (sc.map tP) Y (Z ((h.2.1.map tP).length:Int))=h.2.1.map tP:=by rw[dN,zc (by rw[dN];exact S.p1),<- X6,S.pf]
    refine(_,ef,_,U,a5 fA _,?_);rw[ec];refine(aF (by rw[dN];omega),λi ys=>ys=((h.2.1.take i).map (·.1)).map .s,U,?_,?_)
    ·rintro i t ys hx rfl
     rw[gV]at hx;let(p,hp,U):=g5.mp hx;refine(_,U,U,?_);show _++[L2.T.s p.1]=_;rw[ro,hp];simp
    ·rintro ys rfl
     rw[dN,sP];refine(a9 _,U,_,ef,_,U,U,a9 _,U,hq 2 _ ac (.call Ny ?_ fx (.give ad)) (mI so (ot _)))
     have z:=Fills.self (sc:=sc) (n:=h.2.1.length)
     rwa [S.pf]at z
  ·obtain⟨n,rfl⟩:∃n,ns=[n]:=by
    match ns,hF.1 with
    |[n],_=>exact(n,U)
   exact(_,U,U,hq 1 _ ac (.give (hF.2 (n,h.2.2) ad)) so)
theorem M6(T:Txt K mg a)(N:Nat)(iZ:bj P w K mg base CX0 (2*N+3) a.sf a.BD [Zl,Zs,Zn,Zr,Zt] (spQ K (kO N))):bj P w K mg base CX0 (2*N+4) a.xi a.J3 [Zl,Zs,Zn,Zr,Zt] (spQ K (QU N)):=by
 refine T.KN.F.okQ dB (λ_ _ _ _ _ _ hr=>?_)
 ·have hu:=bD hr;refine(_,_,((ag (wc (g:=(Tg.tp [5,6,7])) (i:=1) (pv 1) (lV (K:=K) (n:=3) U U (cb (bp 5 dB.nd) (cb (bp 6 dB.nd) (cb (bp 7 dB.nd) lU)))))
 (ag (qR (g:=(Tg.tp [8,9])) (av (qv 2) (Zi (cF (ie U) vR ba T.vt (by kernel_rfl) (ae (Zi (aL (iS (fH T)) hr T.aU (ae (qv 0) (ae (Zi (bW T.cS (ae (qv 2) ax))) ax)))) (ae (Zi (aL (iS (fH T)) hr T.aU (ae (qv 0) (ae (Zi (bW T.cS (ae (qv 2) ax))) ax)))) ax))))) (dz (bp 8 dB.nd) (bp 9 dB.nd)))
 (ag (aA 10 dB.nd (Zj (cO (Zi (aV (cE U) dG ba T.ft (by kernel_rfl) (ae (qv 5) ax))) (qv 9))))
 (ag (x8 (i:=4) (pv 4) (pv 4) (Zi (bW T.cS (ae (qv 10) ax))))
 (ag (aA 11 dB.nd (aP ai))
 (ag (bE (g:=(Tg.tp [12,13])) PassesOwn.never U (jv (Zj (qv 10))) (dz (bp 12 dB.nd) (bp 13 dB.nd))
 (ag (gi (i:=14) dB.nd U (Or.inl U) U (we U T.bz (by kernel_rfl) (ae (qv 13) ax)) (N':=["_law_k","_law_field",Zw,Zn]) (.own U (.own U (.got (i:=7) U U (.inl U) (.got (i:=2) U U (.inl U) .nil)))) (cm (g:=(Tg.tp [0,1])) (λ_ _ _ _ _=>((dz (c9 0) (c9 1)),(aq (af (Zj (av (qv 2) (Zi (a8 (Zi (bW T.cS (ae (qv 3) ax))) (qv 0))))) (af (Zj (qv 1)) ai)))))))
 (ag (aA 15 dB.nd (aV (cy U) cq ba T.d7 (by kernel_rfl) (ae (Zi (cp U (jZ (qv 14)) (N':=[ZK,"_law_field"]) (.own U (.own U .nil)) (cm (g:=(Tg.tp [0,1])) (λ_ _ _ _ _=>((dz (c9 0) (c9 1)),(Zj (qv 0))))))) ax)))
 (aj (bx (i:=11) (pv 11) (aq (af (Zj (qv 12)) (af (Zj (qv 15)) (af (aL iZ hr T.lB (ae (qv 0) (ae (qv 1) (ae (Zi (a8 (qv 2) (qv 14))) (ae (qv 3) (ae (qv 4) ax)))))) ai)))))))))
 (aj (aD (aq (af aH (af (Zj (qv 8)) (af (aV (cy U) cq ba T.d7 (by kernel_rfl) (ae (qv 11) ax)) ai))))))))))))),λts Q hh=>?_)
  let(ks,hs,ws,sc,f,h,u,U,W,hf,S,hl,br,bI,hq):=hh;have l0:0<sc.length:=W5.mpr br;have V:((sc.map tP).length:Int)=sc.length:=by rw[dN]
  refine(_,U,by rw[V];lia,by rw[V];lia,λr r0 r1=>(by rw[V];lia,by rw[V];lia,λr' a3 aR=>?_))
  rw[V]at r1 aR;let(m0,m1):=max_two r0 r1 a3 aR;let((x,k),hx,ex):=gJ (f:=tP) m0 m1;refine(tP (x,k),ex,U,_,U,?_);let(kd,ak,ek):=OD (S.kd _ hx);obtain rfl:kd.1=k:=ek;have em:=yC W.gk.nd ak;refine(a5 yL ks,_,rh ks,tMs kd.2,by rw[uW W.gk.nd (S.kd _ hx),em],rQ _,XT _,?_)
  let(ne1,bb):=W.gk.ne kd ak;have bh:1<=kd.2.length:=W5.mpr ne1;have bg:((kd.2.map tM).length:Int)=kd.2.length:=by rw[dN]
  have wl:=W.wl;have e1:(u-((kd.2.map tM).length:Int)).toNat=u.toNat-kd.2.length:=by rw[bg];lia
  generalize u-((kd.2.map tM).length:Int)=u' at e1 ⊢
  refine(rQ kd.2,λi q=>∃arms L aN aM ay ar,q=[.r .dv,.r (tW ks hs ws),.r (.l (sc.map tP)),.r (.i f),.r (.rm u'),.r (tKs ks),.r (.l (hs.map tH)),.r (.l (ws.map .s)),.r (.s x),.r (.s kd.1),.o (tMs kd.2),.o (.l L),aN,aM,ay,ar]/\L=arms.map tA/\uB ks hs h.2.2 sc (sz u'.toNat) (3*u'.toNat+2) arms (kd.2.take i),
   ([],_,_,_,_,_,U,U,(U,λi a m h1=>by simp at h1)),?_,?_)
  ·rintro i t q hx ⟨arms,L,aN,aM,ay,ar,rfl,rfl,hA⟩
   rw[gV]at hx;let(m,hm,U):=g5.mp hx;let(cj,bt):=W.gk.fl kd ak m (mu hm);have cg:i<kd.2.length:=(iY.mp hm).1;have lA:arms.length=i:=by rw[hA.ln,sR];lia
   let(ln,aW,S'):=S.more (ns:=(ws.drop sc.length).take m.2.length) W.wn U (by lia) (by lia) bt
   refine(_,U,aF (by rw[a4,dN];lia),λj ys=>ys=(((ws.drop sc.length).take j).zip (m.2.take j)).map tP,U,?_,?_)
   ·rintro j y ys hy rfl
    let(z,hz,U):=bX hy;rw[gV]at hz;let(g,hg,U):=g5.mp hz;have b0:j<m.2.length:=(iY.mp hg).1;have a0:sc.length+j<ws.length:=by lia
    have ew:atI (ws.map L2.T.s) (((sc.map tP).length:Int)+(j:Nat))=Z (.s ws[sc.length+j]):=by
     rw[dN];exact fW (j:=sc.length+j) (gs a0)
    refine(_,U,_,ew,U,U,?_);show _++[tP (ws[sc.length+j],g)]=_;rw[FJ (a:=ws[sc.length+j]) (by rw[List.getElem?_drop,gs a0]) hg,pz]
    rfl
   ·rintro ys rfl
    rw[show(ia (m.2.map L2.T.s)).length=m.2.length by rw[a4,dN],sP]
    generalize bK:(ws.drop sc.length).take m.2.length=ns at ln aW S' ⊢
    refine(aF (by rw[dN,Xi];lia),λj ys=>ys=(((ns.zip m.2).take j).map (·.1)).map .s,U,?_,?_)
    ·rintro j y ys hy rfl
     rw[gV]at hy;let(p,hp,U):=g5.mp hy;refine(_,U,U,?_);show _++[L2.T.s p.1]=_;rw[ro,hp];simp
    ·rintro ys rfl
     rw[show((ns.zip m.2).map tP).length=(ns.zip m.2).length by rw[dN],sP,BY ln]
     refine(a9 _,aF (by rw[dN];lia),U,a9 _,bA (by rw[dN,dN,Xi];lia),a5 fA _,a5 fA _,ks,hs,ws,sc++ns.zip m.2,f,h,_,by rw[pz],W,hf,S',by rw[jR,Xi];lia,by lia,λn b hn hb dd=>?_)
     refine(arms++[(m.1,ns,b,n)],_,_,_,_,_,U,by simp[tA],?_)
     rw[ro,hm];exact hA.snoc (U,ln,aW,hb,hn,dd)
  ·rintro q ⟨arms,L,aN,aM,ay,ar,rfl,rfl,hA⟩
   rw[dN,sP]at hA;let(hS,hle):=hA.snd hx ak;refine(U,hA.im,hq _ _ ?_ hS ((hA.dep (by lia)).mono (by lia)))
   rw[hA.ln,e1]at hle
   have:=Lr (n:=u.toNat) bh bb
   lia
def qMk(N:Nat):QS:=nF (HH (Tg.tp [17,18]) (qOp qIx (aT 5) (fb nI (aE (aT 0) (aE (qCB AE (aE (aT 5) cB)) cB)))))
 (nF (HH (Tg.tp [19,20]) (qOp qIx (aT 18) (fb nI (aE (aT 0) (aE (qCB AE (aE (aT 18) cB)) cB)))))
  (nF (oN 16 (fb AH (aE (aT 0) (aE (aT 2) (aE (aT 20) cB)))))
   (nF (Ei (lO (qOp (Eh ϊ) (aT 16) (qC .n))) (λD q=>fb pM (aE (aT 0) (aE (aT 1) (aE (aT 2) (aE (aT 8) (aE (aT 3) cB))))) q D.rt) uO)
    λD q=>kN (aE (qC (.s (Str.ofString "make"))) (aE (qIm (aT 10)) (aE (qIm (aT 19)) (aE (qIm (aT 16)) (aE (fb (kO N) (aE (aT 0) (aE (aT 1) (aE (qOp kh (aT 2) (HM (aE (kN (aE (qIm (aT 10)) (aE (qIm (aT 17)) cB))) cB))) (aE (aT 3) (aE (aT 4) cB)))))) cB))))) q D.rt)))
def qCl(N:Nat):QS:=nF (Ei (lO (qOp Ej (aT 9) (qC (.i 6))))
 (nF (oN 15 (fb nI (aE (aT 0) (aE (qCB AE (aE (aT 6) cB)) cB))))
  (nF (oN 16 (fb AH (aE (aT 0) (aE (aT 2) (aE (Co [Y] (asT (qOp qIx (qOp qIx (aT 6) (aT 15)) (qC (.i 1)))) (Tg.nm 0) HI (qIm (qOp qIx (aT 0) (qC (.i 1))))) cB)))))
   (Ei (lO (qOp (Eh O) (aT 16) (qC .n))) (λD q=>kN (aE (qC (.s (Str.ofString "call"))) (aE (qIm (aT 10)) (aE (qIm (qOp qIx (qOp qIx (aT 6) (aT 15)) (qC (.i 0)))) (aE (qIm (aT 16)) (aE (fb (kO N) (aE (aT 0) (aE (aT 1) (aE (qOp kh (aT 2) (HM (aE (kN (aE (qIm (aT 10)) (aE (qIm (qOp qIx (qOp qIx (aT 6) (aT 15)) (qC (.i 2)))) cB))) cB))) (aE (aT 3) (aE (aT 4) cB)))))) cB))))) q D.rt) uO))) uO) (qMk N)
def qNm(N:Nat):QS:=nF (HH (Tg.tp [13,14]) (qOp qIx (aT 2) (fb nI (aE (aT 0) (aE (qCB AE (aE (aT 2) cB)) cB)))))
 λD q=>kN (aE (qC (.s (Str.ofString "name"))) (aE (qIm (aT 10)) (aE (qIm (aT 13)) (aE (fb (kO N) (aE (aT 0) (aE (aT 1) (aE (qOp kh (aT 2) (HM (aE (kN (aE (qIm (aT 10)) (aE (qIm (aT 14)) cB))) cB))) (aE (aT 3) (aE (aT 4) cB)))))) cB)))) q D.rt
structure DA(N Zg D:Nat)(ks:List Kd)(hs:List Hd)(ws:List Str)(sc:Sc)(f:Nat)(h:Hd)(u:Int)(x:Str)(Q:L2.T->Prop):Prop where
 W:Wld ks hs ws
 kd:∀p∈sc,p.2∈ks.map (·.1)
 l16:sc.length<=16
 fx:x ∉ sc.map (·.1)
 hE:pM [.dv,tW ks hs ws,.l (sc.map tP),.s h.2.2,.i f] Q
 go:∀{k:Str},k∈ks.map (·.1)->∀{Q':L2.T->Prop},(∀n b,n<=Zg->Snd ks hs h.2.2 n (sc++[Prod.mk x k]) b->Dep D b->Q' b)->kO N [.dv,tW ks hs ws,.l (sc.map tP++[tP (x,k)]),.i f,.rm u] Q'
 hq:∀n b,n<=Zg+1->Snd ks hs h.2.2 n sc b->Dep (D+1) b->Q b
 d1:1<=D
theorem Cg{ks:List Kd}{f:Nat}{h:Hd}{u:Int}{Q:L2.T->Prop}(C:DA N Zg D ks hs ws sc f h u x Q)(a3 a0 aW aR aN aM ay ar ak V:Sl):
  qMk N {nx:=λ_=>Q .n,rt:=Q} [.r .dv,.r (tW ks hs ws),.r (.l (sc.map tP)),.r (.i f),.r (.rm u),.r (tKs ks),.r (.l (hs.map tH)),.r (.l (ws.map .s)),.o (.s h.2.2),.o (.i fm),.o (.s x),a3,a0,aW,aR,aN,aM,ay,ar,ak,V]:=by
 let(W,bg,h3,fx,hE,go,hq,d1):=C;have lk:((ks.map tK).length)=ks.length:=by rw[dN]
 have k1:=W.gk.k1;have k2:=W.gk.k2;refine(by lia,by lia,λr6 P z=>?_)
 rw[lk]at z;let(kd,g,ek):=gJ P z;let(ne1,bb):=W.gk.ne kd g;have lm:((kd.2.map tM).length)=kd.2.length:=by rw[dN]
 have l1:=W5.mpr ne1;refine(_,ek,yL kd,_,U,by lia,by lia,λr7 K q=>?_)
 rw[lm]at q;let(m,hm,em):=gJ K q;refine(_,em,CT m,_,U,sc,m.2,_,.inl U,U,by lia,by have:=(W.gk.fl kd g m hm).1;lia,hE,λns hF=>?_)
 refine(U,U,a9 _,U,U,bA (by rw[dN];show sc.length+1<=10000;lia),a5 fA _,U,?_)
 exact go (n8.mpr (kd,g,U)) λn b hn hb dd=>hq (n+1) _ (by lia) (.make g hm hF fx hb) (mI dd d1)
theorem LU{ks:List Kd}{f:Nat}{h:Hd}{u:Int}{Q:L2.T->Prop}{nx:Sq->Prop}(C:DA N Zg D ks hs ws sc f h u x Q)(a3:sc ≠ [])(aW aR aN aM ay ar ak V P K:Sl):
  qNm N {nx:=nx,rt:=Q} [.r .dv,.r (tW ks hs ws),.r (.l (sc.map tP)),.r (.i f),.r (.rm u),.r (tKs ks),.r (.l (hs.map tH)),.r (.l (ws.map .s)),.o (.s h.2.2),.o (.i fm),.o (.s x),aW,aR,aN,aM,ay,ar,ak,V,P,K]:=by
 let(W,a0,h3,fx,hE,go,hq,d1):=C;have g:((sc.map tP).length)=sc.length:=by rw[dN]
 have l0:=W5.mpr a3;refine(by rw[g];lia,by rw[g];lia,λr5 z q=>?_)
 rw[g]at q;let((y,k),hy,ey):=gJ z q;refine(_,ey,U,_,U,U,U,U,U,bA (by rw[dN];show sc.length+1<=10000;lia),a5 fA _,U,?_)
 exact go (a0 _ hy) λn b hn hb dd=>hq (n+1) _ (by lia) (.name hy fx hb) (JS dd)
theorem LX{ks:List Kd}{f:Nat}{h:Hd}{u:Int}{Q:L2.T->Prop}(C:DA N Zg D ks hs ws sc f h u x Q)(aR aN aM ay ar ak V P K z:Sl):
  qCl N {nx:=λ_=>Q .n,rt:=Q} [.r .dv,.r (tW ks hs ws),.r (.l (sc.map tP)),.r (.i f),.r (.rm u),.r (tKs ks),.r (.l (hs.map tH)),.r (.l (ws.map .s)),.o (.s h.2.2),.o (.i fm),.o (.s x),aR,aN,aM,ay,ar,ak,V,P,K,z]:=by
 let(W,aW,h3,fx,hE,go,hq,d1):=id C;refine(U,aI (λ_=>?_) (λ_=>Cg C _ _ _ _ _ _ _ _ _ _))
 have lh:((hs.map tH).length)=hs.length:=by rw[dN]
 have a3:=W.h1;have a0:=W.h8;refine(by lia,by lia,λg g0 g1=>?_)
 rw[lh]at g1;let(hd,q,eg):=gJ g0 g1;let(q1,q2,q3,q4):=W.hp hd q;refine(_,eg,_,U,aF (by rw[dN];lia),λi ys=>ys=((hd.2.1.take i).map (·.2)).map .s,U,?_,?_)
 ·rintro i t ys ht rfl
  rw[gV]at ht;let(p,hp,U):=g5.mp ht;refine(_,U,_,U,U,?_);rw[ro,hp];simp
 ·rintro ys rfl
  rw[show(hd.2.1.map tP).length=hd.2.1.length by rw[dN],sP]
  refine(sc,hd.2.1.map (·.2),_,.inr U,U,by lia,by rw[dN];lia,Cg C _ _ _ _ _ _ _ _ _ _,λns hF=>?_)
  refine(U,_,eg,_,U,U,a9 _,U,_,eg,_,U,U,bA (by rw[dN];show sc.length+1<=10000;lia),a5 fA _,U,?_)
  exact go q4 λn b hn hb dd=>hq (n+1) _ (by lia) (.call q hF fx hb) (mI dd d1)
theorem Uh{r:Int}(h0:0<=r)(h1:r<3):∃w:Str,atI [L2.T.s "pay",L2.T.s "pay",L2.T.s "get"] r=Z (.s w)/\(w="pay" \/ w="get"):=by
 obtain⟨n,rfl⟩:∃n:Nat,r=n:=(r.toNat,by lia)
 match n,h1 with
 | 0,_=>exact(_,U,.inl U)
 | 1,_=>exact(_,U,.inl U)
 | 2,_=>exact(_,U,.inr U)
 |n+3,h=>lia
theorem M7(T:Txt K mg a)(N:Nat):bj P w K mg base CX0 (2*N+3) a.sf a.BD [Zl,Zs,Zn,Zr,Zt] (spQ K (kO N)):=by
 induction N with
 |zero =>
  refine never λts Q hh=>?_
  let(ks,hs,ws,sc,f,h,u,U,W,hf,S,hl,a0,hq):=hh
  omega
 |succ N iZ =>
  have SS:=M6 T N iZ;have V:=iS (@fH P w K mg base a T);refine T.lB.F.okQ bY (λ_ _ _ _ _ _ hr=>?_)
  ·have hu:=bD hr;refine(_,_,((ag (wc (g:=(Tg.tp [5,6,7])) (i:=1) (pv 1) (lV (K:=K) (n:=3) U U (cb (bp 5 bY.nd) (cb (bp 6 bY.nd) (cb (bp 7 bY.nd) lU)))))
 (ag (aA 8 bY.nd (Zj (av (av (qv 6) (qv 3)) ah)))
 (ag (aA 9 bY.nd (aL V hr T.aU (ae (qv 0) (ae ah ax))))
 (ag (aX (QPW.pt (x5 (qQ (L9 (qv 4) ah) ah) (x5 (bB hu (qv 9) ah) (Aw (Hq (Zi (bW T.cS (ae (qv 2) ax))) ah)))))
 (aj (aD (aL (IP T) hr T.xB (ae (qv 0) (ae (qv 1) (ae (qv 2) (ae (qv 8) (ae (qv 3) ax))))))))
 aC)
 (ag (x8 (i:=4) (pv 4) (pv 4) ah)
 (ag (aA 10 bY.nd (Zj (av (qv 7) (Zi (bW T.cS (ae (qv 2) ax))))))
 (ag (aX (qQ (qv 9) ah)
 (ag (aA 11 bY.nd (a8 ah (Zi (aL V hr T.aU (ae (qv 0) (ae (Zi (iH (aP (af bw (af bw (af bw ai)))) (Zi (aL V hr T.aU (ae (qv 0) (ae ah ax)))))) ax))))))
 (ag (aA 12 bY.nd (iH (aP (lN ba)) (Zi (aL V hr T.aU (ae (qv 0) (ae ah ax))))))
 (aj (aD (aq (af (Zj (qv 12)) (af (Zj (qv 11)) (af (aL iZ hr T.lB (ae (qv 0) (ae (qv 1) (ae (qv 2) (ae (qv 3) (ae (qv 4) ax)))))) ai))))))))
 aC)
 (ag (aX (QPW.pt (qP (qQ (qv 9) ah) (pI (bV (yp hu U) uI (bN _) (qv 2) (Zi (aP ai))))))
 (aj (aD (aL SS hr T.KN (ae (qv 0) (ae (qv 1) (ae (qv 2) (ae (qv 3) (ae (qv 4) ax))))))))
 aC)
 (ag (aX (QPW.pt (qP (bB hu (qv 9) ah) (pI (bV (yp hu U) uI (bN _) (qv 2) (Zi (aP ai))))))
 (ag (qR (g:=(Tg.tp [13,14])) (av (qv 2) (Zi (aL V hr T.aU (ae (qv 0) (ae (Zi (bW T.cS (ae (qv 2) ax))) ax))))) (dz (bp 13 bY.nd) (bp 14 bY.nd)))
 (aj (aD (aq (af aH (af (Zj (qv 10)) (af (Zj (qv 13)) (af (aL iZ hr T.lB (ae (qv 0) (ae (qv 1) (ae (Zi (a8 (qv 2) (Zi (aP (af (aq (af (Zj (qv 10)) (af (Zj (qv 14)) ai))) ai))))) (ae (qv 3) (ae (qv 4) ax)))))) ai))))))))
 aC)
 (ag (aX (bB hu (qv 9) ah)
 (ag (aA 15 bY.nd (aL V hr T.aU (ae (qv 0) (ae (Zi (bW T.cS (ae (qv 6) ax))) ax))))
 (ag (aA 16 bY.nd (aL (CG T) hr T.tI (ae (qv 0) (ae (qv 2) (ae (Zi (cp U (kL (av (av (qv 6) (qv 15)) ah)) (N':=["_law_param"]) (.own U .nil) (cm (g:=(Tg.nm 0)) (λ_ _ _ _ _=>((c9 0),(Zj (av (qv 0) ah))))))) ax)))))
 (aj (aX (bV wz qE (bN _) (qv 16) (Zi cD))
 (aj (aD (aq (af aH (af (Zj (qv 10)) (af (Zj (av (av (qv 6) (qv 15)) ah)) (af (Zj (qv 16)) (af (aL iZ hr T.lB (ae (qv 0) (ae (qv 1) (ae (Zi (a8 (qv 2) (Zi (aP (af (aq (af (Zj (qv 10)) (af (Zj (av (av (qv 6) (qv 15)) ah)) ai))) ai))))) (ae (qv 3) (ae (qv 4) ax)))))) ai))))))))
 aC))))
 aC)
 (ag (qR (g:=(Tg.tp [17,18])) (av (qv 5) (Zi (aL V hr T.aU (ae (qv 0) (ae (Zi (bW T.cS (ae (qv 5) ax))) ax))))) (dz (bp 17 bY.nd) (bp 18 bY.nd)))
 (ag (qR (g:=(Tg.tp [19,20])) (av (qv 18) (Zi (aL V hr T.aU (ae (qv 0) (ae (Zi (bW T.cS (ae (qv 18) ax))) ax))))) (dz (bp 19 bY.nd) (bp 20 bY.nd)))
 (ag (aA 16 bY.nd (aL (CG T) hr T.tI (ae (qv 0) (ae (qv 2) (ae (qv 20) ax)))))
 (ag (aX (bV nJ jW (bN _) (qv 16) (Zi cD))
 (aj (aD (aL (IP T) hr T.xB (ae (qv 0) (ae (qv 1) (ae (qv 2) (ae (qv 8) (ae (qv 3) ax))))))))
 aC)
 (aj (aD (aq (af aH (af (Zj (qv 10)) (af (Zj (qv 19)) (af (Zj (qv 16)) (af (aL iZ hr T.lB (ae (qv 0) (ae (qv 1) (ae (Zi (a8 (qv 2) (Zi (aP (af (aq (af (Zj (qv 10)) (af (Zj (qv 17)) ai))) ai))))) (ae (qv 3) (ae (qv 4) ax)))))) ai))))))))))))))))))))))),λts Q hh=>?_)
   let(ks,hs,ws,sc,f,h,u,U,W,hf,S,hl,a0,hq):=hh;have ef:atI (hs.map tH) (f:Int)=Z (tH h):=bu (by rw[gV,hf];rfl)
   have hE:pM [.dv,tW ks hs ws,.l (sc.map tP),.s h.2.2,.i f] Q:=(ks,hs,ws,sc,f,h,U,W,hf,S,λn b hn hb dd=>hq n b (ui hn (Gs _)) hb (dd.mono ap))
   have aW:((sc.map tP).length:Int)=sc.length:=by rw[dN]
   have wl:=W.wl;have ak:sc.length<ws.length:=by omega
   have ex:atI (ws.map L2.T.s) ((sc.map tP).length:Int)=Z (.s ws[sc.length]):=by rw[dN];exact fW (gs ak)
   have hx:ws[sc.length]?=Z ws[sc.length]:=gs ak;have fx:ws[sc.length] ∉ sc.map (·.1):=S.fresh W.wn hx
   generalize ws[sc.length]=x at ex fx hx
   refine(_,U,_,ef,_,U,U,by decide,by decide,λfm f0 f1=>(U,λr bg=>aI (λ_=>hE) (λh1=>(U,aI (λ_=>hE) (λ_=>aI (λ_=>hE) (λh3=>?_))))))
   have h1:¬ r<1:=λz=>h1 (decide_eq_true z)
   have h3:sc.length<=16:=by
    have h3:¬(16:Int)<((sc.map tP).length:Int):=λz=>h3 (decide_eq_true z)
    rw[aW]at h3
    omega
   have u1:u.toNat=(u-1).toNat+1:=by omega
   have uN:(u-1).toNat<N:=by omega
   have s1:=Ac (u-1).toNat;rw[<- u1]at s1;have go:∀{k:Str},k∈ks.map (·.1)->∀{Q':L2.T->Prop},(∀n b,n<=sz (u-1).toNat->Snd ks hs h.2.2 n (sc++[Prod.mk x k]) b->Dep (3*(u-1).toNat+2) b->Q' b)->kO N [.dv,tW ks hs ws,.l (sc.map tP++[tP (x,k)]),.i f,.rm (u-1)] Q':=λ{k} hk {Q'} hQ =>
    (ks,hs,ws,sc++[(x,k)],f,h,u-1,by rw[pz];rfl,W,hf,S.snoc hx ap hk,by rw[jR];simp;omega,uN,hQ)
   have C:DA N (sz (u-1).toNat) (3*(u-1).toNat+2) ks hs ws sc f h (u-1) x Q:=(W,S.kd,h3,fx,hE,go,λn b hn hb dd=>hq n b ap hb (dd.mono ap),by omega)
   refine(by decide,_,ex,U,aI (λ_=>?_) (λ_=>?_))
   ·refine(by decide,by decide,λr2 aR aM=>?_)
    let(v2,a3,bb):=Ox (x:=3) (y:=9) (z:=1000) aR aM;refine(_,a3,by omega,by omega,λc c0 c1=>(by decide,by decide,λr4 ay ar=>?_))
    let(wd,ew,hw):=Uh ay ar;refine(_,ew,U,U,ks,hs,ws,sc,f,h,u-1,U,W,hf,S,hl,uN,λn b hn hb dd=>hq (n+1) _ ap (.fc hw hb) ((Fb dd).mono ap))
   ·refine(λrest=>aI (λ_=>aI (λq=>?_) (λ_=>rest)) (λ_=>rest)) ?_
    ·have Wf:sc ≠ []:=λz=>by rw[z]at q;exact absurd q ac
     exact(ks,hs,ws,sc,f,h,u-1,U,W,hf,S,by omega,Wf,uN,λn b hn hb dd=>hq n b (by rw[u1];exact hn) hb (dd.mono ap))
    refine(λrest=>(U,aI (λ_=>aI (λq=>LU C (λz=>by rw[z]at q;exact absurd q ac) _ _ _ _ _ _ _ _ _ _) (λ_=>rest)) (λ_=>rest))) ?_
    exact LX C _ _ _ _ _ _ _ _ _ _
theorem AW(T:Txt K mg a):bj P w K mg base CX0 66 a.ka a.vd [Zl,ZL,Zt] (spQ K Em):=by
 have aN:=iS (@fH P w K mg base a T);refine T.vy.F.okQ bL (λ_ _ _ _ _ _ hr=>?_)
 ·have hu:=bD hr;refine(_,_,((ag (aA 3 bL.nd (aL (IK T) hr T.Dy (ae (qv 0) (ae ah ax))))
 (ag (aA 4 bL.nd (aL (IM T) hr T.Dz (ae (qv 0) (ae (qv 3) ax))))
 (ag (aA 5 bL.nd (aP ai))
 (ag (aA 6 bL.nd (eJ ah (Zi (aL aN hr T.aU (ae (qv 0) (ae ah ax))))))
 (ag (bE (g:=(Tg.nm 7)) PassesOwn.never U (gS U T.gw (ae (Zi (a8 ah (Zi (aL aN hr T.aU (ae (qv 0) (ae (qv 1) ax)))))) ax)) (bp 7 bL.nd)
 (ag (aA 8 bL.nd (iH (aP (af bw (af bw (af bw (af bw (af bw (af bw (af bw ai)))))))) (Zi (aL aN hr T.aU (ae (qv 0) (ae ah ax))))))
 (ag (gi (i:=9) bL.nd U (Or.inl U) U (nC U T.gw (ae (qv 8) ax)) (N':=["_law_k",Zw,ZE,Zl]) (.own U (.got (i:=3) U U (.inl U) (.got (i:=4) U U (.inl U) (.got (i:=0) U U (.inl U) .nil)))) (cm (g:=(Tg.nm 0)) (λ_ _ _ _ _=>((c9 0),(aq (af (Zj (av (qv 1) (qv 0))) (af (Zj (av (av (qv 2) (Zi (aL aN hr T.aU (ae (qv 3) (ae (Zi (bW T.cS (ae (qv 2) ax))) ax))))) ah)) ai)))))))
 (aj (bx (i:=5) (pv 5) (aq (af (Zj (av (qv 3) (Zi (cF (ie U) vR ba T.vt (by kernel_rfl) (ae (Zi (qV (qv 6) (qv 7))) (ae (Zi (qV (qv 7) (qv 6))) ax)))))) (af (aV (cy U) cq ba T.d7 (by kernel_rfl) (ae (qv 9) ax)) (af (Zj (av (av (qv 4) (Zi (aL aN hr T.aU (ae (qv 0) (ae (Zi (bW T.cS (ae (qv 4) ax))) ax))))) ah)) ai)))))))))
 (ag (aA 10 bL.nd (aP ai))
 (ag (bE (g:=(Tg.tp [7,11])) PassesOwn.never U (x9 (i:=5) U T.bz (by kernel_rfl) (pv 5)) (dz (bp 7 bL.nd) (bp 11 bL.nd))
 (ag (aA 12 bL.nd (aL (M7 T 31) hr T.lB (ae (qv 0) (ae (L7 (ae (qv 4) (ae (qv 5) (ae (qv 3) ax)))) (ae (Zi (aV (Ft U) D7 ba T.xo (by kernel_rfl) (ae (av (qv 11) ah) ax))) (ae (qv 7) (ae (Zi (L8 (aP (af (Zj (qv 2)) ai)))) ax)))))))
 (aj (bx (i:=10) (pv 10) (a8 (qv 11) (Zi (aq (af (Zj (qv 12)) ai))))))))
 (aj (aD (aq (af (Zj (qv 4)) (af (aV (cy U) cq ba T.d7 (by kernel_rfl) (ae (qv 10) ax)) ai))))))))))))),λts Q hh=>?_)
  let(mo,u,U,cG,cz,u0,cx,hq):=hh;refine(40,U,by decide,by decide,λws hl aM _=>?_)
  have hl:ws.length=40:=by omega
  refine(ws,U,hl,aM,λks ct _=>(by decide,by decide,λow w0 w1=>?_))
  have gk:=ct.p;have k1:=gk.k1;have k2:=gk.k2;have lk:((ks.map tK).length:Int)=ks.length:=by rw[dN]
  refine(.inl (by omega,by omega),by omega,by omega,λn n0 n1=>?_)
  refine(by omega,by omega,λi q=>∃hs L o5 o6 o7,q=[.r .dv,.r (.i mo),.r (.i u),.o (.l (ws.map .s)),.o (tKs ks),.o (.l L),.o (.i (39*ow)),o5,o6,o7,.no,.no,.no]/\L=hs.map tH/\vv ks ws ow.toNat hs i,([],_,_,_,_,U,U,(U,U,nofun)),?_,?_)
  ·rintro i x q hx ⟨hs,L,o5,o6,o7,rfl,rfl,hH⟩
   let(U,hi):=kI hx;refine(_,U,by decide,by decide,λr2 bK bI=>?_)
   let(m,hm,em):=gJ (xs:=[1,1,2,2,0,3,4]) (f:=L2.T.i) bK bI;have hm:m=1\/m=1\/m=2\/m=2\/m=0\/m=3\/m=4:=(hm:)
   refine(_,em,by omega,by omega,aF (by rw[eR];omega),λp ys=>∃ps:Sc,ys=ps.map tP/\ps.map (·.1)=ws.take p/\∀q∈ps,q.2∈ks.map (·.1),([],U,U,nofun),?_,?_)
   ·rintro p y ys hy ⟨ps,rfl,ar,aW⟩
    let(U,hp):=kI hy;have bh:p<ws.length:=by omega
    have ew:atI (ws.map L2.T.s) (0+((p:Nat):Int))=Z (.s ws[p]):=by rw[XI];exact fW (by simp[bh])
    refine(_,U,_,ew,U,by rw[lk];omega,by rw[lk];omega,λr3 bt bb=>?_)
    rw[lk]at bb;let(kd,a0,ek):=gJ (f:=tK) bt bb;refine(_,ek,_,U,U,ps++[(ws[p],kd.1)],by simp[tP],?_,λq cg=>?_)
    ·rw[pz,ar];exact take_one (by simp[bh])
    ·obtain z|z:=n6.mp cg
     ·exact aW q z
     ·rw[fy.mp z];exact n8.mpr (kd,a0,U)
   ·rintro ys ⟨ps,rfl,ar,aW⟩
    rw[eR]at ar;have b0:ps.length=m.toNat:=by
     have:=congrArg N9 ar
     rw[dN,sR]at this
     omega
    have bg:nO ow.toNat i<ws.length:=by unfold nO;split <;> omega
    have ei:atI (ws.map L2.T.s) (if 0+(i:Int)-39*ow > 39*ow-(0+(i:Int))then 0+(i:Int)-39*ow else 39*ow-(0+(i:Int)))=Z (.s ws[nO ow.toNat i]):=by
     have e:(if 0+(i:Int)-39*ow > 39*ow-(0+(i:Int))then 0+(i:Int)-39*ow else 39*ow-(0+(i:Int)))=((nO ow.toNat i:Nat):Int):=by
      unfold nO
      have:ow=0\/ow=1:=by omega
      obtain rfl|rfl:=this
      ·show _=((i:Nat):Int);split <;> omega
      ·show _=((39-i:Nat):Int);split <;> omega
     rw[e];exact fW (by simp[bg])
    refine(aF (by rw[dN,hH.ln];omega),_,ei,U,a5 fA _,by rw[lk];omega,by rw[lk];omega,λr4 br a3=>?_)
    rw[lk]at a3;let(kd,a0,ek):=gJ (f:=tK) br a3;refine(_,ek,_,U,U,hs++[(ws[nO ow.toNat i],ps,kd.1)],_,_,_,_,U,by simp[tH],hH.snoc (gs bg) (by show ps.length<=4;omega,aW,by show ps.map (·.1)=ws.take ps.length;rw[b0];exact ar,n8.mpr (kd,a0,U)))
  ·rintro q ⟨hs,L,o5,o6,o7,rfl,rfl,hH⟩
   rw[eR]at hH;have W:Wld ks hs ws:=(gk,hl,aM,by rw[hH.ln];omega,by rw[hH.ln];omega,hH.nd hl aM ap,hH.hp)
   refine(λi q=>∃fs L o5 o9 aR,q=[.r .dv,.r (.i mo),.r (.i u),.o (.l (ws.map .s)),.o (tKs ks),.r (.l (hs.map tH)),.o (.i (39*ow)),o5,o6,o7,.o (.l L),o9,aR]/\L=fs.map tF/\fs.map (·.1)=hs.take i/\∀f∈fs,Snd ks hs f.1.2.2 f.2.2 f.1.2.1 f.2.1/\f.2.2<=sz u.toNat/\Dep (3*u.toNat+2) f.2.1,([],_,_,_,_,U,U,U,nofun),?_,?_)
   ·rintro i x q hx ⟨fs,L,o5,o9,aR,rfl,rfl,V,ak⟩
    let(y,hy,U):=bX hx;rw[gV]at hy;let(hd,ay,U):=g5.mp hy;have Ny:=mu ay;let(q1,q2,q3,q4):=W.hp hd Ny;have cH:fs.length=i:=by
     have:=congrArg N9 V
     rw[dN,sR]at this
     have:=(iY.mp ay).1
     omega
    have lhs:=W.h8;have cK:=(iY.mp ay).1;refine(_,U,_,U,a5 fA _,U,ks,hs,ws,hd.2.1,i,hd,u,U,W,ay,(q3,by omega,q2,ot _,by rw[sP]),by omega,by omega,λn b hn hb dd=>?_)
    refine(aF (by rw[dN];omega),hb.im,bA (by show 4<=10000;decide),UJ hd,(by show(b.im&&O)=O;rw[hb.im];rfl),fs++[(hd,b,n)],_,_,_,_,U,by simp[tF],?_,λf' ck=>?_)
    ·rw[pz,V,ro,ay];rfl
    ·obtain z|z:=n6.mp ck
     ·exact ak f' z
     ·rw[fy.mp z];exact(hb,hn,dd)
   ·rintro q ⟨fs,L,o5,o9,aR,rfl,rfl,V,ak⟩
    rw[a4,dN,sP]at V;have cj:L2.T.ims (fs.map tF)=true:=by
     have go:∀(l:List Fn),(∀f∈l,f.2.1.im=O)->L2.T.ims (l.map tF)=true:=by
      intro l
      induction l with
      |nil=>intro _;rfl
      |cons f r ih =>
       intro h;show((O&&(L2.T.ims (f.1.2.1.map tP)&&(O&&(f.2.1.im&&O))))&&L2.T.ims (r.map tF))=O;rw[a5 fA,h f lj,ih λf hf=>h f (jQ _ hf)];rfl
     exact go fs λf hf=>(ak f hf).1.im
    refine(wR ks,cj,hq ks fs (gk,?_,?_,λf hf=>?_,λf hf=>?_,λf hf=>((ak f hf).2.2).mono ap) ?_ (λf hf=>(ak f hf).2.1) ?_ λf hf=>(ak f hf).2.2)
    ·have:=congrArg N9 V
     rw[dN]at this
     have:=W.h8
     omega
    ·have:fs.map (·.1.1)=(fs.map (·.1)).map (·.1):=by rw[u4];rfl
     rw[this,V];exact W.hn
    ·have hm:f.1∈hs:=by rw[<- V];exact n8.mpr (f,hf,U)
     let(q1,q2,q3,q4):=W.hp f.1 hm;exact(q1,q2,by rw[q3];exact aM.sublist (W9 _ _),q4)
    ·rw[V];exact((ak f hf).1,ui (ak f hf).2.1 (ui (Lq ap) Tf))
    ·intro e;rw[e]at V
     have:=hH.ln
     rw[<- V]at this;simp at this
     omega
    ·have:=hH.ln
     rw[<- V,dN]at this
     omega
theorem j8{ts:List L2.T}(h:∀t∈ts,t.im=O):L2.T.ims ts=true:=by
 induction ts with
 |nil=>rfl
 |cons t r g=>show(t.im&&L2.T.ims r)=O;rw[h t lj,g λt q=>h t (jQ _ q)];rfl
theorem cc(h:n<=1002000):n<pY:=Xg h ac
def So:L2.T->L2.T
 |.t [_,_,b]=>b
 |_=>.n
def subs:L2.T->List (L2.T×L2.T)
 |.t [.s _,.s _,.t arms]=>arms.map λx=>(So x,x)
 |.t [.s _,.i _,b]=>[(b,.n)]
 |.t [.s _,.s _,.s _,b]=>[(b,.n)]
 |.t [.s _,.s _,.s _,.t _,b]=>[(b,.n)]
 |_=>[]
inductive Kid(ks:List Kd)(hs:List Hd):Sc->L2.T->Nat->L2.T->L2.T->Sc->Prop
 |fc{sc:Sc}{w:Str}{c:Int}{b:L2.T}:(w="pay" \/ w="get")->Kid ks hs sc (.t [.s w,.i c,b]) 0 b .n sc
 |name{sc:Sc}{x y k:Str}{b:L2.T}:(y,k)∈sc->x ∉ sc.map (·.1)->Kid ks hs sc (.t [.s "name",.s x,.s y,b]) 0 b .n (sc++[Prod.mk x k])
 |make{sc:Sc}{x:Str}{m:Mk1}{kd:Kd}{ns:List Str}{b:L2.T}:kd∈ks->m∈kd.2->x ∉ sc.map (·.1)->Kid ks hs sc (.t [.s "make",.s x,.s m.1,.t (ns.map .s),b]) 0 b .n (sc++[(x,kd.1)])
 |call{sc:Sc}{x:Str}{h:Hd}{ns:List Str}{b:L2.T}:h∈hs->x ∉ sc.map (·.1)->Kid ks hs sc (.t [.s "call",.s x,.s h.1,.t (ns.map .s),b]) 0 b .n (sc++[(x,h.2.2)])
 |case{sc:Sc}{x:Str}{kd:Kd}{arms:List Arm}{j:Nat}{a:Arm}{m:Mk1}:(x,kd.1)∈sc->kd∈ks->arms.map (·.1)=kd.2.map (·.1)->arms[j]?=Z a->kd.2[j]?=Z m->a.2.1.length=m.2.length->(sc.map (·.1)++a.2.1).Nodup->Kid ks hs sc (.t [.s "case",.s x,.t (arms.map tA)]) j a.2.2.1 (tA a) (sc++a.2.1.zip m.2)
inductive Shp:L2.T->Prop
 |give{x:Str}:Shp (.t [.s "give",.s x])
 |fc{w:Str}{c:Int}{b:L2.T}:(w="pay" \/ w="get")->b.im=O->Shp (.t [.s w,.i c,b])
 |name{x y:Str}{b:L2.T}:b.im=O->Shp (.t [.s "name",.s x,.s y,b])
 |use{w x m:Str}{ns:List Str}{b:L2.T}:(w="make" \/ w="call")->b.im=O->Shp (.t [.s w,.s x,.s m,.t (ns.map .s),b])
 |case{x:Str}{arms:List Arm}:(∀a∈arms,a.2.2.1.im=O)->arms.length<=50000->Shp (.t [.s "case",.s x,.t (arms.map tA)])
structure Nod where
 b:L2.T
 ab:L2.T
 am:L2.T
 pa:List (Nat×L2.T×Nat)
 sc:Sc
def Be(n:Nat)(d:Nod)(j:Nat)(b am:L2.T)(sc:Sc):Nod:=(b,.i n,am,d.pa++[(n,d.b,j)],sc)
inductive Ask(ks:List Kd)(sc:Sc):L2.T->Option Str->Prop
 |give{x:Str}:Ask ks sc (.t [.s "give",.s x]) Y
 |fc{w:Str}{c:Int}{b:L2.T}:(w="pay" \/ w="get")->Ask ks sc (.t [.s w,.i c,b]) Y
 |name{x y k:Str}{b:L2.T}:(y,k)∈sc->Ask ks sc (.t [.s "name",.s x,.s y,b]) (Z k)
 |make{x:Str}{m:Mk1}{kd:Kd}{ns:List Str}{b:L2.T}:kd∈ks->m∈kd.2->Ask ks sc (.t [.s "make",.s x,.s m.1,.t (ns.map .s),b]) (Z kd.1)
 |call{x g:Str}{ns:List Str}{b:L2.T}:Ask ks sc (.t [.s "call",.s x,.s g,.t (ns.map .s),b]) Y
 |case{x k:Str}{arms:List Arm}:(x,k)∈sc->Ask ks sc (.t [.s "case",.s x,.t (arms.map tA)]) (Z k)
structure SK(ks:List Kd)(hs:List Hd)(n:Nat)(d:Nod)(cs:List Nod):Prop where
 ok:∀(j:Nat)(c:Nod),cs[j]?=Z c->c=Be n d j c.b c.am c.sc/\Kid ks hs d.sc d.b j c.b c.am c.sc
 su:cs.map (λc=>Prod.mk c.b c.am)=subs d.b
 sh:Shp d.b
 ak:∃o,Ask ks d.sc d.b o
mutual
inductive Pre(ks:List Kd)(hs:List Hd):Nat->Nod->List Nod->Prop
 |mk{n:Nat}{d:Nod}{cs L:List Nod}:SK ks hs n d cs->cn ks hs (n+1) cs L->Pre ks hs n d (d::L)
inductive cn(ks:List Kd)(hs:List Hd):Nat->List Nod->List Nod->Prop
 |nil{n:Nat}:cn ks hs n [] []
 |cons{n:Nat}{d:Nod}{ds L M:List Nod}:Pre ks hs n d L->cn ks hs (n+L.length) ds M->cn ks hs n (d::ds) (L++M)
end
variable{ds:List Nod}{L:List Nod}
theorem cn.app{ks:List Kd}{es M:List Nod}:∀{n:Nat},cn ks hs n ds L->cn ks hs (n+L.length) es M->cn ks hs n (ds++es) (L++M):=by
 induction ds generalizing L with
 |nil=>intro n h h2;cases h;simpa using h2
 |cons d ds g =>
  intro n h h2;cases h with
  |@cons _ _ _ z q h1 h3 =>
   rw[Yt,xx];exact .cons h1 (g h3 (by rw[jR,<- Nat.add_assoc]at h2;exact h2))
theorem cn.pop{ks:List Kd}{d:Nod}(h:cn ks hs n (d::ds) L):∃cs g,SK ks hs n d cs/\L=d::g/\cn ks hs (n+1) (cs++ds) g:=by
 cases h with
 |@cons _ _ _ z q h1 h3 =>
  cases h1 with
  |@mk _ _ cs L2 hk h2 =>
   refine(cs,L2++q,hk,U,h2.app ?_);rw[ri]at h3;rw[show n+1+L2.length=n+(L2.length+1)by omega]
   exact h3
theorem cn.le{ks:List Kd}(h:cn ks hs n ds L):ds.length<=L.length:=by
 induction ds generalizing n L with
 |nil=>exact FI _
 |cons d ds g =>
  cases h with
  |cons h1 h3 =>
   have:=g h3
   cases h1;simp only[ri,jR]
   omega
theorem Ro{l:List Nat}{x:Nat}(h:x∈l):x<=l.sum:=by
 induction l with
 |nil=>cases h
 |cons y r g =>
  rw[XN];obtain z|z:=pj.mp h
  ·omega
  ·have:=g z;omega
theorem Ni{l:List Nat}(h:∀x∈l,1<=x):l.length<=l.sum:=by
 induction l with
 |nil=>exact ot _
 |cons y r g =>
  have h1:=h y lj;have h2:=g λz q=>h z (jQ _ q)
  rw[XN,ri]
  omega
theorem Snd.pos{ks:List Kd}{b:L2.T}(h:Snd ks hs r n sc b):1<=n:=by cases h <;> omega
theorem Snd.pre{ks:List Kd}{b:L2.T}(h:Snd ks hs r m sc b)(aM:m<=50000):∀(n:Nat)(ab am:L2.T)(pa:List (Nat×L2.T×Nat)),∃L,Pre ks hs n (b,ab,am,pa,sc) L/\L.length<=m:=by
 have one:∀{m:Nat}{sc sc':Sc}{b b':L2.T}{o:Option Str},Kid ks hs sc b 0 b' .n sc'->Shp b->Ask ks sc b o->subs b=[(b',.n)]->(∀(n:Nat)(ab am:L2.T)(pa:List (Nat×L2.T×Nat)),∃L,Pre ks hs n (b',ab,am,pa,sc') L/\L.length<=m)->∀(n:Nat)(ab am:L2.T)(pa:List (Nat×L2.T×Nat)),∃L,Pre ks hs n (b,ab,am,pa,sc) L/\L.length<=m+1:=by
  intro m sc sc' b b' o hk sh ak ay g n ab am pa;let(L,h1,h2):=g (n+1) (.i n) .n (pa++[(n,b,0)]);refine((b,ab,am,pa,sc)::L,.mk (cs:=[(b',.i n,.n,pa++[(n,b,0)],sc')]) (λj c q=>?_,by rw[ay];rfl,sh,(o,ak)) (by have:=cn.cons h1 (.nil);rwa [rD]at this),by simp;omega)
  cases j with
  |zero=>cases q;exact(U,hk)
  |succ j=>simp at q
 induction h with
 |give hx =>
  intro n ab am pa;exact([_],.mk (cs:=[]) (λj c q=>by simp at q,U,.give,(Y,.give)) .nil,by simp)
 |fc hw h g=>exact one (.fc hw) (.fc hw h.im) (.fc hw) U (g ap)
 |name hy hx h g=>exact one (.name hy hx) (.name h.im) (.name hy) U (g ap)
 |make K hm hF hx h g=>exact one (.make K hm hx) (.use (.inl U) h.im) (.make K hm) U (g ap)
 |call hh hF hx h g=>exact one (.call hh hx) (.use (.inr U) h.im) .call U (g ap)
 |@case sc x kd arms hx K Q h1 h2 g =>
  intro n ab am pa;have el:arms.length=kd.2.length:=(congrArg N9 Q:)
  have sz:∀(j:Nat)(a:Arm),arms[j]?=Z a->a.2.2.2 <=(arms.map (·.2.2.2)).sum:=λj a ha=>Ro (n8.mpr (a,mu ha,U))
  have sh:Shp (.t [.s "case",.s x,.t (arms.map tA)]):=.case (λa ha=>by
   let(i,hi,e):=uj ha;exact(h2 i a (kd.2[i]' ap) (by rw[gs hi,e]) (gs _)).im) (by
   have:arms.length <=(arms.map (·.2.2.2)).sum:=by
    have:=Ni (l:=arms.map (·.2.2.2)) λz hz=>by
     let(a,ha,U):=n8.mp hz;let(i,hi,e):=uj ha;exact(h2 i a (kd.2[i]' ap) (by rw[gs hi,e]) (gs _)).pos
    simpa using this
   omega)
  let b:L2.T:=.t [.s "case",.s x,.t (arms.map tA)]
  have go:∀(k j:Nat),j+k=arms.length->∀P,∃(cs L:List Nod),cn ks hs P cs L/\cs.length=k/\L.length <=((arms.drop j).map (·.2.2.2)).sum/\cs.map (λc=>Prod.mk c.b c.am)=(arms.drop j).map (λa=>Prod.mk a.2.2.1 (tA a))/\∀(i:Nat)(c:Nod),cs[i]?=Z c->c=Be n (b,ab,am,pa,sc) (j+i) c.b c.am c.sc/\Kid ks hs sc b (j+i) c.b c.am c.sc:=by
   intro k
   induction k with
   |zero =>
    intro j hj P;refine([],[],.nil,U,FI _,?_,λi c q=>by simp at q)
    rw[X0 ap];rfl
   |succ k ar =>
    intro j hj P;have V:j<arms.length:=by omega
    have ea:arms[j]?=Z arms[j]:=gs V;have em:kd.2[j]?=Z (kd.2[j]' ap):=gs _
    let(q1,q2):=h1 j _ _ ea em;have hK:Kid ks hs sc b j arms[j].2.2.1 (tA arms[j]) (sc++arms[j].2.1.zip (kd.2[j]' ap).2):=.case hx K Q ea em q1 q2
    let(L1,p1,p2):=g j _ _ ea em (by have:=sz j _ ea;omega) P (.i n) (tA arms[j]) (pa++[(n,b,j)])
    let(cs,L,c1,c2,c3,c4,c5):=ar (j+1) ap (P+L1.length)
    have ed:arms.drop j=arms[j]::arms.drop (j+1):=Yj V;refine(_::cs,L1++L,.cons p1 c1,by simp[c2],?_,?_,λi c q=>?_)
    ·rw[ed,x2,XN,jR];omega
    ·rw[ed,x2,x2,c4]
    ·cases i with
     |zero=>cases q;exact(U,hK)
     |succ i =>
      let(z1,z2):=c5 i c q;rw[show j+(i+1)=j+1+i by omega]
      exact(z1,z2)
  let(cs,L,c1,_,c3,c4,c5):=go arms.length 0 ap (n+1)
  rw[YI]at c3 c4;refine(_::L,.mk (cs:=cs) (λj c q=>?_,?_,sh,(_,.case hx)) c1,by simp;omega)
  ·have:=c5 j c q
   rwa [Ks]at this
  ·rw[c4];show _=(arms.map tA).map λx=>Prod.mk (So x) x
   rw[u4];rfl
theorem cn.from{ks:List Kd}:∀(k:Nat){n:Nat}{ds M:List Nod},M.length=k->cn ks hs n ds M->∀(m:Nat)(d:Nod),M[m]?=Z d->(∃j,ds[j]?=Z d/\(m=0->j=0))\/∃(p:Nat)(e:Nod)(cs:List Nod)(j:Nat),p<m/\M[p]?=Z e/\SK ks hs (n+p) e cs/\cs[j]?=Z d:=by
 intro k
 induction k with
 |zero =>
  intro n ds M hl h m d hm;rw[xw.mp hl]at hm;simp at hm
 |succ k P =>
  intro n ds M hl h m d hm;cases ds with
  |nil=>cases h;simp at hl
  |cons d0 ds =>
   let(cs,L',hk,U,h2):=h.pop;cases m with
   |zero=>cases hm;exact .inl (0,U,λ_=>rfl)
   |succ m =>
    obtain⟨j,g,_⟩|⟨p,e,K,j,hp,he,V,Q⟩:=P (n:=n+1) (hl:) h2 m d (hm:)
    ·by_cases q:j<cs.length
     ·rw[Dr q]at g;exact .inr (0,d0,cs,j,by omega,U,hk,g)
     ·rw[M1 ap]at g
      exact .inl (j-cs.length+1,(g:),λz=>by omega)
    ·exact .inr (p+1,e,K,j,by omega,(he:),by rw[show n+(p+1)=n+1+p by omega];exact V,Q)
def spT(C:J)(p a r:L2.T):L2.T:=.ob C [Zm,"above","arm"] [p,a,r]
def spN(C:J)(d:Nod):L2.T:=spT C d.b d.ab d.am
inductive Eo(C:J)(ts:List L2.T)(Q:L2.T->Prop):Prop
 |mk (b:L2.T) (n:Nat) (h1:ts=[b,.i n]) (h2:Shp b) (h3:b.im=O) (h4:Q (.l ((subs b).map λp=>spT C p.1 (.i n) p.2)))
theorem Shp.im{b:L2.T}(h:Shp b):b.im=true:=by
 cases h with
 |give=>rfl
 |fc _ h=>show(O&&(O&&(L2.T.im _&&O)))=O;rw[h];rfl
 |name h=>show(O&&(O&&(O&&(L2.T.im _&&O))))=O;rw[h];rfl
 |use _ h=>show(O&&(O&&(O&&(L2.T.ims _&&(L2.T.im _&&O)))))=O;rw[h,a9];rfl
 |case h =>
  show(O&&(O&&(L2.T.ims _&&O)))=O;rw[j8 λt g=>by
   let(a,ha,U):=n8.mp g;show(O&&(L2.T.ims (a.2.1.map .s)&&(a.2.2.1.im&&O)))=O;rw[h a ha,a9];rfl]
  rfl
theorem cn.ims{ks:List Kd}{M:List Nod}(h:cn ks hs n ds M):∀e∈M,e.b.im=true:=by
 have go:∀(k:Nat){n:Nat}{ds M:List Nod},M.length=k->cn ks hs n ds M->∀e∈M,e.b.im=true:=by
  intro k
  induction k with
  |zero =>
   intro n ds M hl h e he;rw[xw.mp hl]at he;cases he
  |succ k g =>
   intro n ds M hl h e he;cases ds with
   |nil=>cases h;simp at hl
   |cons z ds =>
    let(cs,K,q,U,h2):=h.pop;obtain rfl|he:=pj.mp he
    ·exact q.sh.im
    ·exact g (hl:) h2 e he
 exact go _ U h
theorem cn.asks{ks:List Kd}:∀(k:Nat){n:Nat}{ds M:List Nod},M.length=k->cn ks hs n ds M->∀e∈M,∃o,Ask ks e.sc e.b o:=by
 intro k
 induction k with
 |zero =>
  intro n ds M hl h e he;rw[xw.mp hl]at he;cases he
 |succ k g =>
  intro n ds M hl h e he;cases ds with
  |nil=>cases h;simp at hl
  |cons z ds =>
   let(cs,K,q,U,h2):=h.pop;obtain rfl|he:=pj.mp he
   ·exact q.ak
   ·exact g (hl:) h2 e he
inductive Mv(C:J)(ts:List L2.T)(Q:L2.T->Prop):Prop
 |mk(ks:List Kd)(hs:List Hd)(d:Nod)(L:List Nod)(h1:ts=[d.b])(h2:d.ab=.n)(h3:d.am=.n)(h4:Pre ks hs 0 d L)(h5:L.length<=50000)(h6:Q (.l (L.map (spN C))))
inductive Ig(ts:List L2.T)(Q:L2.T->Prop):Prop
 |mk(ks:List Kd)(hs:List Hd)(d:Nod)(L:List Nod)(h1:ts=[d.b])(h2:d.ab=.n)(h3:d.am=.n)(h4:Pre ks hs 0 d L)(h5:L.length<=50000)(h6:Q (.l (L.map (·.b))))
theorem CF(T:Txt K mg a):bj P w K mg base CX0 1 a.dO a.jM [Zp,Zm,"above","arm"] (vN a.aR [Zm,"above","arm"]):=by
 refine Fun.ok T.gy vV (λvs H Q E h=>?_) λcdv A outer s H vs Q E hr h=>?_
 ·let(x,dx,args,U,hl,_):=h;show args.length+1=4;rw[hl];rfl
 ·let(x,dx,args,U,hl,hx,hq):=h;obtain⟨v1,v2,g,rfl⟩:∃v1 v2 g,args=[v1,v2,g]:=by
   cases args with
   |nil=>cases hl
   |cons v1 r=>cases r with
    |nil=>cases hl
    |cons v2 r=>cases r with
     |nil=>cases hl
     |cons g r=>cases r with
      |nil=>exact(v1,v2,g,U)
      |cons=>cases hl
  refine(_,bC (jx (pv 0) (pv 1) U) (bC (jx (pv 0) (pv 2) U) (eT (jx (pv 0) (pv 3) U))),(_,U,_,U,x,a.aR,dx,_,U,hx,T.cj,T.dA,(by show 0<1000;decide),(_,U,_,U,x,a.aR,dx,_,U,au,T.cj,T.bI,(by show 1<1000;decide),(_,U,_,U,x,a.aR,dx,_,U,au,T.cj,T.jB,(by show 2<1000;decide),?_))))
  rw[gh,gh];exact hq
theorem nL(T:Txt K mg a):bj P w K mg base CX0 3 a.dC a.ja [Zm,"number"] (spQ K (Eo a.aR)):=by
 refine T.jg.F.okQ nt (λ_ _ _ _ _ _ hr=>?_)
 ·have hu:=bD hr;refine(_,_,((ag (aX (bB hu (av (qv 0) ah) (Zi aH))
 (aj (aD (aP ai)))
 aC)
 (ag (aX (bB hu (av (qv 0) ah) (Zi aH))
 (aj (aD (cp U (kL (av (qv 0) ah)) (N':=["arm","number"]) (.own U (.got (i:=1) U U (.inl U) .nil)) (cm (g:=(Tg.nm 0)) (λ_ _ _ _ _=>((c9 0),(gT U T.wG (CF T) (hr.mono ap) U T.wD T.jO (ae (av (qv 0) ah) (ae (qv 1) (ae (qv 0) ax))))))))))
 aC)
 (aj (aD (aP (af (gT U T.wG (CF T) (hr.mono ap) U T.wD T.jO (ae (av (qv 0) (Zi (nE ah))) (ae (qv 1) (ae (Zi cD) ax)))) ai))))))),λts Q h=>?_)
  let(b,n,U,hS,ak,hq):=h;cases hS with
  |give=>exact(_,U,U,aI (λ_=>hq) (λz=>absurd (by decide +kernel) z))
  |@fc w c b hw q =>
   have n1:¬ decide ((L2.T.s w).v=(L2.T.s "give").v)=true:=by obtain rfl|rfl:=hw <;> decide +kernel
   have V:¬ decide ((L2.T.s w).v=(L2.T.s "case").v)=true:=by obtain rfl|rfl:=hw <;> decide +kernel
   refine(_,U,U,aI (λz=>absurd z n1) λ_=>(_,U,U,aI (λz=>absurd z V) λ_=>(_,U,?_)))
   exact((by show(b.im&&(O&&(O&&O)))=O;rw[q];rfl),U,hq)
  |@name x y b q =>
   refine(_,U,U,aa ((_,U,U,aa ((_,U,?_)))))
   exact((by show(b.im&&(O&&(O&&O)))=O;rw[q];rfl),U,hq)
  |@use w x m ns b hw q =>
   have n1:¬ decide ((L2.T.s w).v=(L2.T.s "give").v)=true:=by obtain rfl|rfl:=hw <;> decide +kernel
   have V:¬ decide ((L2.T.s w).v=(L2.T.s "case").v)=true:=by obtain rfl|rfl:=hw <;> decide +kernel
   refine(_,U,U,aI (λz=>absurd z n1) λ_=>(_,U,U,aI (λz=>absurd z V) λ_=>(_,U,?_)))
   exact((by show(b.im&&(O&&(O&&O)))=O;rw[q];rfl),U,hq)
  |@case x arms q hl =>
   refine(_,U,U,aa ((_,U,U,aI (λ_=>?_) λz=>absurd (by decide +kernel) z)))
   refine(_,U,cc (by rw[dN];omega),λi ys=>ys=(arms.take i).map (λz=>spT a.aR z.2.2.1 (.i n) (tA z)),U,?_,?_)
   ·rintro i y ys hy rfl
    rw[gV]at hy;let(z,hz,U):=g5.mp hy;have hi:=q z (mu hz);refine(_,U,_,U,(by show(z.2.2.1.im&&(O&&((O&&(L2.T.ims (z.2.1.map .s)&&(z.2.2.1.im&&O)))&&O)))=O;rw[hi,a9];rfl),U,?_)
    show _++[spT a.aR z.2.2.1 (.i n) (tA z)]=_;rw[ro,hz];simp
   ·rintro ys rfl
    rw[dN,sP];have e:(subs (.t [.s "case",.s x,.t (arms.map tA)])).map (λp=>spT a.aR p.1 (.i n) p.2)=arms.map λz=>spT a.aR z.2.2.1 (.i n) (tA z):=by
     show((arms.map tA).map λx=>Prod.mk (So x) x).map _=_
     rw[u4,u4];rfl
    rw[e]at hq;exact hq
theorem rj(T:Txt K mg a):bj P w K mg base CX0 4 a.pT a.Dc ["body"] (spQ K (Mv a.aR)):=by
 refine T.pZ.F.okQ lJ (λ_ _ _ _ _ _ hr=>?_)
 ·have hu:=bD hr;refine(_,_,((ag (aA 1 lJ.nd (aP ai))
 (ag (aA 2 lJ.nd (aP (af (gT U T.wG (CF T) (hr.mono ap) U T.wD T.jO (ae (qv 0) (ae (Zi cD) (ae (Zi cD) ax)))) ai)))
 (ag (x6 PassesOwn.never (gR (qv 2))
 (ag (Hs (j:=3) lJ.nd U (Or.inl U) (pv 2))
 (ag (c8 (i:=2) (pv 2) (yb U U T.xo U T.sJ (Zi (aL (nL T) hr T.jg (ae (aZ T.cj T.dA (qv 3)) (ae (Zi (bW T.cS (ae (qv 1) ax))) ax))))))
 (aj (bx (i:=1) (pv 1) (Zj (qv 3)))))))
 (aj (fF (i:=1) (pv 1))))))),λts Q h=>?_)
  let(ks,hs,d,L,U,e1,e2,hP,hL,hq):=h;have ak:d.b.im=true:=by cases hP with|mk hk _=>exact hk.sh.im
  refine((by show(d.b.im&&(O&&(O&&O)))=O;rw[ak];rfl),U,?_)
  refine(λc q=>∃(A W M:List Nod)(X Zf:List L2.T)(V:Sl),q=[.r d.b,.o (.l X),.o (.l Zf),V]/\X=A.map (spN a.aR)/\Zf=W.reverse.map (spN a.aR)/\cn ks hs A.length W M/\L=A++M/\c=M.length,(_,[],[d],L,_,_,_,U,U,?_,?_,U,U),?_)
  ·show [spT a.aR d.b .n .n]=[spT a.aR d.b d.ab d.am];rw[e1,e2]
  ·have:=cn.cons hP (.nil)
   rwa [rD]at this
  rintro c q ⟨A,W,M,X,Zf,V,rfl,rfl,rfl,hM,g,rfl⟩
  cases W with
  |nil =>
   cases hM;rw[rD]at g;subst g;exact hq
  |cons v W =>
   let(cs,M',hK,U,h2):=hM.pop;have hle:=h2.le;have ay:A.length+(M'.length+1)<=50000:=by rw[g,jR,ri]at hL;exact hL
   rw[jR]at hle;have eY:(v::W).reverse.map (spN a.aR)=W.reverse.map (spN a.aR)++[spN a.aR v]:=by simp
   have ar:cs.map (spN a.aR)=(subs v.b).map λp=>spT a.aR p.1 (.i A.length) p.2:=by
    rw[<- hK.su,u4];refine Xp λc hc=>?_
    let(j,hj,U):=uj hc;have e:=(hK.ok j _ (gs hj)).1;show spT _ _ _ _=spT _ _ _ _;rw[show cs[j].ab=.i A.length from congrArg Nod.ab e]
   refine aI (λ_=>?_) (λz=>absurd (by rw[eY];simp) z)
   refine(λq'=>∃(A W M:List Nod)(X Zf:List L2.T)(V:Sl),q'=[.r d.b,.o (.l X),.o (.l Zf),V]/\X=A.map (spN a.aR)/\Zf=W.reverse.map (spN a.aR)/\cn ks hs A.length W M/\L=A++M/\M.length<M'.length+1,?_,?_)
   ·rintro q' ⟨A,W,M,X,Zf,V,rfl,rfl,rfl,g1,g2,g3⟩
    exact(M.length,g3,A,W,M,_,_,_,U,U,U,g1,g2,U)
   ·refine(_,_,eY,j8 λt ht=>by
     let(z,_,U):=n8.mp ht;rfl,by decide,?_)
    refine(U,ac,_,U,v.b,A.length,(by rw[dN]),hK.sh,hK.sh.im,?_)
    refine(j8 λt ht=>by
     let(z,_,U):=n8.mp ht;rfl,?_)
    rw[<- ar];refine(?_,?_)
    ·have:W.length+cs.length<=1002000:=by omega
     simp only[dN,YM];exact vr (cc this)
    ·refine(cc (by rw[dN];omega),U,?_)
     exact(A++[v],cs++W,M',_,_,_,U,by simp,by simp,by rw[jR];exact h2,by simp[g],by omega)
def en{α:Type}(f:α->Str)(g:α->L2.T)(x:α):Key×L2.T:=(.inr (f x),g x)
theorem lZ{α:Type}{f:α->Str}{g:α->L2.T}:∀xs:List α,cv (xs.map λx=>.t [.s (f x),g x])=Z (xs.map (en f g))
 |[]=>rfl
 |k::r=>by
  show(match(Z (.inr (f k)):Option Key),cv (r.map λx=>.t [.s (f x),g x])with|some k',Z r=>Z ((Prod.mk k' (g k))::r)|_,_=>Y)=_
  rw[lZ r];rfl
theorem yB{α:Type}{f:α->Str}{g:α->L2.T}{xs ys:List α}(h:((xs++ys).map f).Nodup):cZ (xs.map (en f g)) (ys.map (en f g))=(xs++ys).map (en f g):=by
 rw[pz]at h;let(h1,h2,h3):=Fs.mp h;rw[ma,pz]
 ·rw[u4]
  have:(ys.map ((λx:Key×L2.T=>x.1) ∘ en f g))=(ys.map f).map Sum.inr:=by rw[u4];rfl
  rw[this];exact Xl.mpr (h2.imp λK z=>K (Sum.inr.inj z))
 ·intro p hp q hq;let(x,hx,U):=n8.mp hp;let(y,P,U):=n8.mp hq;exact λz=>h3 _ (n8.mpr (y,P,U)) _ (n8.mpr (x,hx,U)) (Sum.inr.inj z)
theorem pX{α:Type}{f:α->Str}{g:α->L2.T}{xs:List α}(h:(xs.map f).Nodup):cZ [] (xs.map (en f g))=xs.map (en f g):=yB (xs:=[]) h
theorem md{α:Type}{f:α->Str}{g:α->L2.T}:∀{xs:List α}{x:α},(xs.map f).Nodup->x∈xs->cw (xs.map (en f g)) (.inr (f x))=Z (g x)
 |y::r,x,h,hx=>by
  have h':=v3.mp h;unfold cw;rw[x2,Pt,show(en f g y).1=.inr (f y)from U,Bk];by_cases e:f y=f x
  ·rw[decide_eq_true e];obtain rfl|z:=pj.mp hx
   ·rfl
   ·exact absurd (n8.mpr (x,z,e.symm)) h'.1
  ·rw[decide_eq_false e];obtain rfl|z:=pj.mp hx
   ·exact absurd U e
   ·exact md (xs:=r) h'.2 z
abbrev enM:Mk1->Key×L2.T:=en (·.1) λm=>.t (m.2.map .s)
abbrev enP:Str×Str->Key×L2.T:=en (·.1) λp=>.s p.2
theorem MM(ms:List Mk1):cv (ms.map tM)=Z (ms.map enM):=lZ (f:=λm:Mk1=>m.1) (g:=λm:Mk1=>.t (m.2.map .s)) ms
theorem wx(sc:Sc):cv (sc.map tP)=Z (sc.map enP):=lZ (f:=λm:Str×Str=>m.1) (g:=λp:Str×Str=>.s p.2) sc
theorem wI{k:Str}(h:(sc.map (·.1)).Nodup)(hx:(x,k)∈sc):cw (sc.map enP) (.inr x)=Z (.s k):=md (f:=λm:Str×Str=>m.1) (g:=λp:Str×Str=>.s p.2) h hx
theorem rV:∀{ks:List Kd}{i j:Nat}{k k':Kd}{m m':Mk1},(names ks).Nodup->ks[i]?=Z k->ks[j]?=Z k'->m∈k.2->m'∈k'.2->m.1=m'.1->i=j
 |x::r,0,0,_,_,_,_,_,_,_,_,_,_=>rfl
 |x::r,i+1,j+1,k,k',m,m',h,h1,h2,h3,h4,h5=>by
  have h:(x.2.map (·.1)++names r).Nodup:=h;exact congrArg (· + 1) (rV (ks:=r) (k:=k) (k':=k') (Fs.mp h).2.1 (h1:) (h2:) h3 h4 h5)
 |x::r,0,j+1,k,k',m,m',h,h1,h2,h3,h4,h5=>by
  have h:(x.2.map (·.1)++names r).Nodup:=h;cases h1;exact absurd h5 ((Fs.mp h).2.2 _ (n8.mpr (m,h3,U)) _ (W8.mpr (k',mu (h2:),n8.mpr (m',h4,U))))
 |x::r,i+1,0,k,k',m,m',h,h1,h2,h3,h4,h5=>by
  have h:(x.2.map (·.1)++names r).Nodup:=h;cases h2;exact absurd h5.symm ((Fs.mp h).2.2 _ (n8.mpr (m',h4,U)) _ (W8.mpr (k,mu (h1:),n8.mpr (m,h3,U))))
theorem yy{ks:List Kd}(h:(names ks).Nodup){k:Kd}(hk:k∈ks):(k.2.map (·.1)).Nodup:=by
 induction ks with
 |nil=>cases hk
 |cons x r g =>
  have h:(x.2.map (·.1)++names r).Nodup:=h;let(h1,h2,_):=Fs.mp h;obtain rfl|z:=pj.mp hk
  ·exact h1
  ·exact g h2 z
theorem CH{ks:List Kd}(h:(ks.map (·.1)).Nodup){k:Kd}(hk:k∈ks):g6 ks k.1=k.2:=by
 let(i,hi,U):=uj hk;refine CJ (gs hi) U λj y z q e=>?_
 have g:j<ks.length:=by omega
 rw[gs g]at q;cases q
 have:=(Yq (h₀:=(g:)) (h₁:=(hi:)) h).mp (e:)
 omega
inductive Pth(ks:List Kd)(hs:List Hd):Sc->List (Nat×L2.T×Nat)->Sc->Prop
 |nil{sc:Sc}:Pth ks hs sc [] sc
 |cons{sc sc' Tj:Sc}{n j:Nat}{b b' am:L2.T}{r:List (Nat×L2.T×Nat)}:Kid ks hs sc b j b' am sc'->Pth ks hs sc' r Tj->Pth ks hs sc ((n,b,j)::r) Tj
theorem Pth.snoc{ks:List Kd}{g:Sc}{pa:List (Nat×L2.T×Nat)}{b b' am:L2.T}(h:Pth ks hs g pa sc)(hk:Kid ks hs sc b j b' am sc'):Pth ks hs g (pa++[(n,b,j)]) sc':=by
 induction h with
 |nil=>exact .cons hk .nil
 |cons h1 _ q=>exact .cons h1 (q hk)
theorem cn.all{ks:List Kd}{R:Nod->Prop}(hk:∀n d j b am sc,R d->Kid ks hs d.sc d.b j b am sc->R (Be n d j b am sc)):∀(k:Nat){n:Nat}{ds M:List Nod},M.length=k->cn ks hs n ds M->(∀d∈ds,R d)->∀e∈M,R e:=by
 intro k
 induction k with
 |zero =>
  intro n ds M hl h h0 e he;rw[xw.mp hl]at he;cases he
 |succ k g =>
  intro n ds M hl h h0 e he;cases ds with
  |nil=>cases h;simp at hl
  |cons d0 ds =>
   let(cs,L',P,U,h2):=h.pop;have hd:=h0 d0 lj;obtain rfl|he:=pj.mp he
   ·exact hd
   ·refine g (hl:) h2 (λc K=>?_) e he
    obtain z|z:=n6.mp K
    ·let(j,q,U):=uj z;let(V,Q):=P.ok j _ (gs q);rw[V];exact hk _ _ _ _ _ _ hd Q
    ·exact h0 c (jQ _ z)
theorem Kid.nd{ks:List Kd}{b b' am:L2.T}(h:Kid ks hs sc b j b' am sc')(hn:(sc.map (·.1)).Nodup):(sc'.map (·.1)).Nodup:=by
 have one:∀{x k:Str},x ∉ sc.map (·.1)->((sc++[Prod.mk x k]).map (·.1)).Nodup:=λ{x k} hx=>by
  rw[pz];exact Fs.mpr (hn,by simp,λy q z g e=>hx (by rw[x2,List.map_nil,fy]at g;subst g;rw[<- e];exact q))
 cases h with
 |fc=>exact hn
 |name _ hx=>exact one hx
 |make _ _ hx=>exact one hx
 |call _ hx=>exact one hx
 |case _ _ _ _ _ hl K =>
  rw[pz,Yv ap]
  exact K
theorem Kid.ext{ks:List Kd}{b b' am:L2.T}(h:Kid ks hs sc b j b' am sc'):sc'=sc++sc'.drop sc.length:=by
 cases h <;> simp
theorem Kid.dep{ks:List Kd}{b b' am:L2.T}(h:Kid ks hs sc b j b' am sc')(hd:Dep (N+1) b):Dep N b':=by
 have sub:∀{M:Nat}{xs:List L2.T}{x:L2.T},Dep M (.t xs)->x∈xs->Dep (M-1) x:=λ{M xs x} h hx=>by
  cases M with
  |zero=>obtain⟨_,z⟩|⟨_,z⟩:=h <;> cases z
  |succ M =>
   obtain⟨_,z⟩|⟨_,z⟩|⟨_,z,h⟩:=h
   ·cases z
   ·cases z
   ·cases z;exact h _ hx
 cases h with
 |fc=>exact sub hd ad
 |name=>exact sub hd ad
 |make=>exact sub hd ad
 |call=>exact sub hd ad
 |@case _ _ arms _ ar _ _ _ _ ha =>
  have h1:=sub hd (x:=.t (arms.map tA)) ad
  have h2:=sub h1 (x:=tA ar) (n8.mpr (ar,mu ha,U));have h3:=sub h2 (x:=ar.2.2.1) ad
  exact h3.mono ap
def iN(z:Nat):L2.T:=.i (z:Int)
theorem uU(T:Txt K mg a):bj P w K mg base CX0 5 a.mF a.y9 ["body"] (spQ K Ig):=by
 refine T.tG.F.okQ Eb (λ_ _ _ _ _ _ hr=>?_)
 ·have hu:=bD hr;refine(_,_,((aj (aD (cp U (jZ (Zi (aL (rj T) hr T.pZ (ae (qv 0) ax)))) (N':=["spot"]) (.own U .nil) (cm (g:=(Tg.nm 0)) (λ_ _ _ _ _=>((c9 0),(Zj (aZ T.cj T.dA (qv 0)))))))))),λts Q h=>?_)
  let(ks,hs,d,L,U,e1,e2,hP,hL,hq):=h;have q:=(show cn ks hs 0 [d] L by have:=cn.cons hP (.nil);rwa [rD]at this).ims
  refine(ks,hs,d,L,U,e1,e2,hP,hL,cc (by rw[dN];omega),λi ys=>ys=(L.take i).map (·.b),U,?_,?_)
  ·rintro i y ys hy rfl
   rw[gV]at hy;let(z,V,U):=g5.mp hy;refine(_,U,U,ac,_,U,q z (mu V),?_)
   show _++[z.b]=_;rw[ro,V];simp
  ·rintro ys rfl
   rw[dN,sP];exact hq
inductive yg(ts:List L2.T)(Q:L2.T->Prop):Prop
 |mk(fs:List Fn)(j:Nat)(f:Fn)(h1:ts=[.t (fs.map tF),.s f.1.1])(h2:(fs.map (·.1.1)).Nodup)(h3:(∀f∈fs,f.2.1.im=O))(h4:fs.length<=8)(h5:fs[j]?=Z f)(h6:Q (.i (j:Int)))
theorem rC{α β:Type}{f:α->β}{xs:List α}(h:(xs.map f).Nodup){i:Nat}{x y:α}(hx:xs[i]?=Z x)(g:xs[j]?=Z y)(e:f x=f y):i=j:=by
 have hi:=(iY.mp hx).1;exact(Y4 (hi:) h).mp (by rw[gV,gV,hx,g];exact congrArg Z e)
theorem Bl{fs:List Fn}(h:∀f∈fs,f.2.1.im=O):L2.T.ims (fs.map tF)=true:=j8 λt g=>by
 let(f,hf,U):=n8.mp g;show(O&&(L2.T.ims (f.1.2.1.map tP)&&(O&&(f.2.1.im&&O))))=O;rw[a5 fA,h f hf];rfl
theorem fG(T:Txt K mg a):bj P w K mg base CX0 1 a.gu a.oB ["functions","name"] (spQ K yg):=by
 refine T.fe.F.okQ iB (λ_ _ _ _ _ _ hr=>?_)
 ·have hu:=bD hr;refine(_,_,((ag (bE (g:=(Tg.tp [2,3])) PassesOwn.never U (pJ U T.bz (by kernel_rfl) (ae (qv 0) ax)) (dz (bp 2 iB.nd) (bp 3 iB.nd))
 (aj (aX (bB hu (av (qv 3) ah) (qv 1))
 (aj (aD (Zj (qv 2))))
 aC)))
 (aj (aD cD)))),λts Q h=>?_)
  let(fs,j,f,U,hn,ay,h8,hf,hq):=h;refine(Bl ay,λi q=>(∃o2 o3,q=[.r (.t (fs.map tF)),.r (.s f.1.1),o2,o3])/\i<=j,((_,_,U),FI _),?_,?_)
  ·rintro i x q hx ⟨⟨o2,o3,rfl⟩,ak⟩
   let(y,hy,U):=bX hx;rw[gV]at hy;let(f',ar,U):=g5.mp hy;refine(_,U,_,U,U,aI (λg=>?_) λg=>((_,_,U),?_))
   ·have:=rC hn ar hf (V.str.inj (of_decide_eq_true g))
    subst this;exact(U,hq)
   ·obtain z|rfl:=Nat.lt_or_eq_of_le ak
    ·exact z
    ·rw[hf]at ar;cases ar;exact absurd (decide_eq_true U) g
  ·rintro q ⟨_,ak⟩
   rw[a4,dN]at ak
   have:=(iY.mp hf).1
   omega
inductive Ii(ts:List L2.T)(Q:L2.T->Prop):Prop
 |mk(ks:List Kd)(kd:Kd)(m:Mk1)(h1:ts=[tKs ks,.s m.1])(h2:cI ks)(h3:kd∈ks)(h4:m∈kd.2)(h5:Q (.s kd.1))
theorem gY(T:Txt K mg a):bj P w K mg base CX0 1 a.dE a.jc ["kinds","maker"] (spQ K Ii):=by
 refine T.fw.F.okQ eC (λ_ _ _ _ _ _ hr=>?_)
 ·have hu:=bD hr;refine(_,_,((ag (bE (g:=(Tg.tp [2,3])) PassesOwn.never U (jv (Zj (qv 0))) (dz (bp 2 eC.nd) (bp 3 eC.nd))
 (aj (aX (bV (wB U) qF U (qv 1) (Zi (cp U (kL (qv 3)) (N':=["one"]) (.own U .nil) (cm (g:=(Tg.nm 0)) (λ_ _ _ _ _=>((c9 0),(Zj (av (qv 0) ah))))))))
 (aj (aD (Zj (qv 2))))
 aC)))
 (aj (aD cD)))),λts Q h=>?_)
  let(ks,kd,m,U,gk,aN,hm,hq):=h;let(j,hj,aR):=uj aN;have ak:ks[j]?=Z kd:=by rw[gs hj,aR]
  refine(wR ks,λi q=>(∃o2 o3,q=[.r (tKs ks),.r (.s m.1),o2,o3])/\i<=j,((_,_,U),FI _),?_,?_)
  ·rintro i x q hx ⟨⟨o2,o3,rfl⟩,ay⟩
   rw[gV]at hx;let(k',V,U):=g5.mp hx;refine(_,U,aF (by rw[dN];have:=(gk.ne k' (mu V)).2;omega),λi ys=>ys=((k'.2.take i).map (·.1)).map .s,U,?_,?_)
   ·rintro i' y ys hy rfl
    rw[gV]at hy;let(z,hz,U):=g5.mp hy;refine(_,U,_,U,U,?_);show _++[L2.T.s z.1]=_;rw[ro,hz];simp
   ·rintro ys rfl
    rw[dN,sP];have ar:inT (L2.T.s m.1) ((k'.2.map (·.1)).map L2.T.s)=O ↔ i=j:=by
     rw[dX,pP]
     constructor
     ·intro g;let(m',aM,em):=n8.mp g;exact rV gk.mn V ak aM hm em
     ·rintro rfl
      rw[ak]at V;cases V;exact n8.mpr (m,hm,U)
    refine(by rw[rY];rfl,aI (λg=>?_) λg=>?_)
    ·have e:=ar.mp g;subst e;rw[ak]at V;cases V;exact(U,hq)
    ·have e:i≠j:=λz=>g (ar.mpr z)
     exact((_,_,U),by omega)
  ·rintro q ⟨_,ay⟩
   rw[dN]at ay
   omega
inductive En(ts:List L2.T)(Q:L2.T->Prop):Prop
 |mk(ks:List Kd)(fs:List Fn)(sc sc':Sc)(b b' am:L2.T)(j:Nat)(kt:L2.T)(h1:ts=[.t [tKs ks,.t (fs.map tF)],b,am,kt])(h2:kt.dof=Z (sc.map enP))(h3:Prog ks fs)(h4:Kid ks (fs.map (·.1)) sc b j b' am sc')(h5:(sc.map (·.1)).Nodup)(h6:(∀p∈sc,p.2∈ks.map (·.1)))(h7:Q (.l ((sc'.drop sc.length).map tP)))
theorem oq(T:Txt K mg a):bj P w K mg base CX0 2 a.iR a.sy ["program",Zm,"arm","kinds"] (spQ K En):=by
 refine T.lu.F.okQ jr (λ_ _ _ _ _ _ hr=>?_)
 ·have hu:=bD hr;refine(_,_,((ag (aA 4 jr.nd (Zj (av (qv 1) ah)))
 (ag (aX (bB hu (qv 4) (Zi aH))
 (aj (aD (aP (af (aq (af (Zj (av (qv 1) ah)) (af (aL (gY T) hr T.fw (ae (av (qv 0) ah) (ae (av (qv 1) ah) ax))) ai))) ai))))
 aC)
 (ag (aX (bB hu (qv 4) (Zi aH))
 (aj (aD (aP (af (aq (af (Zj (av (qv 1) ah)) (af (Zj (av (av (av (qv 0) ah) (Zi (aL (fG T) hr T.fe (ae (av (qv 0) ah) (ae (av (qv 1) ah) ax))))) ah)) ai))) ai))))
 aC)
 (ag (aX (bB hu (qv 4) (Zi aH))
 (aj (aD (aP (af (aq (af (Zj (av (qv 1) ah)) (af (Zj (cO (qv 3) (av (qv 1) ah))) ai))) ai))))
 aC)
 (ag (aX (bB hu (qv 4) (Zi aH))
 (ag (aA 5 jr.nd (aV (cE U) dG ba T.ft (by kernel_rfl) (ae (Zi (aL (l7 T) hr T.jU (ae (av (qv 0) ah) (ae (cO (qv 3) (av (qv 1) ah)) ax)))) ax)))
 (aj (aD (Ay U U T.xo U T.Vj (ae (av (qv 2) ah) (ae (cO (qv 5) (av (qv 2) ah)) ax))))))
 aC)
 (aj (aD (aP ai))))))))),λts Q h=>?_)
  let(ks,fs,sc,sc',b,b',am,j,kt,U,ak,q,hK,V,aW,hq):=h;cases hK with
  |@fc w c b hw =>
   have n1:¬ decide ((L2.T.s w).v=(L2.T.s "make").v)=true:=by obtain rfl|rfl:=hw <;> decide +kernel
   have n2:¬ decide ((L2.T.s w).v=(L2.T.s "call").v)=true:=by obtain rfl|rfl:=hw <;> decide +kernel
   have n3:¬ decide ((L2.T.s w).v=(L2.T.s "name").v)=true:=by obtain rfl|rfl:=hw <;> decide +kernel
   have n4:¬ decide ((L2.T.s w).v=(L2.T.s "case").v)=true:=by obtain rfl|rfl:=hw <;> decide +kernel
   refine(_,U,U,U,aI (λz=>absurd z n1) λ_=>(U,aI (λz=>absurd z n2) λ_=>(U,aI (λz=>absurd z n3) λ_=>(U,aI (λz=>absurd z n4) λ_=>?_))))
   rw[X5]at hq;exact hq
  |name hy hx =>
   refine(_,U,U,U,aa ((U,aa ((U,aI (λ_=>?_) λz=>absurd (by decide +kernel) z)))))
   rw[XE]at hq;refine(_,U,U,_,U,?_);simp only[gj,ak];exact(_,wI V hy,U,hq)
  |make g hm hx =>
   refine(_,U,U,U,aI (λ_=>?_) λz=>absurd (by decide +kernel) z)
   rw[XE]at hq;exact(_,U,U,_,U,_,U,ks,_,_,U,q.gk,g,hm,hq)
  |call hh hx =>
   refine(_,U,U,U,aa ((U,aI (λ_=>?_) λz=>absurd (by decide +kernel) z)))
   rw[XE]at hq;let(f,hf,U):=n8.mp hh;let(i,hi,aR):=uj hf;have ay:fs[i]?=Z f:=by rw[gs hi,aR]
   refine(_,U,U,_,U,_,U,_,U,fs,i,f,U,q.hn,λf hf=>(q.sn f hf).1.im,q.l8,ay,?_)
   exact(_,bu (v:=tF f) (by rw[gV,ay];rfl),_,U,U,hq)
  |@case x kd arms _ ar m hx g aM ha hm hl hN =>
   refine(_,U,U,U,aa ((U,aa ((U,aa ((U,aI (λ_=>?_) λz=>absurd (by decide +kernel) z)))))))
   rw[XE]at hq;refine(_,U,_,U,?_);simp only[gj,ak];refine(_,wI V hx,ks,kd.1,U,?_);rw[CH q.gk.nd g];refine(a5 CT _,_,MM kd.2,?_);rw[pX (yy q.gk.mn g)];have em:ar.1=m.1:=by
    have:=congrArg (·[j]?) aM
    simp only[gV,ha,hm]at this;exact Option.some.inj this
   have aN:cw (kd.2.map enM) (.inr ar.1)=Z (.t (m.2.map .s)):=by rw[em];exact md (yy q.gk.mn g) (mu hm)
   refine(_,U,_,U,_,aN,a9 _,a9 _,?_);have ez:Lc (ar.2.1.map L2.T.s) (m.2.map L2.T.s)=(ar.2.1.zip m.2).map tP:=by
    unfold Lc;rw[List.zip_map,u4];rfl
   rw[ez];exact hq
theorem Kid.sk{ks:List Kd}{b b' am:L2.T}(gk:cI ks)(K:∀h∈hs,h.2.2∈ks.map (·.1))(h:Kid ks hs sc b j b' am sc')(hn:∀p∈sc,p.2∈ks.map (·.1)):∀p∈sc',p.2∈ks.map (·.1):=by
 have one:∀{x k:Str},k∈ks.map (·.1)->∀p∈sc++[(x,k)],p.2∈ks.map (·.1):=λ{x k} hk p hp=>by
  obtain z|z:=n6.mp hp
  ·exact hn p z
  ·rw[fy.mp z];exact hk
 cases h with
 |fc=>exact hn
 |name q hx=>exact one (hn _ q)
 |make g _ hx=>exact one (n8.mpr (_,g,U))
 |call h1 hx=>exact one (K _ h1)
 |@case _ kd _ _ _ m _ g _ _ hm hl P =>
  intro p hp;obtain z|z:=n6.mp hp
  ·exact hn p z
  ·exact(gk.fl kd g m (mu hm)).2 _ (Xt z).2
def rtN(f:Fn):Nod:=(f.2.1,.n,.n,[],f.1.2.1)
structure Good(ks:List Kd)(fs:List Fn)(f:Fn)(e:Nod):Prop where
 nd:(e.sc.map (·.1)).Nodup
 sk:∀p∈e.sc,p.2∈ks.map (·.1)
 pt:Pth ks (fs.map (·.1)) f.1.2.1 e.pa e.sc
 dp:∃N,N+e.pa.length=92/\Dep N e.b
 sl:e.sc.length<=4+4*e.pa.length
 pi:∀s∈e.pa,s.2.1.im=O
variable{e:Nod}
theorem Good.lim{ks:List Kd}{fs:List Fn}{f:Fn}(g:Good ks fs f e):e.sc.length<=372:=by
 let(N,h,d):=g.dp
 have:=g.sl
 omega
theorem Kid.len{ks:List Kd}{b b' am:L2.T}(gk:cI ks)(h:Kid ks hs sc b j b' am sc'):sc'.length<=sc.length+4:=by
 cases h with
 |fc=>omega
 |name=>simp
 |make=>simp
 |call=>simp
 |@case _ kd _ _ _ m _ g _ _ hm hl q =>
  have:=(gk.fl kd g m (mu hm)).1
  rw[jR,Xi]
  omega
theorem Kid.tup{ks:List Kd}{hs:List Hd}{sc sc':Sc}{b b' am:L2.T}{j:Nat}(h:Kid ks hs sc b j b' am sc'):¬ Dep 0 b:=by
 rintro(⟨_,z⟩|⟨_,z⟩) <;> cases h <;> cases z
theorem JT:∀{N:Nat}{t:L2.T},Dep N t->t.im=O
 | 0,_,h=>by obtain⟨_,rfl⟩|⟨_,rfl⟩:=h <;> rfl
 |N+1,_,h=>by
  obtain⟨_,rfl⟩|⟨_,rfl⟩|⟨ts,rfl,h⟩:=h
  ·rfl
  ·rfl
  ·exact j8 λt g=>JT (h t g)
theorem CV{ks:List Kd}{fs:List Fn}{f:Fn}(q:Prog ks fs)(hf:f∈fs)(V:cn ks (fs.map (·.1)) 0 [rtN f] L):∀e∈L,Good ks fs f e:=by
 let(p1,p2,p3,p4):=q.pk f hf;refine V.all (R:=Good ks fs f) (λn d j b am sc g hk=>(hk.nd g.nd,hk.sk q.gk (λh Q=>?_) g.sk,g.pt.snoc hk,?_,?_,λs hs=>?_)) _ U λd hd=>?_
 ·let(f',P,U):=n8.mp Q;exact(q.pk f' P).2.2.2
 ·let(N,hN,K):=g.dp;cases N with
  |zero=>exact absurd K hk.tup
  |succ N=>exact(N,by show N+(d.pa++[_]).length=92;rw[jR];simp;omega,hk.dep K)
 ·have:=hk.len q.gk
  have:=g.sl
  show sc.length<=4+4*(d.pa++[_]).length;rw[jR];simp;omega
 ·have hs:s∈d.pa++[(n,d.b,j)]:=hs;obtain z|z:=n6.mp hs
  ·exact g.pi s z
  ·rw[fy.mp z];let(N,_,K):=g.dp;exact JT K
 ·rw[fy.mp hd];exact(p3,p2,.nil,(92,U,q.dp f hf),p1,nofun)
theorem mq:∀sc:Sc,L2.T.imk (sc.map enP)=O
 |[]=>rfl
 |p::r=>by show(O&&L2.T.imk (r.map enP))=O;rw[mq r];rfl
def tPr(ks:List Kd)(fs:List Fn):L2.T:=.t [tKs ks,.t (fs.map tF)]
inductive Mz(ts:List L2.T)(Q:L2.T->Prop):Prop
 |mk (ks:List Kd) (fs:List Fn) (i:Nat) (f:Fn) (L:List Nod) (h1:ts=[tPr ks fs,iN i]) (h2:Prog ks fs) (h3:fs[i]?=Z f) (h4:Pre ks (fs.map (·.1)) 0 (rtN f) L) (h5:L.length<=50000) (h6:∀X:List L2.T,X.map L2.T.dof=L.map (λe=>Z (e.sc.map enP))->Q (.l X))
theorem rn(T:Txt K mg a):bj P w K mg base CX0 5 a.e7 a.ku ["program","f"] (spQ K Mz):=by
 refine T.kA.F.okQ cX (λ_ _ _ _ _ _ hr=>?_)
 ·have hu:=bD hr;refine(_,_,((ag (aA 2 cX.nd (aP ai))
 (ag (aA 3 cX.nd (aL (rj T) hr T.pZ (ae (av (av (av (qv 0) ah) (qv 1)) ah) ax)))
 (ag (bE (g:=(Tg.nm 4)) PassesOwn.never U (Ck (i:=3) (pv 3)) (bp 4 cX.nd)
 (aj (aX (bV nJ jW (bN _) (aZ T.cj T.bI (qv 4)) (Zi cD))
 (aj (bx (i:=2) (pv 2) (pK (aV (cE U) dG ba T.ft (by kernel_rfl) (ae (av (av (av (qv 0) ah) (qv 1)) ah) ax)))))
 (ag (aA 5 cX.nd (aV d6 fC ba T.ft (by kernel_rfl) (ae (av (qv 2) (aZ T.cj T.bI (qv 4))) ax)))
 (ag (Qa (i:=5) U (pv 5) (aL (oq T) hr T.lu (ae (qv 0) (ae (aZ T.cj T.dA (av (qv 3) (aZ T.cj T.bI (qv 4)))) (ae (aZ T.cj T.jB (qv 4)) (ae (qv 5) ax))))))
 (aj (qT (i:=5) (bx (i:=2) (pv 2) (Zj (qv 5))))))))))
 (aj (fF (i:=2) (pv 2))))))),λts Q h=>?_)
  let(ks,fs,i,f,L,U,hP,hf,hR,hL,hq):=h;have aM:cn ks (fs.map (·.1)) 0 [rtN f] L:=by have:=cn.cons hR (.nil);rwa [rD]at this
  have ar:=mu hf;have G:=CV hP ar aM;have ef:atI (fs.map tF) (i:Int)=Z (tF f):=bu (by rw[gV,hf];rfl)
  refine(_,U,_,ef,_,U,ks,fs.map (·.1),rtN f,L,U,U,U,hR,hL,?_);refine(λc q=>∃(X:List L2.T)(o4 o5:Sl),q=[.r (tPr ks fs),.r (iN i),.o (.l X),.r (.l (L.map (spN a.aR))),o4,o5]/\X.map L2.T.dof=(L.take c).map λe=>Z (e.sc.map enP),(_,_,_,U,U),?_,?_)
  ·rintro c y q hy ⟨X,o4,o5,rfl,hX⟩
   rw[gV]at hy;let(e,he,U):=g5.mp hy;have bh:=(iY.mp he).1;have br:X.length=c:=by
    have:=congrArg N9 hX
    rw[dN,dN,sR]at this
    omega
   have ay:X.length<pY:=cc ap
   have fin:∀t:L2.T,t.dof=Z (e.sc.map enP)->(X++[t]).map L2.T.dof=(L.take (c+1)).map λe=>Z (e.sc.map enP):=λt ht=>by
    rw[pz,hX,ro,he];simp[ht]
   refine(_,U,U,ac,_,U,?_)
   obtain⟨j,hj,_⟩|⟨p,V,cs,j,a0,ak,hK,hc⟩:=aM.from _ rfl c e he
   ·have:e=rtN f:=by
     cases j with
     |zero=>cases hj;rfl
     |succ j=>simp at hj
    subst this;refine(ay,_,U,_,ef,_,U,a5 fA _,_,wx _,?_);rw[pX (hP.pk f ar).2.2.1];exact(mq _,λo vs=>(_,_,_,U,fin _ U))
   ·rw[Ks]at hK;let(bg,wU):=hK.ok j _ hc;let(eb,bb,a3,bt,z):=e;obtain rfl:bb=iN p:=congrArg Nod.ab bg;have g':=G V (mu ak);obtain⟨t,aW,aN⟩:∃t,X[p]?=Z t/\t.dof=Z (V.sc.map enP):=by
     have:=congrArg (·[p]?) hX
     simp only[gV,Yo a0,ak]at this;exact g5.mp this
    have a1:atI X (p:Int)=Z t:=bu aW;have a2:atI (L.map (spN a.aR)) (p:Int)=Z (spN a.aR V):=bu (by rw[gV,ak];rfl)
    have em:cZ (V.sc.map enP) ((z.drop V.sc.length).map enP)=z.map enP:=by
     have ex:=wU.ext;have nn:=wU.nd g'.nd;rw[ex]at nn;rw[yB nn,<- ex]
    refine(U,ac,_,U,_,a1,?_)
    simp only[cB,nG,aN];refine(mq _,?_);refine(U,ac,_,U,_,a2,U,ac,_,U,U,ac,_,U,ks,fs,V.sc,z,V.b,eb,a3,j,_,U,U,hP,wU,g'.nd,g'.sk,?_)
    refine(mq _,a5 fA _,_,wx _,?_,?_)
    ·have:=g'.lim
     have:z.length<=V.sc.length+4:=wU.len hP.gk
     simp only[dN,WT];exact vr (cc ap)
    ·rw[em];exact(mq _,λo vs=>(ay,U,_,_,_,U,fin _ U))
  ·rintro q ⟨X,o4,o5,rfl,hX⟩
   rw[dN,sP]at hX;exact hq X hX
def mkE(r:Str):Key×L2.T:=(.inr r,.b O)
theorem pO{rs:List Str}{s:Str}:(cw (rs.map mkE) (.inr s)).isSome=decide (s∈rs):=by
 unfold cw;rw[Xz,List.find?_map];rw[Xz,XR,List.find?_isSome]
 constructor
 ·rintro⟨x,hx,e⟩
  have e:(Sum.inr x:Key)=.inr s:=of_decide_eq_true e;exact decide_eq_true (Sum.inr.inj e▸hx)
 ·intro h;exact(s,of_decide_eq_true h,decide_eq_true U)
theorem Qx{rs:List Str}{s:Str}(h:s ∉ rs):jw (rs.map mkE) (.inr s) (.b O)=(rs++[s]).map mkE:=by
 unfold jw;rw[if_neg]
 ·simp[mkE]
 ·rw[Xs,WX]
  rintro⟨x,hx,e⟩
  have e:(Sum.inr x:Key)=.inr s:=of_decide_eq_true e;exact h (Sum.inr.inj e▸hx)
theorem Jt:∀rs:List Str,L2.T.imk (rs.map mkE)=O
 |[]=>rfl
 |p::r=>by show(O&&L2.T.imk (r.map mkE))=O;rw[Jt r];rfl
theorem mw{α β:Type}{f:α->List β}{n:Nat}:∀xs:List α,(∀x∈xs,(f x).length<=n)->(xs.flatMap f).length<=n*xs.length
 |[],_=>by simp
 |x::r,h=>by
  have h1:=h x lj;have h2:=mw (f:=f) r λy g=>h y (jQ _ g)
  rw[List.flatMap_cons,jR,ri,Nat.mul_succ]
  omega
theorem cI.k8{ks:List Kd}(g:cI ks):(k8 ks).length<=144:=by
 have h:=mw (f:=λk:Kd=>k.2.flatMap (·.2)) (n:=24) ks λk hk=>by
  have h1:=mw (f:=λm:Mk1=>m.2) (n:=4) k.2 λm hm=>(g.fl k hk m hm).1
  have h2:=(g.ne k hk).2
  omega
 have h2:=g.k2;unfold L2.k8
 omega
inductive El(ts:List L2.T)(Q:L2.T->Prop):Prop
 |mk(ks:List Kd)(k:Str)(h1:ts=[tKs ks,.s k])(h2:cI ks)(h3:∀rs:List Str,(∀s,s∈rs ↔ Reach ks k s)->Q (.d (rs.map mkE)))
theorem nM(T:Txt K mg a):bj P w K mg base CX0 2 a.dD a.jb ["kinds","kind"] (spQ K El):=by
 refine T.jh.F.okQ bT (λ_ _ _ _ _ _ hr=>?_)
 ·have hu:=bD hr;refine(_,_,((ag (aA 2 bT.nd (HE (qv 1) (Zi yc)))
 (ag (aA 3 bT.nd (aP (af (Zj (qv 1)) ai)))
 (ag (x6 PassesOwn.never (gR (qv 3))
 (ag (Hs (j:=4) bT.nd U (Or.inl U) (pv 3))
 (aj (bE (g:=(Tg.nm 5)) PassesOwn.never U (jv (aL (l7 T) hr T.jU (ae (qv 0) (ae (qv 4) ax)))) (bp 5 bT.nd)
 (aj (bE (g:=(Tg.nm 6)) PassesOwn.never U (jv (Zj (av (qv 5) ah))) (bp 6 bT.nd)
 (aj (aX (bV (Ez hu) xU U (qv 6) (qv 2))
 (ag (qS (i:=2) hu (pv 2) (qv 6) (Zi yc))
 (aj (bx (i:=3) (pv 3) (Zj (qv 6)))))
 aC))))))))
 (aj (fF (i:=2) (pv 2))))))),λts Q h=>?_)
  let(ks,k,U,gk,hq):=h;have ay:=gk.k8;refine(U,U,λc q=>∃(rs W:List Str)(D:List (Key×L2.T))(X:List L2.T)(o4 o5 V:Sl),q=[.r (tKs ks),.r (.s k),.o (.d D),.o (.l X),o4,o5,V]/\D=rs.map mkE/\X=W.map .s/\RWt ks k rs W/\c=2*un (k8 ks) rs+W.length,(_,[k],[k],_,_,_,_,_,U,U,U,.start,U),?_)
  rintro c q ⟨rs,W,D,X,o4,o5,V,rfl,rfl,rfl,R,rfl⟩
  obtain rfl |⟨W,here,rfl⟩:=YD W
  ·exact hq rs λs=>R.all
  ·rw[List.concat_eq_append]at *;have R0:=R.pop
   generalize hc:2*un (k8 ks) rs+(W++[here]).length=c at R0 ⊢
   refine aI (λ_=>?_) (λz=>absurd ad z)
   refine(λq'=>∃(rs W:List Str)(D:List (Key×L2.T))(X:List L2.T)(o4 o5 V:Sl),q'=[.r (tKs ks),.r (.s k),.o (.d D),.o (.l X),o4,o5,V]/\D=rs.map mkE/\X=W.map .s/\RWt ks k rs W/\2*un (k8 ks) rs+W.length<c,?_,?_)
   ·rintro q' ⟨rs,W,D,X,o4,o5,V,rfl,rfl,rfl,g1,g2⟩
    exact(_,g2,rs,W,_,_,_,_,_,U,U,U,g1,U)
   ·refine(W.map .s,.s here,by simp,a9 _,by decide,ks,here,U,?_)
    refine(λi q=>∃(rs W:List Str)(D:List (Key×L2.T))(X:List L2.T)(o4 o5 V:Sl),q=[.r (tKs ks),.r (.s k),.o (.d D),.o (.l X),o4,o5,V]/\D=rs.map mkE/\X=W.map .s/\RS ks k here (((g6 ks here).take i).flatMap (·.2)) rs W c,(rs,W,_,_,_,_,_,U,U,U,R0),?_,?_)
    ·rintro i y q hy ⟨rs,W,D,X,o4,o5,V,rfl,rfl,rfl,R1⟩
     rw[gV]at hy;let(m,hm,U):=g5.mp hy;refine(_,U,_,U,a9 _,λj q=>∃(rs W:List Str)(D:List (Key×L2.T))(X:List L2.T)(o4 o5 V:Sl),q=[.r (tKs ks),.r (.s k),.o (.d D),.o (.l X),o4,o5,V]/\D=rs.map mkE/\X=W.map .s/\RS ks k here (((g6 ks here).take i).flatMap (·.2)++m.2.take j) rs W c,(rs,W,_,_,_,_,_,U,U,U,by rw[YJ,rD];exact R1),?_,?_)
     ·rintro j y q hy ⟨rs,W,D,X,o4,o5,V,rfl,rfl,rfl,R2⟩
      rw[gV]at hy;let(f,hf,U):=g5.mp hy;have ak:f∈wZ ks here:=W8.mpr (m,mu hm,mu hf);have et:((g6 ks here).take i).flatMap (·.2)++m.2.take (j+1)=(((g6 ks here).take i).flatMap (·.2)++m.2.take j)++[f]:=by
       rw[ro,hf,xx];rfl
      have hsz:=R2.sz;have ar:=R2.sw;refine(_,U,aI (λg=>?_) λg=>?_)
      ·have g:(!(cw (rs.map mkE) (.inr f)).isSome)=true:=g;rw[pO]at g;have hn:f ∉ rs:=λz=>by rw[decide_eq_true z]at g;cases g
       refine(aF (by rw[dN];omega),Jt _,U,?_)
       rw[Qx hn];refine(aF (by rw[dN];omega),U,?_)
       exact(rs++[f],W++[f],_,_,_,_,_,U,U,by simp,by rw[et];exact R2.new hn ak)
      ·have g:¬(!(cw (rs.map mkE) (.inr f)).isSome)=true:=g;rw[pO]at g;have hn:f∈rs:=by
        by_cases z:f∈rs
        ·exact z
        ·rw[decide_eq_false z]at g;exact absurd U g
       exact(rs,W,_,_,_,_,_,U,U,U,by rw[et];exact R2.old hn)
     ·rintro q ⟨rs,W,D,X,o4,o5,V,rfl,rfl,rfl,R2⟩
      rw[dN,sP]at R2;exact(rs,W,_,_,_,_,_,U,U,U,by rw[<- nj (f:=λm:Mk1=>m.2) hm];exact R2)
    ·rintro q ⟨rs,W,D,X,o4,o5,V,rfl,rfl,rfl,R1⟩
     rw[dN,sP]at R1;exact(rs,W,_,_,_,_,_,U,U,U,R1.fin U,R1.m)
inductive Ib(ts:List L2.T)(Q:L2.T->Prop):Prop
 |mk(ks:List Kd)(k:Str)(h1:ts=[tKs ks,.s k])(h2:cI ks)(h3:Q (.t ((ff ks k ks).map .s)))
theorem cI.wl{ks:List Kd}(g:cI ks){k:Str}{xs:List Kd}(h:∀x∈xs,x∈ks):(ff ks k xs).length<=6*xs.length:=by
 refine mw xs λx hx=>?_
 split
 ·rw[dN];exact(g.ne x (h x hx)).2
 ·exact FI _
theorem uS(T:Txt K mg a):bj P w K mg base CX0 3 a.mB a.y4 ["kinds","kind"] (spQ K Ib):=by
 refine T.tu.F.okQ gQ (λ_ _ _ _ _ _ hr=>?_)
 ·have hu:=bD hr;refine(_,_,((ag (aA 2 gQ.nd (aL (nM T) hr T.jh (ae (qv 0) (ae (qv 1) ax))))
 (ag (aA 3 gQ.nd (aP ai))
 (ag (bE (g:=(Tg.tp [4,5])) PassesOwn.never U (jv (Zj (qv 0))) (dz (bp 4 gQ.nd) (bp 5 gQ.nd))
 (aj (aX (bV (Rb hu) xU U (qv 4) (qv 2))
 (aj (c8 (i:=3) (pv 3) (cp U (kL (qv 5)) (N':=["maker"]) (.own U .nil) (cm (g:=(Tg.nm 0)) (λ_ _ _ _ _=>((c9 0),(Zj (av (qv 0) ah))))))))
 aC)))
 (aj (aD (aV (cy U) cq ba T.d7 (by kernel_rfl) (ae (qv 3) ax)))))))),λts Q h=>?_)
  let(ks,k,U,gk,hq):=h;have k6:=gk.k2;refine(ks,k,U,gk,λrs V=>?_)
  refine(wR ks,λi q=>∃(X:List L2.T)(o4 o5:Sl),q=[.r (tKs ks),.r (.s k),.o (.d (rs.map mkE)),.o (.l X),o4,o5]/\X=(ff ks k (ks.take i)).map .s,(_,_,_,U,U),?_,?_)
  ·rintro i y q hy ⟨X,o4,o5,rfl,rfl⟩
   rw[gV]at hy;let(x,hx,U):=g5.mp hy;have hl:=gk.wl (k:=k) (xs:=ks.take i) λy hy=>QL hy
   have ar:(ks.take i).length<=6:=by rw[sR];omega
   have ak:=(gk.ne x (mu hx)).2;refine(_,U,aI (λg=>?_) λg=>?_)
   ·have g:(cw (rs.map mkE) (.inr x.1)).isSome=true:=g;rw[pO]at g;have hR:=(V _).mp (of_decide_eq_true g);refine(aF (by rw[dN];omega),λj ys=>ys=((x.2.take j).map (·.1)).map .s,U,?_,?_)
    ·rintro j z ys hz rfl
     rw[gV]at hz;let(m,hm,U):=g5.mp hz;refine(_,U,_,U,U,?_);show _++[L2.T.s m.1]=_;rw[ro,hm];simp
    ·rintro ys rfl
     rw[dN,sP];refine(?_,?_)
     ·simp only[dN];exact vr (aF ap)
     ·exact(_,_,_,U,by rw[FX hx hR,pz])
   ·have g:¬(cw (rs.map mkE) (.inr x.1)).isSome=true:=g;rw[pO]at g;have hR:¬ Reach ks k x.1:=λz=>g (decide_eq_true ((V _).mpr z))
    exact(_,_,_,U,by rw[Li hx hR])
  ·rintro q ⟨X,o4,o5,rfl,rfl⟩
   rw[dN,sP];exact(a9 _,hq)
inductive Mt(ts:List L2.T)(Q:L2.T->Prop):Prop
 |mk (ks:List Kd) (u:L2.T) (fam:List L2.T) (k:Str) (h1:ts=[.t [tKs ks,u],.t fam,.s k]) (h2:cI ks) (h3:L2.T.ims fam=O) (h4:fam.length<=10) (h5:Q (.l ((ff ks k ks).map λm=>.t (fam++[.s m]))))
theorem jz(T:Txt K mg a):bj P w K mg base CX0 4 a.eZ a.kr ["program","family","kind"] (spQ K Mt):=by
 refine T.cL.F.okQ qI (λ_ _ _ _ _ _ hr=>?_)
 ·have V:=bD hr;refine(_,_,((aj (aD (cp U (kL (Zi (aL (uS T) hr T.tu (ae (av (qv 0) ah) (ae (qv 2) ax))))) (N':=["maker","family"]) (.own U (.got (i:=1) U U (.inl U) .nil)) (cm (g:=(Tg.nm 0)) (λ_ _ _ _ _=>((c9 0),(a8 (qv 1) (Zi (aq (af (Zj (qv 0)) ai))))))))))),λts Q h=>?_)
  let(ks,u,fam,k,U,gk,hi,hl,hq):=h;have z:=gk.k2;have wl:=gk.wl (k:=k) (xs:=ks) λ_ h=>h
  refine(_,U,ks,k,U,gk,aF (by rw[dN];omega),λi ys=>ys=((ff ks k ks).take i).map λm=>.t (fam++[.s m]),U,?_,?_)
  ·rintro i y ys q rfl
   rw[gV]at q;let(m,hm,U):=g5.mp q;refine(_,U,U,bA (by show fam.length+1<=10000;omega),hi,U,?_)
   rw[ro,hm];simp
  ·rintro ys rfl
   rw[dN,sP];exact hq
noncomputable def xO(ks:List Kd)(i n:Nat)(o:Option Str):List L2.T:=match o with
 |some k=>(ff ks k ks).map λm=>.t [.s "piece",iN i,iN n,.s m]
 |none=>[]
noncomputable def dS(ks:List Kd)(i:Nat):Nat->List (Option Str)->List L2.T
 |_,[]=>[]
 |n,o::r=>xO ks i n o++dS ks i (n+1) r
theorem zV{ks:List Kd}{i:Nat}:∀{n:Nat},dS ks i n (os++[o])=dS ks i n os++xO ks i (n+os.length) o:=by
 induction os with
 |nil=>intro n;show _++[]=[]++_;rw[rD];rfl
 |cons p r g=>intro n;show _++dS ks i (n+1) (r++[o])=(_++_)++_;rw[g,xx,ri,show n+1+r.length=n+(r.length+1)by omega]
theorem F9{ks:List Kd}(g:cI ks){i:Nat}:(xO ks i n o).length<=36:=by
 unfold xO
 split
 ·rw[dN]
  have:=g.wl (k:=by assumption) (xs:=ks) λ_ h=>h
  have:=g.k2
  omega
 ·exact FI _
theorem nc{ks:List Kd}(g:cI ks){i:Nat}:∀{n:Nat},(dS ks i n os).length<=36*os.length:=by
 induction os with
 |nil=>intro n;exact FI _
 |cons p r q =>
  intro n;show(xO ks i n p++dS ks i (n+1) r).length<=_;have h1:=F9 g (i:=i) (n:=n) (o:=p);have h2:=q (n:=n+1);rw[jR,ri]
  omega
theorem fV(h:n<=16000000):n<pY:=Xg h ac
structure zA(ks:List Kd)(L:List Nod)(os:List (Option Str)):Prop where
 ln:os.length=L.length
 ok:∀(n:Nat)(e:Nod)(o:Option Str),L[n]?=Z e->os[n]?=Z o->Ask ks e.sc e.b o
inductive QR(ts:List L2.T)(Q:L2.T->Prop):Prop
 |mk(ks:List Kd)(fs:List Fn)(i:Nat)(f:Fn)(L:List Nod)(os:List (Option Str))(h1:ts=[tPr ks fs,iN i])(h2:Prog ks fs)(h3:fs[i]?=Z f)(h4:Pre ks (fs.map (·.1)) 0 (rtN f) L)(h5:L.length<=50000)(h6:zA ks L os)(h7:Q (.l (dS ks i 0 os)))
theorem l6(T:Txt K mg a):bj P w K mg base CX0 6 a.dg a.ic ["program","f"] (spQ K QR):=by
 refine T.ip.F.okQ bJ (λ_ _ _ _ _ _ hr=>?_)
 ·have hu:=bD hr;refine(_,_,((ag (aA 2 bJ.nd (aP ai))
 (ag (aA 3 bJ.nd (aL (rn T) hr T.kA (ae (qv 0) (ae (qv 1) ax))))
 (ag (bE (g:=(Tg.tp [4,5])) PassesOwn.never U (qU T.bz (aL (uU T) hr T.tG (ae (av (av (av (qv 0) ah) (qv 1)) ah) ax))) (dz (bp 4 bJ.nd) (bp 5 bJ.nd))
 (ag (aA 6 bJ.nd (aq (af aH (af (Zj (qv 1)) (af (Zj (qv 4)) ai)))))
 (aj (aX (bB hu (av (qv 5) ah) (Zi aH))
 (aj (c8 (i:=2) (pv 2) (aL (jz T) hr T.cL (ae (qv 0) (ae (qv 6) (ae (Zi (aL (gY T) hr T.fw (ae (av (qv 0) ah) (ae (av (qv 5) ah) ax)))) ax))))))
 (aj (aX (bB hu (av (qv 5) ah) (Zi aH))
 (aj (c8 (i:=2) (pv 2) (aL (jz T) hr T.cL (ae (qv 0) (ae (qv 6) (ae (cO (av (qv 3) (qv 4)) (av (qv 5) ah)) ax))))))
 (aj (aX (bB hu (av (qv 5) ah) (Zi aH))
 (aj (c8 (i:=2) (pv 2) (aL (jz T) hr T.cL (ae (qv 0) (ae (qv 6) (ae (cO (av (qv 3) (qv 4)) (av (qv 5) ah)) ax))))))
 aC))))))))
 (aj (fF (i:=2) (pv 2))))))),λts Q h=>?_)
  let(ks,fs,i,f,L,os,U,V,hf,hR,hL,hA,hq):=h;have br:cn ks (fs.map (·.1)) 0 [rtN f] L:=by have:=cn.cons hR (.nil);rwa [rD]at this
  have bg:=mu hf;have G:=CV V bg br;have ef:atI (fs.map tF) (i:Int)=Z (tF f):=bu (by rw[gV,hf];rfl)
  refine(ks,fs,i,f,L,U,V,hf,hR,hL,λX hX=>?_)
  refine(_,U,_,ef,_,U,ks,fs.map (·.1),rtN f,L,U,U,U,hR,hL,?_);refine(λc q=>∃(F:List L2.T)(o4 o5 o6:Sl),q=[.r (tPr ks fs),.r (iN i),.o (.l F),.o (.l X),o4,o5,o6]/\F=dS ks i 0 (os.take c),(_,_,_,_,U,U),?_,?_)
  ·rintro c y q hy ⟨F,o4,o5,o6,rfl,rfl⟩
   let(z,hz,U):=bX hy;rw[gV]at hz;let(e,he,U):=g5.mp hz;have bh:=(iY.mp he).1;have a3:c<os.length:=by rw[hA.ln];exact bh
   have ho:os[c]?=Z os[c]:=gs a3;obtain⟨o,ho,hk⟩:∃o,os[c]?=Z o/\Ask ks e.sc e.b o:=(_,ho,hA.ok c e _ he ho)
   have g:=G e (mu he);have nx:∀{o:Option Str},os[c]?=Z o->dS ks i 0 (os.take (c+1))=dS ks i 0 (os.take c)++xO ks i c o:=λ{o} h=>by
    rw[ro,h];show dS ks i 0 (os.take c++[o])=_;rw[zV,sR,SM ap,Ks]
   have bt:(dS ks i 0 (os.take c)).length<=36*50000:=by
    have:=nc V.gk (i:=i) (os:=os.take c) (n:=0)
    rw[sR]at this
    have:=hA.ln
    omega
   obtain⟨t,a0,ar⟩:∃t,X[c]?=Z t/\t.dof=Z (e.sc.map enP):=by
    have:=congrArg (·[c]?) hX
    simp only[gV,he]at this;exact g5.mp this
   have a1:atI X (c:Int)=Z t:=bu a0;let(b,ab,am,pa,sc):=e;have hk:Ask ks sc b o:=hk;have ak:∀k,(dS ks i 0 (os.take c)).length+((ff ks k ks).map λm=>L2.T.t ([.s "piece",iN i,iN c]++[.s m])).length<=pY:=λk=>by
    have:=V.gk.wl (k:=k) (xs:=ks) λ_ h=>h
    have:=V.gk.k2
    rw[dN];exact vr (fV ap)
   have non:o=Y->∃(F:List L2.T)(aN aM ay:Sl),[.r (tPr ks fs),.r (iN i),.o (.l (dS ks i 0 (os.take c))),.o (.l X),.r (iN c),.r b,.o (.t [.s "piece",iN i,iN c])]=[.r (tPr ks fs),.r (iN i),.o (.l F),.o (.l X),aN,aM,ay]/\F=dS ks i 0 (os.take (c+1)):=λe=>by
    subst e;exact(_,_,_,_,U,by rw[nx ho];exact(rD _).symm)
   refine(_,U,U,U,?_);cases hk with
   |give=>exact(_,U,U,aa ((_,U,U,aa ((_,U,U,aa (non U))))))
   |@fc w c' b hw =>
    have n1:¬ decide ((L2.T.s w).v=(L2.T.s "make").v)=true:=by obtain rfl|rfl:=hw <;> decide +kernel
    have n2:¬ decide ((L2.T.s w).v=(L2.T.s "name").v)=true:=by obtain rfl|rfl:=hw <;> decide +kernel
    have n3:¬ decide ((L2.T.s w).v=(L2.T.s "case").v)=true:=by obtain rfl|rfl:=hw <;> decide +kernel
    exact(_,U,U,aI (λz=>absurd z n1) λ_=>(_,U,U,aI (λz=>absurd z n2) λ_=>(_,U,U,aI (λz=>absurd z n3) λ_=>non U)))
   |call=>exact(_,U,U,aa ((_,U,U,aa ((_,U,U,aa (non U))))))
   |@make x m kd ns b bb hm =>
    refine(_,U,U,aI (λ_=>?_) λz=>absurd (by decide +kernel) z)
    refine(_,U,_,U,ks,kd,m,U,V.gk,bb,hm,ks,.t (fs.map tF),_,kd.1,U,V.gk,U,(by show 3<=10;decide),ak kd.1,?_)
    exact(_,_,_,_,U,by rw[nx ho];rfl)
   |@name x y k b aR =>
    refine(_,U,U,aa ((_,U,U,aI (λ_=>?_) λz=>absurd (by decide +kernel) z)))
    refine(t,a1,_,U,?_);simp only[gj,ar];refine(_,wI g.nd aR,ks,.t (fs.map tF),_,k,U,V.gk,U,(by show 3<=10;decide),ak k,?_)
    exact(_,_,_,_,U,by rw[nx ho];rfl)
   |@case x k arms aW =>
    refine(_,U,U,aa ((_,U,U,aa ((_,U,U,aI (λ_=>?_) λz=>absurd (by decide +kernel) z)))))
    refine(t,a1,_,U,?_);simp only[gj,ar];refine(_,wI g.nd aW,ks,.t (fs.map tF),_,k,U,V.gk,U,(by show 3<=10;decide),ak k,?_)
    exact(_,_,_,_,U,by rw[nx ho];rfl)
  ·rintro q ⟨F,o4,o5,o6,rfl,rfl⟩
   rw[a4,dN,<- hA.ln,sP];exact hq
noncomputable def my(ks:List Kd)(fam:List L2.T)(k:Str):List L2.T:=(ff ks k ks).map λm=>.t (fam++[.s m])
theorem mx{ks:List Kd}(g:cI ks){fam:List L2.T}{k:Str}:(my ks fam k).length<=36:=by
 unfold my;rw[dN]
 have:=g.wl (k:=k) (xs:=ks) λ_ h=>h
 have:=g.k2
 omega
noncomputable def eB(ks:List Kd)(i:Nat):Nat->Sc->List L2.T
 |_,[]=>[]
 |k,p::r=>my ks [.s "param",iN i,iN k] p.2++eB ks i (k+1) r
theorem xN{ks:List Kd}{i:Nat}{p:Str×Str}:∀{k:Nat},eB ks i k (sc++[p])=eB ks i k sc++my ks [.s "param",iN i,iN (k+sc.length)] p.2:=by
 induction sc with
 |nil=>intro k;show _++[]=[]++_;rw[rD];rfl
 |cons q r g=>intro k;show _++eB ks i (k+1) (r++[p])=(_++_)++_;rw[g,xx,ri,show k+1+r.length=k+(r.length+1)by omega]
theorem kB{ks:List Kd}(g:cI ks){i:Nat}:∀{k:Nat},(eB ks i k sc).length<=36*sc.length:=by
 induction sc with
 |nil=>intro k;exact FI _
 |cons p r q =>
  intro k;show(my ks [.s "param",iN i,iN k] p.2++eB ks i (k+1) r).length<=_;have h1:=mx g (fam:=[.s "param",iN i,iN k]) (k:=p.2);have h2:=q (k:=k+1);rw[jR,ri]
  omega
noncomputable def kC(ks:List Kd)(i:Nat)(f:Fn)(os:List (Option Str)):List L2.T:=eB ks i 0 f.1.2.1++[.t [.s "first",iN i]]++my ks [.s "result",iN i] f.1.2.2++[.t [.s "last",iN i]]++dS ks i 0 os
noncomputable def cW(ks:List Kd):Nat->List (Fn×List (Option Str))->List L2.T
 |_,[]=>[]
 |i,x::r=>kC ks i x.1 x.2++cW ks (i+1) r
theorem zX{ks:List Kd}{x:Fn×List (Option Str)}:∀{i:Nat},cW ks i (xs++[x])=cW ks i xs++kC ks (i+xs.length) x.1 x.2:=by
 induction xs with
 |nil=>intro i;show _++[]=[]++_;rw[rD];rfl
 |cons q r g=>intro i;show _++cW ks (i+1) (r++[x])=(_++_)++_;rw[g,xx,ri,show i+1+r.length=i+(r.length+1)by omega]
structure Unk(ks:List Kd)(fs:List Fn)(xs:List (Fn×List (Option Str))):Prop where
 fn:xs.map (·.1)=fs
 ok:∀x∈xs,∃L,Pre ks (fs.map (·.1)) 0 (rtN x.1) L/\L.length<=50000/\zA ks L x.2
theorem Ga{ks:List Kd}(g:cI ks){i:Nat}{f:Fn}(h4:f.1.2.1.length<=4)(ho:os.length<=50000):(kC ks i f os).length<=1800200:=by
 have h1:=kB g (i:=i) (sc:=f.1.2.1) (k:=0);have h2:=mx g (fam:=[.s "result",iN i]) (k:=f.1.2.2);have h3:=nc g (i:=i) (os:=os) (n:=0);unfold kC;simp only[jR,vb]
 omega
theorem ng{ks:List Kd}(g:cI ks)(h:∀x∈xs,x.1.1.2.1.length<=4/\x.2.length<=50000):∀{i:Nat},(cW ks i xs).length<=1800200*xs.length:=by
 induction xs with
 |nil=>intro i;exact FI _
 |cons x r q =>
  intro i;show(kC ks i x.1 x.2++cW ks (i+1) r).length<=_;have h0:=h x lj;have h1:=Ga g (i:=i) h0.1 h0.2;have h2:=q (λy z=>h y (jQ _ z)) (i:=i+1)
  rw[jR,ri]
  omega
inductive Uc(ts:List L2.T)(Q:L2.T->Prop):Prop
 |mk(ks:List Kd)(fs:List Fn)(xs:List (Fn×List (Option Str)))(h1:ts=[tPr ks fs])(h2:Prog ks fs)(h3:Unk ks fs xs)(h4:Q (.l (cW ks 0 xs)))
theorem jA(T:Txt K mg a):bj P w K mg base CX0 7 a.iP a.sv ["program"] (spQ K Uc):=by
 refine T.i5.F.okQ dJ (λ_ _ _ _ _ _ hr=>?_)
 ·have hu:=bD hr;refine(_,_,((ag (aA 1 dJ.nd (aP ai))
 (ag (bE (g:=(Tg.tp [2,3])) PassesOwn.never U (pJ U T.bz (by kernel_rfl) (ae (av (qv 0) ah) ax)) (dz (bp 2 dJ.nd) (bp 3 dJ.nd))
 (ag (bE (g:=(Tg.tp [4,5])) PassesOwn.never U (pJ U T.bz (by kernel_rfl) (ae (av (qv 3) ah) ax)) (dz (bp 4 dJ.nd) (bp 5 dJ.nd))
 (aj (c8 (i:=1) (pv 1) (aL (jz T) hr T.cL (ae (qv 0) (ae (Zi (aq (af aH (af (Zj (qv 2)) (af (Zj (qv 4)) ai))))) (ae (av (qv 5) ah) ax)))))))
 (ag (bx (i:=1) (pv 1) (aq (af aH (af (Zj (qv 2)) ai))))
 (ag (c8 (i:=1) (pv 1) (aL (jz T) hr T.cL (ae (qv 0) (ae (Zi (aq (af aH (af (Zj (qv 2)) ai)))) (ae (av (qv 3) ah) ax)))))
 (ag (bx (i:=1) (pv 1) (aq (af aH (af (Zj (qv 2)) ai))))
 (aj (c8 (i:=1) (pv 1) (aL (l6 T) hr T.ip (ae (qv 0) (ae (qv 2) ax))))))))))
 (aj (fF (i:=1) (pv 1)))))),λts Q h=>?_)
  let(ks,fs,xs,U,V,hU,hq):=h;have l8:=V.l8;have lx:xs.length=fs.length:=by rw[<- hU.fn,dN]
  have lim:∀x∈xs,x.1.1.2.1.length<=4/\x.2.length<=50000:=λx hx=>by
   let(L,_,h5,hA):=hU.ok x hx
   have:x.1∈fs:=by rw[<- hU.fn];exact n8.mpr (x,hx,U)
   exact((V.pk _ this).1,by rw[hA.ln];exact h5)
  refine(_,U,Bl λf hf=>(V.sn f hf).1.im,λc q=>∃(F:List L2.T)(o2 o3 o4 o5:Sl),q=[.r (tPr ks fs),.o (.l F),o2,o3,o4,o5]/\F=cW ks 0 (xs.take c),(_,_,_,_,_,U,U),?_,?_)
  ·rintro c y q hy ⟨F,o2,o3,o4,o5,rfl,rfl⟩
   let(z,hz,U):=bX hy;rw[gV]at hz;let(f,hf,U):=g5.mp hz;have bb:=(iY.mp hf).1;have ay:=mu hf;let(p1,p2,p3,p4):=V.pk f ay;have ak:xs[c]?=Z xs[c]:=gs ap
   have ex:xs[c].1=f:=by
    have:=congrArg (·[c]?) hU.fn
    simp only[gV,ak,hf]at this;exact Option.some.inj this
   let(L,hR,hL,hA):=hU.ok xs[c] (SR _);rw[ex]at hR;have a0:=ng V.gk (xs:=xs.take c) (λx hx=>lim x (QL hx)) (i:=0)
   have aW:(xs.take c).length<=7:=by rw[sR];omega
   have aR:(cW ks 0 (xs.take c)).length<=12601400:=by omega
   have hp:=kB V.gk (i:=c) (sc:=f.1.2.1) (k:=0);have aN:=mx V.gk (fam:=[.s "result",iN c]) (k:=f.1.2.2);have aM:=nc V.gk (i:=c) (os:=xs[c].2) (n:=0);have bg:=hA.ln;refine(_,U,_,U,a5 fA _,λj q=>∃(F:List L2.T)(o4 o5:Sl),q=[.r (tPr ks fs),.o (.l F),.r (iN c),.r (tF f),o4,o5]/\F=cW ks 0 (xs.take c)++eB ks c 0 (f.1.2.1.take j),(_,_,_,U,(rD _).symm),?_,?_)
   ·rintro j y q hy ⟨F,o4,o5,rfl,rfl⟩
    let(z,hz,U):=bX hy;rw[gV]at hz;let(p,ar,U):=g5.mp hz;have a3:=(iY.mp ar).1;have h1:=kB V.gk (i:=c) (sc:=f.1.2.1.take j) (k:=0);have h2:=mx V.gk (fam:=[.s "param",iN c,iN j]) (k:=p.2);rw[sR]at h1;refine(_,U,U,U,_,U,ks,.t (fs.map tF),_,p.2,U,V.gk,U,(by show 3<=10;decide),?_,?_)
    ·show(cW ks 0 (xs.take c)++eB ks c 0 (f.1.2.1.take j)).length+(my ks [.s "param",iN c,iN j] p.2).length<=pY;rw[jR];exact vr (fV ap)
    ·refine(_,_,_,U,?_);rw[ro,ar];show _++_=_++eB ks c 0 (f.1.2.1.take j++[p]);rw[xN,sR,SM ap,Ks,xx]
     rfl
   ·rintro q ⟨F,o4,o5,rfl,rfl⟩
    rw[a4,dN,sP];refine(fV (by rw[jR];omega),U,?_)
    refine(U,_,U,ks,.t (fs.map tF),_,f.1.2.2,U,V.gk,U,(by show 2<=10;decide),?_,?_)
    ·show _+(my ks [.s "result",iN c] f.1.2.2).length<=pY;simp only[jR,vb];exact vr (fV ap)
    ·refine(?_,U,?_)
     ·show(_++my ks [.s "result",iN c] f.1.2.2).length<pY;simp only[jR,vb];exact fV ap
     ·refine(ks,fs,c,f,L,xs[c].2,U,V,hf,hR,hL,hA,?_,?_)
      ·show(_++my ks [.s "result",iN c] f.1.2.2++_).length+_<=pY;simp only[jR,vb];exact vr (fV ap)
      ·refine(_,_,_,_,_,U,?_);rw[ro,ak];show _=cW ks 0 (xs.take c++[xs[c]]);rw[zX,sR,SM ap,Ks,ex]
       unfold kC;simp only[xx];rfl
  ·rintro q ⟨F,o2,o3,o4,o5,rfl,rfl⟩
   rw[a4,dN,<- lx,sP];exact hq
theorem yw(T:Txt K mg a):bj P w K mg base CX0 1 a.cJ a.k7 [Zp,"row"] (xR a.bg ["row"]):=by
 refine Fun.ok (k:=0) T.i4 xW (λvs H Q E h=>?_) λcdv A outer s H vs Q E hr h=>?_
 ·let(b,ys,U,hl,_):=h;simp[hl]
 ·refine(_,eT (Mq (fn:=fns) (pv 0) (pv 1)),?_);let(b,ys,U,hl,g,k):=h;obtain⟨y,rfl⟩:∃y,ys=[y]:=List.length_eq_one_iff.mp hl
  exact(y,U,.ref b,U,b,a.bg,O,_,_,U,T.c7,CK,JK,.inl (g,λd hd ne=>k d hd ne))
theorem nN(T:Txt K mg a):bj P w K mg base CX0 1 a.dh a.iT [Zp,"f","free","spent","kinds","holdings"] (vN a.aM ["f","free","spent","kinds","holdings"]):=by
 refine Fun.ok (k:=0) T.fL tT (λvs H Q E h=>?_) λcdv A outer s H vs Q E hr h=>?_
 ·let(x,dx,args,U,hl,_):=h;show args.length+1=6;rw[hl];rfl
 ·let(x,dx,args,U,hl,hx,hq):=h;obtain⟨v1,v2,q,v4,g,rfl⟩:∃v1 v2 q v4 g,args=[v1,v2,q,v4,g]:=by
   match args,hl with
   |[v1,v2,q,v4,g],_=>exact(v1,v2,q,v4,g,U)
  refine(_,bC (jx (pv 0) (pv 1) U) (bC (jx (pv 0) (pv 2) U) (bC (jx (pv 0) (pv 3) U) (bC (jx (pv 0) (pv 4) U) (eT (jx (pv 0) (pv 5) U))))),?_);refine(_,U,_,U,x,a.aM,dx,_,U,hx,T.bh,T.dH,(by show 0<1000;decide),?_)
  refine(_,U,_,U,x,a.aM,dx,_,U,au,T.bh,T.eU,(by show 1<1000;decide),?_)
  refine(_,U,_,U,x,a.aM,dx,_,U,au,T.bh,T.dW,(by show 2<1000;decide),?_)
  refine(_,U,_,U,x,a.aM,dx,_,U,au,T.bh,T.cY,(by show 3<1000;decide),?_)
  refine(_,U,_,U,x,a.aM,dx,_,U,au,T.bh,T.cQ,(by show 4<1000;decide),?_)
  rw[gh,gh,gh,gh];exact hq
abbrev Fam:=List Key
def tH1(p:Fam×Int):L2.T:=.t [.t (p.1.map kT),.i p.2]
def tU(p:Str×Fam):L2.T:=.t [.s p.1,.t (p.2.map kT)]
theorem UK(p:Fam×Int):(tH1 p).im=true:=by
 show(L2.T.ims (p.1.map kT)&&O)=O;rw[a5 λk=>by cases k <;> rfl];rfl
def pcF(i n:Nat):Fam:=[.inr "piece",.inl i,.inl n]
def usP(j:Nat):Nat->List Str->List (Str×Fam)
 |_,[]=>[]
 |k,y::r=>(y,[.inr "param",.inl j,.inl k])::usP j (k+1) r
theorem F7:∀{k:Nat},usP j k (ns++[y])=usP j k ns++[(y,[.inr "param",.inl j,.inl ((k+ns.length:Nat):Int)])]:=by
 induction ns with
 |nil=>intro k;rfl
 |cons q r g=>intro k;show _::usP j (k+1) (r++[y])=_::_;rw[g,ri,show k+1+r.length=k+(r.length+1)by omega];rfl
inductive fZ(fs:List Fn)(i n:Nat):L2.T->List (Str×Fam)->List (Fam×Int)->Int->Prop
 |give{x:Str}:fZ fs i n (.t [.s "give",.s x]) [(x,[.inr "result",.inl i])] [([.inr "last",.inl i],-1)] 0
 |pay{c:Int}{b:L2.T}:fZ fs i n (.t [.s "pay",.i c,b]) [] [] c
 |get{c:Int}{b:L2.T}:fZ fs i n (.t [.s "get",.i c,b]) [] [] (-c)
 |name{x y:Str}{b:L2.T}:fZ fs i n (.t [.s "name",.s x,.s y,b]) [(y,pcF i n)] [] 0
 |make {x m:Str} {ns:List Str} {b:L2.T}:ns.length<=4->fZ fs i n (.t [.s "make",.s x,.s m,.t (ns.map .s),b]) (ns.map λy=>(y,pcF i n)) [(pcF i n++[.inr m],-1)] 0
 |call{x:Str}{j:Nat}{f:Fn}{ns:List Str}{b:L2.T}:fs[j]?=Z f->ns.length<=4->fZ fs i n (.t [.s "call",.s x,.s f.1.1,.t (ns.map .s),b]) (usP j 0 ns) [([.inr "first",.inl j],-1)] 0
 |case{x:Str}{arms:List Arm}:fZ fs i n (.t [.s "case",.s x,.t (arms.map tA)]) [(x,pcF i n)] [] 0
inductive QM(ts:List L2.T)(Q:L2.T->Prop):Prop
 |mk(ks:List Kd)(fs:List Fn)(i n:Nat)(b:L2.T)(us:List (Str×Fam))(fr:List (Fam×Int))(sp:Int)(h1:ts=[tPr ks fs,iN i,iN n,b])(h2:Prog ks fs)(h3:fZ fs i n b us fr sp)(h4:Q (.l (us.map tU)))
inductive Mu(ts:List L2.T)(Q:L2.T->Prop):Prop
 |mk(ks:List Kd)(fs:List Fn)(i n:Nat)(b:L2.T)(us:List (Str×Fam))(fr:List (Fam×Int))(sp:Int)(h1:ts=[tPr ks fs,iN i,iN n,b])(h2:Prog ks fs)(h3:fZ fs i n b us fr sp)(h4:Q (.t (fr.map tH1)))
inductive Mw(ts:List L2.T)(Q:L2.T->Prop):Prop
 |mk(fs:List Fn)(i n:Nat)(b:L2.T)(us:List (Str×Fam))(fr:List (Fam×Int))(sp:Int)(h1:ts=[b])(h2:fZ fs i n b us fr sp)(h3:Q (.i sp))
abbrev bG:=List (Fam×Int)
structure Sd where
 fr:bG
 sp:Int
 sc:Sc
 ho:List (Str×bG)
def tHo(h:bG):L2.T:=.t (h.map tH1)
abbrev enH:Str×bG->Key×L2.T:=en (·.1) (λp=>tHo p.2)
inductive IsS(C:J)(i:Nat):L2.T->Sd->Prop
 |mk{d:Sd}{o1 o2:Obj}{v1 v2:List (Key×V)}:IsS C i (.ob C ["f","free","spent","kinds","holdings"] [iN i,tHo d.fr,.i d.sp,.fd o1 v1 (d.sc.map enP),.fd o2 v2 (d.ho.map enH)]) d
def oX(ho:List (Str×bG))(u:Str×Fam):List (Str×bG):=ho.map λp=>if p.1=u.1 then(p.1,p.2++[(u.2,-1)])else p
def Sd.wth(d:Sd)(us:List (Str×Fam))(fr:bG)(sp:Int):Sd:=(d.fr++fr,d.sp+sp,d.sc,us.foldl oX d.ho)
structure SOk(Zg:Nat)(d:Sd):Prop where
 nd:(d.ho.map (·.1)).Nodup
 fl:d.fr.length<=Zg
 hl:∀p∈d.ho,p.2.length<=Zg
 ln:d.ho.length<=1000
theorem Lk:∀{k:Nat},(usP j k ns).length=ns.length:=by
 induction ns with
 |nil=>intro k;rfl
 |cons q r g=>intro k;show(usP j (k+1) r).length+1=_;rw[g];rfl
variable{us:List (Str×Fam)}{fr:bG}
theorem fZ.len{fs:List Fn}{i:Nat}{b:L2.T}(h:fZ fs i n b us fr sp):us.length<=4/\fr.length<=1:=by
 cases h with
 |make h=>exact(by rw[dN];exact h,ot _)
 |call _ h=>exact(by rw[Lk];exact h,ot _)
 |_=>exact(by simp,by simp)
variable{ho:List (Str×bG)}{u:Str×Fam}
theorem FD:(oX ho u).map (·.1)=ho.map (·.1):=by
 unfold oX;rw[u4];exact Xp λp _=>by show(if p.1=u.1 then(p.1,p.2++[(u.2,-1)])else p).1=p.1;split <;> rfl
theorem j9:∀{ho:List (Str×bG)},(us.foldl oX ho).map (·.1)=ho.map (·.1):=by
 induction us with
 |nil=>intro ho;rfl
 |cons u r g=>intro ho;exact g.trans FD
theorem Kh(h:∀p∈ho,p.2.length<=Zg):∀p∈oX ho u,p.2.length<=Zg+1:=λp hp=>by
 let(q,hq,U):=n8.mp hp
 have:=h q hq
 split
 ·show(q.2++[Prod.mk u.2 (-1:Int)]).length<=Zg+1;rw[jR];simpa using this
 ·omega
theorem C0:∀{Zg:Nat}{ho:List (Str×bG)},(∀p∈ho,p.2.length<=Zg)->∀p∈us.foldl oX ho,p.2.length<=Zg+us.length:=by
 induction us with
 |nil=>intro Zg ho h;exact h
 |cons u r g=>intro Zg ho h p hp;have:=g (Kh h) p hp;rw[ri];omega
theorem HU{fam:Fam}{h:bG}(hn:(ho.map (·.1)).Nodup)(hx:(x,h)∈ho):jw (ho.map enH) (.inr x) (tHo (h++[(fam,-1)]))=(oX ho (x,fam)).map enH:=by
 unfold jw oX;rw[if_pos,u4,u4]
 ·refine Xp λp hp=>?_
  show(if(Sum.inr p.1:Key)=.inr x then(Sum.inr p.1,tHo (h++[(fam,-1)]))else enH p)=enH (if p.1=x then(p.1,p.2++[(fam,-1)])else p)
  by_cases e:p.1=x
  ·rw[if_pos (congrArg _ e),if_pos e];let(i,hi,q):=uj hp;let(j,K,g):=uj hx
   have:=rC hn (gs hi) (gs K) (by rw[q,g];exact e)
   subst this;have P:p=(x,h):=q.symm.trans g;rw[P];rfl
  ·rw[if_neg λz=>e (Sum.inr.inj z),if_neg e]
 ·rw[Xs,WX];exact(_,hx,decide_eq_true U)
theorem kW(f:Fam):L2.T.ims (f.map kT)=true:=a5 (λk=>by cases k <;> rfl) f
theorem jI(h:bG):(tHo h).im=true:=a5 UK h
theorem oy:∀ho:List (Str×bG),L2.T.imk (ho.map enH)=O
 |[]=>rfl
 |p::r=>by
  show(L2.T.im (tHo p.2)&&L2.T.imk (r.map enH))=O;rw[oy r,jI];rfl
inductive QK(C:J)(ts:List L2.T)(Q:L2.T->Prop):Prop
 |mk(ks:List Kd)(fs:List Fn)(i n:Nat)(b S:L2.T)(d:Sd)(us:List (Str×Fam))(fr:bG)(sp:Int)(h1:ts=[tPr ks fs,iN n,b,S])(h2:Prog ks fs)(h3:b.im=O)(h4:IsS C i S d)(h5:fZ fs i n b us fr sp)(h6:(∀u∈us,u.1∈d.ho.map (·.1)))(h7:SOk 5000 d)(h8:∀S',IsS C i S' (d.wth us fr sp)->Q S')
def uw(i:Nat):Nat->Sc->List (Str×bG)
 |_,[]=>[]
 |k,p::r=>(p.1,[([.inr "param",.inl i,.inl k],1)])::uw i (k+1) r
theorem Fz{i:Nat}{p:Str×Str}:∀{k:Nat},uw i k (sc++[p])=uw i k sc++[(p.1,[([.inr "param",.inl i,.inl ((k+sc.length:Nat):Int)],1)])]:=by
 induction sc with
 |nil=>intro k;rfl
 |cons q r g=>intro k;show _::uw i (k+1) (r++[p])=_::_;rw[g,ri,show k+1+r.length=k+(r.length+1)by omega];rfl
theorem vp{i:Nat}:∀{k:Nat},(uw i k sc).map (·.1)=sc.map (·.1):=by
 induction sc with
 |nil=>intro k;rfl
 |cons q r g=>intro k;show _ ::(uw i (k+1) r).map (·.1)=_::_;rw[g]
def Kb(i:Nat)(f:Fn):Sd:=([([.inr "first",.inl i],1)],0,f.1.2.1,uw i 0 f.1.2.1)
inductive My(C:J)(ts:List L2.T)(Q:L2.T->Prop):Prop
 |mk(ks:List Kd)(fs:List Fn)(i:Nat)(f:Fn)(h1:ts=[tPr ks fs,iN i])(h2:Prog ks fs)(h3:fs[i]?=Z f)(h4:∀S,IsS C i S (Kb i f)->Q S)
inductive BrR(fs:List Fn)(i n:Nat):L2.T->L2.T->Fam->bG->Prop
 |plain{w:Str}{r:List L2.T}{am:L2.T}:w ≠ "call"->w ≠ "case"->BrR fs i n (.t (.s w::r)) am (pcF i n) []
 |call{x:Str}{j:Nat}{f:Fn}{ns:List Str}{b am:L2.T}:fs[j]?=Z f->BrR fs i n (.t [.s "call",.s x,.s f.1.1,.t (ns.map .s),b]) am [.inr "result",.inl j] [([.inr "last",.inl j],1)]
 |case{x:Str}{arms:List Arm}{ar:Arm}:BrR fs i n (.t [.s "case",.s x,.t (arms.map tA)]) (tA ar) (pcF i n) [(pcF i n++[.inr ar.1],1)]
def Sd.bhd(d:Sd)(fam:Fam)(fr:bG)(sc':Sc):Sd:=(d.fr++fr,d.sp,sc',d.ho++(sc'.drop d.sc.length).map λp=>(Prod.mk p.1 [(fam,1)]))
inductive Ij(C:J)(ts:List L2.T)(Q:L2.T->Prop):Prop
 |mk(ks:List Kd)(fs:List Fn)(i n j:Nat)(b b' am S:L2.T)(d:Sd)(sc':Sc)(fam:Fam)(fr:bG)(h1:ts=[tPr ks fs,iN n,b,am,S])(h2:Prog ks fs)(h3:IsS C i S d)(h4:Kid ks (fs.map (·.1)) d.sc b j b' am sc')(h5:BrR fs i n b am fam fr)(h6:(d.sc.map (·.1)).Nodup)(h7:(∀p∈d.sc,p.2∈ks.map (·.1)))(h8:d.ho.map (·.1)=d.sc.map (·.1))(h9:d.sc.length<=900)(h10:d.fr.length<=5000)(h11:∀S',IsS C i S' (d.bhd fam fr sc')->Q S')
theorem yu(T:Txt K mg a):bj P w K mg base CX0 1 a.iQ a.sx [Zm] (spQ K Mw):=by
 refine T.tE.F.okQ xX (λ_ _ _ _ _ _ hr=>?_)
 ·have g:=bD hr;refine(_,_,((ag (aX (bB g (av (qv 0) ah) (Zi aH))
 (aj (aD (Zj (av (qv 0) ah))))
 aC)
 (ag (aX (bB g (av (qv 0) ah) (Zi aH))
 (aj (aD (nE (av (qv 0) ah))))
 aC)
 (aj (aD bw))))),λts Q h=>?_)
  let(fs,i,n,b,us,fr,sp,U,q,hq):=h;cases q with
  |pay=>exact(_,U,U,aI (λ_=>(_,U,U,hq)) λz=>absurd (by decide +kernel) z)
  |get=>exact(_,U,U,aa ((_,U,U,aI (λ_=>(_,U,hq)) λz=>absurd (by decide +kernel) z)))
  |_=>exact(_,U,U,aa ((_,U,U,aa (hq))))
theorem t7(T:Txt K mg a):bj P w K mg base CX0 2 a.fJ a.mJ ["program","f","n",Zm] (spQ K Mu):=by
 refine T.m5.F.okQ tS (λ_ _ _ _ _ _ hr=>?_)
 ·have g:=bD hr;refine(_,_,((ag (aX (bB g (av (qv 3) ah) (Zi aH))
 (aj (aD (aq (af (aq (af (aq (af aH (af (Zj (qv 1)) (af (Zj (qv 2)) (af (Zj (av (qv 3) ah)) ai))))) (af (nE ah) ai))) ai))))
 aC)
 (ag (aX (bB g (av (qv 3) ah) (Zi aH))
 (aj (aD (aq (af (aq (af (aq (af aH (af (aL (fG T) hr T.fe (ae (av (qv 0) ah) (ae (av (qv 3) ah) ax))) ai))) (af (nE ah) ai))) ai))))
 aC)
 (ag (aX (bB g (av (qv 3) ah) (Zi aH))
 (aj (aD (aq (af (aq (af (aq (af aH (af (Zj (qv 1)) ai))) (af (nE ah) ai))) ai))))
 aC)
 (aj (aD (aq ai))))))),λts Q h=>?_)
  let(ks,fs,i,n,b,us,fr,sp,U,q,hU,hq):=h;cases hU with
  |make=>exact(_,U,U,aI (λ_=>(U,U,_,U,U,hq)) λz=>absurd (by decide +kernel) z)
  |@call x j f ns b V =>
   refine(_,U,U,aa ((_,U,U,aI (λ_=>?_) λz=>absurd (by decide +kernel) z)))
   exact(_,U,_,U,fs,j,f,U,q.hn,λf hf=>(q.sn f hf).1.im,q.l8,V,hq)
  |give=>exact(_,U,U,aa ((_,U,U,aa ((_,U,U,aI (λ_=>(U,hq)) λz=>absurd (by decide +kernel) z)))))
  |_=>exact(_,U,U,aa ((_,U,U,aa ((_,U,U,aa (hq))))))
theorem M0(T:Txt K mg a):bj P w K mg base CX0 2 a.w5 a.JV ["program","f","n",Zm] (spQ K QM):=by
 refine T.KH.F.okQ vU (λ_ _ _ _ _ _ hr=>?_)
 ·have V:=bD hr;refine(_,_,((ag (aA 4 vU.nd (Zj (av (qv 3) ah)))
 (ag (aX (bB V (qv 4) (Zi aH))
 (aj (aD (cp U (kL (av (qv 3) ah)) (N':=["name","f","n"]) (.own U (.got (i:=1) U U (.inl U) (.got (i:=2) U U (.inl U) .nil))) (cm (g:=(Tg.nm 0)) (λ_ _ _ _ _=>((c9 0),(aq (af (Zj (qv 0)) (af (aq (af aH (af (Zj (qv 1)) (af (Zj (qv 2)) ai)))) ai)))))))))
 aC)
 (ag (aX (bB V (qv 4) (Zi aH))
 (ag (aA 5 vU.nd (aL (fG T) hr T.fe (ae (av (qv 0) ah) (ae (av (qv 3) ah) ax))))
 (aj (aD (cp U (we U T.bz (by kernel_rfl) (ae (av (qv 3) ah) ax)) (N':=["k","name","g"]) (.own U (.own U (.got (i:=5) U U (.inl U) .nil))) (cm (g:=(Tg.tp [0,1])) (λ_ _ _ _ _=>((dz (c9 0) (c9 1)),(aq (af (Zj (qv 1)) (af (aq (af aH (af (Zj (qv 2)) (af (Zj (qv 0)) ai)))) ai))))))))))
 aC)
 (ag (aX (bB V (qv 4) (Zi aH))
 (aj (aD (aP (af (aq (af (Zj (av (qv 3) ah)) (af (aq (af aH (af (Zj (qv 1)) (af (Zj (qv 2)) ai)))) ai))) ai))))
 aC)
 (ag (aX (bB V (qv 4) (Zi aH))
 (aj (aD (aP (af (aq (af (Zj (av (qv 3) ah)) (af (aq (af aH (af (Zj (qv 1)) (af (Zj (qv 2)) ai)))) ai))) ai))))
 aC)
 (ag (aX (bB V (qv 4) (Zi aH))
 (aj (aD (aP (af (aq (af (Zj (av (qv 3) ah)) (af (aq (af aH (af (Zj (qv 1)) ai))) ai))) ai))))
 aC)
 (aj (aD (aP ai)))))))))),λts Q h=>?_)
  let(ks,fs,i,n,b,us,fr,sp,U,hP,hU,hq):=h;cases hU with
  |@make x m ns b hl =>
   refine(_,U,U,U,aI (λ_=>?_) λz=>absurd (by decide +kernel) z)
   refine(_,U,aF (by rw[dN];omega),λc ys=>ys=((ns.take c).map λy=>(y,pcF i n)).map tU,U,?_,?_)
   ·rintro c y ys hy rfl
    rw[gV]at hy;let(z,hz,U):=g5.mp hy;refine(_,U,U,U,U,?_);rw[ro,hz,pz,pz];rfl
   ·rintro ys rfl
    rw[dN,sP];exact hq
  |@call x j f ns b hj hl =>
   refine(_,U,U,U,aa ((U,aI (λ_=>?_) λz=>absurd (by decide +kernel) z)))
   refine(_,U,_,U,fs,j,f,U,hP.hn,λf hf=>(hP.sn f hf).1.im,hP.l8,hj,?_)
   refine(_,U,aF (by rw[a4,dN];omega),λc ys=>ys=(usP j 0 (ns.take c)).map tU,U,?_,?_)
   ·rintro c y ys hy rfl
    let(z,q,U):=bX hy;rw[gV]at q;let(z,hz,U):=g5.mp q;have ak:=(iY.mp hz).1;refine(_,U,U,U,U,?_);rw[ro,hz];show _++_=(usP j 0 (ns.take c++[z])).map tU;rw[F7,pz,sR,SM ap,Ks]
    rfl
   ·rintro ys rfl
    rw[a4,dN,sP];exact hq
  |name=>exact(_,U,U,U,aa ((U,aa ((U,aI (λ_=>(_,U,U,U,U,hq)) λz=>absurd (by decide +kernel) z)))))
  |case=>exact(_,U,U,U,aa ((U,aa ((U,aa ((U,aI (λ_=>(_,U,U,U,U,hq)) λz=>absurd (by decide +kernel) z)))))))
  |give=>exact(_,U,U,U,aa ((U,aa ((U,aa ((U,aa ((U,aI (λ_=>(_,U,U,U,hq)) λz=>absurd (by decide +kernel) z)))))))))
  |_=>exact(_,U,U,U,aa ((U,aa ((U,aa ((U,aa ((U,aa (hq))))))))))
theorem ko(T:Txt K mg a):bj P w K mg base CX0 3 a.fK a.mK ["program","n",Zm,"stand"] (spQ K (QK a.aM)):=by
 refine T.i6.F.okQ dw (λ_ _ _ _ _ _ hr=>?_)
 ·have hu:=bD hr;refine(_,_,((ag (aA 4 dw.nd (aV d6 fC ba T.ft (by kernel_rfl) (ae (aZ T.bh T.cQ (qv 3)) ax)))
 (ag (bE (g:=(Tg.tp [5,6])) PassesOwn.never U (Cm (aL (M0 T) hr T.KH (ae (qv 0) (ae (aZ T.bh T.dH (qv 3)) (ae (qv 1) (ae (qv 2) ax)))))) (dz (bp 5 dw.nd) (bp 6 dw.nd))
 (aj (qS (i:=4) hu (pv 4) (qv 5) (Zi (a8 (cO (qv 4) (qv 5)) (Zi (aq (af (aq (af (Zj (qv 6)) (af (nE ah) ai))) ai))))))))
 (ag (aA 7 dw.nd (a8 (aZ T.bh T.eU (qv 3)) (Zi (aL (t7 T) hr T.m5 (ae (qv 0) (ae (aZ T.bh T.dH (qv 3)) (ae (qv 1) (ae (qv 2) ax))))))))
 (aj (qT (i:=4) (aD (gT U T.rF (nN T) (hr.mono ap) U T.rE T.iU (ae (aZ T.bh T.dH (qv 3)) (ae (qv 7) (ae (Zi (a8 (aZ T.bh T.dW (qv 3)) (Zi (aL (yu T) hr T.tE (ae (qv 2) ax))))) (ae (aZ T.bh T.cY (qv 3)) (ae (qv 4) ax))))))))))))),λts Q h=>?_)
  let(ks,fs,i,n,b,S,d,us,fr,sp,U,hP,hb,hS,V,hx,hk,hq):=h;let(l1,l2):=V.len;cases hS with
  |@mk _ o1 o2 v1 v2 =>
   refine(U,ac,_,U,oy _,?_)
   refine(U,ac,_,U,ks,fs,i,n,b,us,fr,sp,U,hP,V,?_)
   refine(λc q=>∃(o5 o6 o7:Sl)(D:List (Key×L2.T)),q=[.r (tPr ks fs),.r (iN n),.r b,.r (.ob a.aM ["f","free","spent","kinds","holdings"] [iN i,tHo d.fr,.i d.sp,.fd o1 v1 (d.sc.map enP),.fd o2 v2 (d.ho.map enH)]),.o (.d D),o5,o6,o7]/\D=((us.take c).foldl oX d.ho).map enH,(_,_,_,_,U,U),?_,?_)
   ·rintro c y q hy ⟨o5,o6,o7,D,rfl,rfl⟩
    rw[gV]at hy;let((x,fam),hz,U):=g5.mp hy;have hm:=mu hz;have z:=hx _ hm;rw[<- j9 (us:=us.take c)]at z;let((x',h),hp,U):=n8.mp z;have hn:(((us.take c).foldl oX d.ho).map (·.1)).Nodup:=by rw[j9];exact hk.nd
    have hl:=C0 (us:=us.take c) hk.hl _ hp;have aR:((us.take c).foldl oX d.ho).length=d.ho.length:=(congrArg N9 (j9 (us:=us.take c) (ho:=d.ho)):)
    have aN:=hk.ln;rw[sR]at hl;have hl:h.length<=5000+min c us.length:=hl;have ay:=md (f:=λp:Str×bG=>p.1) (g:=λp=>tHo p.2) hn hp
    refine(_,U,?_);simp only[gj,L2.T.dof];refine(_,ay,kW fam,?_);refine(?_,jI _,?_,aF (by rw[dN,aR];exact aN),oy _,?_,?_)
    ·show(h.map tH1).length+1<=pY;rw[dN];exact vr (cc ap)
    ·show((L2.T.ims (fam.map kT)&&O)&&O)=O;rw[kW];rfl
    ·show L2.T.ims (h.map tH1++[tH1 (fam,-1)])=O;rw[show h.map tH1++[tH1 (fam,-1)]=(h++[Prod.mk fam (-1)]).map tH1 by rw[pz];rfl]
     exact jI _
    ·refine(_,_,_,_,U,?_)
     have:=HU (fam:=fam) hn hp
     unfold tHo at this;rw[pz]at this;refine Eq.trans this ?_;rw[ro,hz,Ym];rfl
   ·rintro q ⟨o5,o6,o7,D,rfl,rfl⟩
    rw[dN,sP];refine(U,ac,_,U,U,ac,_,U,ks,fs,i,n,b,us,fr,sp,U,hP,V,?_)
    refine(?_,jI _,jI _,oy _,λar ak=>?_)
    ·show(d.fr.map tH1).length+(fr.map tH1).length<=pY
     have:=hk.fl
     rw[dN,dN];exact vr (cc ap)
    ·refine(U,ac,_,U,U,ac,_,U,fs,i,n,b,us,fr,sp,U,V,U,ac,_,U,?_,U,?_)
     ·show(L2.T.ims (d.fr.map tH1++fr.map tH1)&&O)=O;rw[<- pz];rw[show L2.T.ims ((d.fr++fr).map tH1)=O from jI _];rfl
     ·refine hq _ ?_
      have:=IsS.mk (C:=a.aM) (i:=i) (d:=d.wth us fr sp) (o1:=o1) (o2:=ar) (v1:=v1) (v2:=ak)
      unfold tHo Sd.wth at this;rw[pz]at this;exact this
theorem l5(T:Txt K mg a):bj P w K mg base CX0 3 a.df a.ib ["program","f"] (spQ K (My a.aM)):=by
 refine T.il.F.okQ dU (λ_ _ _ _ _ _ hr=>?_)
 ·have hu:=bD hr;refine(_,_,((ag (aA 2 dU.nd (Zj (av (av (av (qv 0) ah) (qv 1)) ah)))
 (ag (gi (i:=3) dU.nd U (Or.inl U) U (we U T.bz (by kernel_rfl) (ae (qv 2) ax)) (N':=["k","param","f"]) (.own U (.own U (.got (i:=1) U U (.inl U) .nil))) (cm (g:=(Tg.tp [0,1])) (λ_ _ _ _ _=>((dz (c9 0) (c9 1)),(aq (af (Zj (av (qv 1) ah)) (af (aq (af (aq (af (aq (af aH (af (Zj (qv 2)) (af (Zj (qv 0)) ai)))) (af bw ai))) ai)) ai)))))))
 (aj (aD (gT U T.rF (nN T) (hr.mono ap) U T.rE T.iU (ae (qv 1) (ae (Zi (aq (af (aq (af (aq (af aH (af (Zj (qv 1)) ai))) (af bw ai))) ai))) (ae ah (ae (Zi (pK (aV (cE U) dG ba T.ft (by kernel_rfl) (ae (qv 2) ax)))) (ae (Zi (pK (aV (cE U) dG ba T.ft (by kernel_rfl) (ae (qv 3) ax)))) ax))))))))))),λts Q h=>?_)
  let(ks,fs,i,f,U,hP,hf,hq):=h;have V:=mu hf;let(p1,p2,p3,p4):=hP.pk f V;have ef:atI (fs.map tF) (i:Int)=Z (tF f):=bu (by rw[gV,hf];rfl)
  refine(_,U,_,ef,_,U,?_);refine(a5 fA _,aF (by rw[a4,dN];omega),λc ys=>ys=(uw i 0 (f.1.2.1.take c)).map λp=>L2.T.t [.s p.1,tHo p.2],U,?_,?_)
  ·rintro c y ys hy rfl
   let(z,q,U):=bX hy;rw[gV]at q;let(z,hz,U):=g5.mp q;have ak:=(iY.mp hz).1;refine(_,U,_,U,U,U,U,?_);rw[ro,hz];show _++_=(uw i 0 (f.1.2.1.take c++[z])).map _;rw[Fz,pz,sR,SM ap,Ks]
   rfl
  ·rintro ys rfl
   rw[a4,dN,sP];refine(U,a5 fA _,_,wx _,?_);rw[pX p3];refine(mq _,λo1 v1=>?_)
   refine(a5 (λp=>by show(O&&(L2.T.im (tHo p.2)&&O))=O;rw[jI];rfl) _,_,lZ (f:=λp:Str×bG=>p.1) (g:=λp=>tHo p.2) _,?_)
   rw[pX (by rw[vp];exact p3)]
   exact(oy _,λo2 v2=>(U,U,hq _ (IsS.mk (d:=Kb i f))))
theorem Qv{r:Sc}{p:Str×Str}(h:((sc++[p]).map (·.1)).Nodup):jw (sc.map enP) (.inr p.1) (.s p.2)=(sc++[p]).map enP:=by
 unfold jw;rw[if_neg,pz]
 ·rfl
 ·rw[Xs,WX]
  rintro⟨q,hq,e⟩
  have e:(Sum.inr q.1:Key)=.inr p.1:=of_decide_eq_true e;rw[pz,Fs]at h;exact h.2.2 _ (n8.mpr (q,hq,U)) _ (n8.mpr (p,fy.mpr U,U)) (Sum.inr.inj e)
theorem Qw{h:bG}(hx:x ∉ ho.map (·.1)):jw (ho.map enH) (.inr x) (tHo h)=(ho++[Prod.mk x h]).map enH:=by
 unfold jw;rw[if_neg,pz]
 ·rfl
 ·rw[Xs,WX]
  rintro⟨q,hq,e⟩
  have e:(Sum.inr q.1:Key)=.inr x:=of_decide_eq_true e;exact hx (n8.mpr (q,hq,Sum.inr.inj e))
theorem Vi{ks:List Kd}{fs:List Fn}{i:Nat}{b am S:L2.T}{f0:bG}{fam:Fam}{D:dm}(g:Prog ks fs)(hB:BrR fs i n b am fam fr)(hl:f0.length<=5000)
  (k:∀o7:Sl,D.nx [.r (tPr ks fs),.r (iN n),.r b,.r am,.r S,.o (.t (fam.map kT)),.o (tHo (f0++fr)),o7,.no,.no,.no,.no]):
  Ei (lO (qOp Ej (qOp qIx (aT 2) (qC (.i 0))) (qC (.s "call"))))
   (nF (oN 7 (fb yg (aE (qOp qIx (aT 0) (qC (.i 1))) (aE (qOp qIx (aT 2) (qC (.i 2))) cB))))
    (nF (oN 5 (kN (aE (qC (.s "result")) (aE (qIm (aT 7)) cB))))
     (oN 6 (qOp kh (aT 6) (kN (aE (kN (aE (kN (aE (qC (.s "last")) (aE (qIm (aT 7)) cB))) (aE (qC (.i 1)) cB))) cB))))))
   (Ei (lO (qOp Ej (qOp qIx (aT 2) (qC (.i 0))) (qC (.s "case"))))
    (oN 6 (qOp kh (aT 6) (kN (aE (kN (aE (qOp kh (aT 5) (kN (aE (qIm (qOp qIx (aT 3) (qC (.i 0)))) cB))) (aE (qC (.i 1)) cB))) cB))))
    uO) D [.r (tPr ks fs),.r (iN n),.r b,.r am,.r S,.o (.t ((pcF i n).map kT)),.o (tHo f0),.no,.no,.no,.no,.no]:=by
 have q:(f0.map tH1).length+1<=pY:=by rw[dN];exact vr (cc ap)
 cases hB with
 |@plain w r _ Q P =>
  have n1:¬ decide ((L2.T.s w).v=(L2.T.s "call").v)=true:=λz=>Q (V.str.inj (of_decide_eq_true z))
  have n2:¬ decide ((L2.T.s w).v=(L2.T.s "case").v)=true:=λz=>P (V.str.inj (of_decide_eq_true z))
  have K:atI (L2.T.s w::r) 0=Z (L2.T.s w):=bu (j:=0) U;refine(_,K,U,aI (λz=>absurd z n1) λ_=>(_,K,U,aI (λz=>absurd z n2) λ_=>?_))
  have:=k .no
  rw[rD]at this;exact this
 |@call x j f ns b _ hj =>
  refine(_,U,U,aI (λ_=>?_) λz=>absurd (by decide +kernel) z)
  refine(_,U,_,U,fs,j,f,U,g.hn,λf hf=>(g.sn f hf).1.im,g.l8,hj,U,U,?_)
  refine(q,jI _,U,?_)
  have:=k (.o (.i j))
  unfold tHo at this;rw[pz]at this;exact this
 |@case x arms ar =>
  refine(_,U,U,aa ((_,U,U,aI (λ_=>?_) λz=>absurd (by decide +kernel) z)))
  refine(_,U,U,(by show 3+1<=pY;decide),U,U,q,jI _,U,?_)
  have:=k .no
  unfold tHo at this;rw[pz]at this;exact this
theorem oO(T:Txt K mg a):bj P w K mg base CX0 3 a.d5 a.jL ["program","n",Zm,"arm","stand"] (spQ K (Ij a.aM)):=by
 refine T.jT.F.okQ a7 (λ_ _ _ _ _ _ hr=>?_)
 ·have hu:=bD hr;refine(_,_,((ag (aA 5 a7.nd (aq (af aH (af (Zj (aZ T.bh T.dH (qv 4))) (af (Zj (qv 1)) ai)))))
 (ag (aA 6 a7.nd (Zj (aZ T.bh T.eU (qv 4))))
 (ag (aX (bB hu (av (qv 2) ah) (Zi aH))
 (ag (aA 7 a7.nd (aL (fG T) hr T.fe (ae (av (qv 0) ah) (ae (av (qv 2) ah) ax))))
 (ag (aA 5 a7.nd (aq (af aH (af (Zj (qv 7)) ai))))
 (aj (aA 6 a7.nd (a8 (qv 6) (Zi (aq (af (aq (af (aq (af aH (af (Zj (qv 7)) ai))) (af bw ai))) ai))))))))
 (aj (aX (bB hu (av (qv 2) ah) (Zi aH))
 (aj (aA 6 a7.nd (a8 (qv 6) (Zi (aq (af (aq (af (a8 (qv 5) (Zi (aq (af (Zj (av (qv 3) ah)) ai)))) (af bw ai))) ai))))))
 aC)))
 (ag (aA 8 a7.nd (aV d6 fC ba T.ft (by kernel_rfl) (ae (aZ T.bh T.cY (qv 4)) ax)))
 (ag (aA 9 a7.nd (aV d6 fC ba T.ft (by kernel_rfl) (ae (aZ T.bh T.cQ (qv 4)) ax)))
 (ag (bE (g:=(Tg.tp [10,11])) PassesOwn.never U (Cm (aL (oq T) hr T.lu (ae (qv 0) (ae (qv 2) (ae (qv 3) (ae (aZ T.bh T.cY (qv 4)) ax)))))) (dz (bp 10 a7.nd) (bp 11 a7.nd))
 (ag (qS (i:=8) hu (pv 8) (qv 10) (qv 11))
 (aj (qS (i:=9) hu (pv 9) (qv 10) (Zi (aq (af (aq (af (Zj (qv 5)) (af bw ai))) ai)))))))
 (aj (qT (i:=9) (qT (i:=8) (aD (gT U T.rF (nN T) (hr.mono ap) U T.rE T.iU (ae (aZ T.bh T.dH (qv 4)) (ae (qv 6) (ae (aZ T.bh T.dW (qv 4)) (ae (qv 8) (ae (qv 9) ax))))))))))))))))),λts Q h=>?_)
  let(ks,fs,i,n,j,b,b',am,S,d,sc',fam,fr,U,hP,hS,hK,hB,ar,aN,ay,br,aR,hq):=h;have ex:=hK.ext;have nn:=hK.nd ar;have hlen:=hK.len hP.gk;cases hS with
  |@mk _ o1 o2 v1 v2 =>
  have bg:∀g:Fam,L2.T.ims (g.map kT)=true:=kW
  refine(U,ac,_,U,U,U,U,ac,_,U,?_)
  refine(jI _,Vi hP hB aR λo7=>?_)
  refine(U,ac,_,U,mq _,U,ac,_,U,oy _,?_)
  refine(U,ac,_,U,ks,fs,d.sc,sc',b,b',am,j,_,U,U,hP,hK,ar,aN,?_)
  have bz:(sc'.drop d.sc.length).length<=4:=by rw[WT];omega
  refine(λc q=>∃(ak V:Sl)(A Zg:List (Key×L2.T)),q=[.r (tPr ks fs),.r (iN n),.r b,.r am,.r (.ob a.aM ["f","free","spent","kinds","holdings"] [iN i,tHo d.fr,.i d.sp,.fd o1 v1 (d.sc.map enP),.fd o2 v2 (d.ho.map enH)]),.o (.t (fam.map kT)),.o (tHo (d.fr++fr)),o7,.o (.d A),.o (.d Zg),ak,V]/\A=(d.sc++(sc'.drop d.sc.length).take c).map enP/\Zg=(d.ho++((sc'.drop d.sc.length).take c).map λp:Str×Str=>Prod.mk p.1 [Prod.mk fam (1:Int)]).map enH,(_,_,_,_,U,by simp,by simp),?_,?_)
  ·rintro c y q hy ⟨ak,V,A,Zg,rfl,rfl,rfl⟩
   rw[gV]at hy;let(p,hz,U):=g5.mp hy;have bI:=(iY.mp hz).1;have et:(sc'.drop d.sc.length).take (c+1)=(sc'.drop d.sc.length).take c++[p]:=by rw[ro,hz];rfl
   have n2:((d.sc++(sc'.drop d.sc.length).take c++[p]).map (·.1)).Nodup:=by
    rw[xx,<- et];rw[ex]at nn;refine List.Nodup.sublist (List.Sublist.map _ (List.Sublist.append_left (W9 _ _) _)) nn
   have n3:p.1 ∉ (d.ho++((sc'.drop d.sc.length).take c).map λp=>(Prod.mk p.1 [Prod.mk fam (1:Int)])).map (·.1):=by
    rw[pz,ay,u4]
    have:=n2
    rw[pz,pz,Fs]at this;intro z;exact this.2.2 _ z _ (n8.mpr (p,fy.mpr U,U)) U
   have bt:d.ho.length=d.sc.length:=(congrArg N9 ay:)
   have tl:((sc'.drop d.sc.length).take c).length<=4:=by rw[sR];omega
   refine(_,U,?_);refine(aF (by rw[dN,jR];omega),mq _,U,?_)
   rw[show L2.T.s p.2=.s p.2 from U,Qv (r:=[]) n2];refine(kW _,aF (by rw[dN,jR,dN];omega),oy _,?_,?_)
   ·show((L2.T.ims (fam.map kT)&&O)&&O)=O;rw[kW];rfl
   ·refine(_,_,_,_,U,?_,?_)
    ·rw[et,xx]
    ·refine(Qw (h:=[(fam,1)]) n3).trans (congrArg (List.map enH) ?_);rw[et];simp
  ·rintro q ⟨ak,V,A,Zg,rfl,rfl,rfl⟩
   rw[dN,sP,<- ex];refine(oy _,λa3 aW=>(mq _,λbb a0=>?_))
   refine(U,ac,_,U,U,ac,_,U,?_,U,hq _ (IsS.mk (d:=d.bhd fam fr sc')))
   show(O&&(L2.T.im (tHo (d.fr++fr))&&O))=O;rw[jI];rfl
theorem gE{k k':Str}(h:(sc.map (·.1)).Nodup)(h1:(x,k)∈sc)(h2:(x,k')∈sc):k=k':=by
 let(i,hi,q):=uj h1;let(j,z,g):=uj h2
 have:=rC h (gs hi) (gs z) (by rw[q,g])
 subst this;rw[q]at g;exact congrArg Prod.snd g
theorem Bf{ks:List Kd}(g:cI ks){q:Kd}{m m':Mk1}(h1:kd∈ks)(h2:q∈ks)(h3:m∈kd.2)(h4:m'∈q.2)(e:m.1=m'.1):kd=q:=by
 let(i,hi,K):=uj h1;let(j,P,z):=uj h2
 have:=rV g.mn (gs hi) (gs P) (K▸h3) (z▸h4) e
 subst this;exact K.symm.trans z
theorem UE{ks:List Kd}(g:cI ks){q:Kd}(h1:kd∈ks)(h2:q∈ks)(e:kd.1=q.1):kd=q:=by
 let(i,hi,K):=uj h1;let(j,P,z):=uj h2
 have:=rC g.nd (gs hi) (gs P) (by rw[K,z];exact e)
 subst this;exact K.symm.trans z
theorem RZ(hn:(hs.map (·.1)).Nodup){h h':Hd}(h1:h∈hs)(h2:h'∈hs)(e:h.1=h'.1):h=h':=by
 let(i,hi,q):=uj h1;let(j,z,g):=uj h2
 have:=rC hn (gs hi) (gs z) (by rw[q,g];exact e)
 subst this;exact q.symm.trans g
theorem LQ:(("make":Str)="call")=False:=eq_false ac
theorem LR:(("call":Str)="make")=False:=eq_false ac
theorem VD:(("pay":Str)="get")=False:=eq_false ac
theorem VE:(("get":Str)="pay")=False:=eq_false ac
theorem Gr{a b:Arm}(h:tA a=tA b):a.1=b.1/\a.2.1=b.2.1/\a.2.2.1=b.2.2.1:=by
 have h:L2.T.t [.s a.1,.t (a.2.1.map .s),a.2.2.1]=.t [.s b.1,.t (b.2.1.map .s),b.2.2.1]:=h;injection h with h
 injection h with h1 h
 injection h with h2 h
 injection h with h3 _
 injection h1 with h1
 injection h2 with h2
 exact(h1,(Yf λ_ _ z=>L2.T.s.inj z).mp h2,h3)
theorem Snd.kid{ks:List Kd}{hs:List Hd}{r:Str}{m:Nat}{sc sc':Sc}{b t b' am:L2.T}{j:Nat}(gk:cI ks)(hn:(hs.map (·.1)).Nodup)(nd:(sc.map (·.1)).Nodup)(S:Snd ks hs r m sc b)(e:b=t)(K:Kid ks hs sc t j b' am sc'):∃m',Snd ks hs r m' sc' b':=by
 cases S <;> cases K <;> simp[LQ,LR]at e
 ·rename_i S _ _ _;let(U,U,U):=e;exact(_,S)
 ·rename_i hy hx S _ _ _ Q g;let(U,U,U):=e;obtain rfl:=gE nd hy Q;exact(_,S)
 ·rename_i q hm _ hx S _ _ _ _ Bt V g;let(U,z,P,U):=e;obtain rfl:=Bf gk q Bt hm V z;exact(_,S)
 ·rename_i hh _ hx S _ _ _ ak g;let(U,z,P,U):=e;obtain rfl:=RZ hn hh ak z;exact(_,S)
 ·rename_i x kd arms q aN hx h1 h2 x' aM O5 ar mm g Bt WL hl hN ha hm;let(U,z):=e;obtain rfl:=UE gk q Bt (gE nd hx g);have P:=congrArg (·[j]?) z;simp only[gV,ha]at P;let(ay,h0,e3):=g5.mp P;let(_,q2,q3):=Gr e3
  have:=h2 j ay mm h0 hm
  rw[q2,q3]at this;exact(_,this)
theorem Ti{ks:List Kd}{fs:List Fn}{f:Fn}(g:Prog ks fs)(hf:f∈fs)(q:cn ks (fs.map (·.1)) 0 [rtN f] L):∀e∈L,∃m,Snd ks (fs.map (·.1)) f.1.2.2 m e.sc e.b:=by
 have hn:((fs.map (·.1)).map (·.1)).Nodup:=by have:=g.hn;rwa [u4]
 have:=q.all (R:=λe=>(e.sc.map (·.1)).Nodup/\∃m,Snd ks (fs.map (·.1)) f.1.2.2 m e.sc e.b) (λn d j b am sc (g1,m,g2) hk=>(hk.nd g1,g2.kid g.gk hn g1 U hk)) _ U λd hd=>by
  rw[fy.mp hd];exact((g.pk f hf).2.2.1,_,(g.sn f hf).1)
 exact λe he=>(this e he).2
theorem qf{ks:List Kd}{k m:Str}{xs:List Kd}:m∈ff ks k xs ↔ ∃x∈xs,Reach ks k x.1/\m∈x.2.map (·.1):=by
 unfold ff;rw[W8]
 constructor
 ·rintro⟨x,hx,h⟩
  split at h
  ·exact(x,hx,(by assumption),h)
  ·cases h
 ·rintro⟨x,hx,hr,h⟩
  exact(x,hx,by rw[if_pos hr];exact h)
theorem uC{ks:List Kd}{m:Mk1}(h:kd∈ks)(hm:m∈kd.2):m.1∈ff ks kd.1 ks:=qf.mpr (kd,h,.here,n8.mpr (m,hm,U))
theorem FY{ks:List Kd}(g:cI ks){m:Mk1}{k s:Str}(h:kd∈ks)(hm:m∈kd.2)(hk:k∈m.2)(hs:s∈ff ks k ks):s∈ff ks kd.1 ks:=by
 let(x,hx,hr,h'):=qf.mp hs;refine qf.mpr (x,hx,Reach.trans (.step .here ?_) hr,h');unfold wZ;rw[CH g.nd h];exact W8.mpr (m,hm,hk)
def FK(Zc:L2.T->Prop)(ks:List Kd)(fam:Fam)(k:Str):Prop:=∀m∈ff ks k ks,Zc (.t ((fam++[(.inr m:Key)]).map kT))
structure UOk(Zc:L2.T->Prop)(ks:List Kd)(fs:List Fn)(i:Nat)(os:List (Option Str)):Prop where
 par:∀(j:Nat)(g:Fn)(k:Nat)(p:Str×Str),fs[j]?=Z g->g.1.2.1[k]?=Z p->FK Zc ks [.inr "param",.inl j,.inl k] p.2
 fst:∀(j:Nat)(g:Fn),fs[j]?=Z g->Zc (.t [.s "first",iN j])
 lst:∀(j:Nat)(g:Fn),fs[j]?=Z g->Zc (.t [.s "last",iN j])
 res:∀(j:Nat)(g:Fn),fs[j]?=Z g->FK Zc ks [.inr "result",.inl j] g.1.2.2
 pce:∀(n:Nat)(k:Str),os[n]?=Z (Z k)->FK Zc ks (pcF i n) k
theorem FK.fld{Zc:L2.T->Prop}{ks:List Kd}{fam:Fam}{m:Mk1}{k:Str}(h:FK Zc ks fam kd.1)(g:cI ks)(q:kd∈ks)(hm:m∈kd.2)(hk:k∈m.2):FK Zc ks fam k:=λs hs=>h s (FY g q hm hk hs)
theorem BZ:∀{k:Nat},u∈usP j k ns->∃l,ns[l]?=Z u.1/\u.2=[.inr "param",.inl (j:Int),.inl ((k+l:Nat):Int)]:=by
 induction ns with
 |nil=>intro k h;cases h
 |cons y r g =>
  intro k h;obtain rfl|h:=pj.mp h
  ·exact(0,U,U)
  ·let(l,h1,h2):=g h;exact(l+1,(h1:),by rw[h2,show k+1+l=k+(l+1)by omega])
theorem C3{fl:List Str}(h:Fills sc ns fl)(g:ns[l]?=Z y):∃k,fl[l]?=Z k/\(y,k)∈sc:=by
 have hl:=(iY.mp g).1;have hk:fl[l]?=Z (fl[l]'(by rw[<- h.1];exact hl)):=gs _
 refine(_,hk,h.2 _ ?_);refine mu (i:=l) ?_;rw[W6];exact(g,hk)
section
variable{Zc:L2.T->Prop}{ks:List Kd}{fs:List Fn}{i n m:Nat}{f:Fn}{os:List (Option Str)}{o:Option Str}{sc:Sc}{b t:L2.T}
theorem F6(hP:Prog ks fs)(hf:fs[i]?=Z f)(Q:UOk Zc ks fs i os)(nd:(sc.map (·.1)).Nodup)(S:Snd ks (fs.map (·.1)) f.1.2.2 m sc b)(ho:os[n]?=Z o)(e:b=t)(hA:Ask ks sc t o):
  ∃us fr sp,fZ fs i n b us fr sp/\(∀u∈us,∃k,(u.1,k)∈sc/\FK Zc ks u.2 k)/\∀p∈fr,Zc (.t (p.1.map kT)):=by
 have one:∀{x:Str}{fam:Fam}{k:Str},(x,k)∈sc->FK Zc ks fam k->∀u ∈ [(Prod.mk x fam)],∃k,(u.1,k)∈sc/\FK Zc ks u.2 k:=λ{x fam k} h1 h2 u V=>by
  rw[fy.mp V];exact(k,h1,h2)
 have on1:∀{p:Fam×Int},Zc (.t (p.1.map kT))->∀q ∈ [p],Zc (.t (q.1.map kT)):=λ{p} h q hq=>by rw[fy.mp hq];exact h
 cases S <;> cases hA <;> simp[LQ,LR]at e
 ·rename_i hx _;exact(_,_,_,.give,one hx (Q.res i f hf),on1 (Q.lst i f hf))
 ·rename_i w c b hw _ _ _ _ _;obtain rfl|rfl:=hw
  ·exact(_,_,_,.pay,nofun,nofun)
  ·exact(_,_,_,.get,nofun,nofun)
 ·rename_i hy hx S _ _ _ _ ak;let(U,U,U):=e;obtain rfl:=gE nd hy ak;exact(_,_,_,.name,one hy (Q.pce n _ ho),nofun)
 ·rename_i x mm kd ns b K hm hF hx S _ _ aM _ _ Bt ay;let(U,e1,e2,U):=e;obtain rfl:=Bf hP.gk K Bt hm ay e1;have hp:=Q.pce n _ ho;refine(_,_,_,.make (by rw[hF.1];exact(hP.gk.fl kd K mm hm).1),λu V=>?_,on1 (hp _ (uC K hm)))
  let(y,hy,U):=n8.mp V;let(l,hl,U):=uj hy;let(k,hk,hs):=C3 hF (gs hl);exact(k,hs,hp.fld hP.gk K hm (mu hk))
 ·rename_i x h ns b hh hF hx S _ _ _ _;let(g,hg,U):=n8.mp hh;let(j,hj,e1):=uj hg;have P:fs[j]?=Z g:=by rw[gs hj,e1]
  have l4:=(hP.pk g hg).1;refine(_,_,_,.call P (by rw[hF.1,dN];exact l4),λu V=>?_,on1 (Q.fst j g P))
  let(l,h1,h2):=BZ V;let(k,hk,hs):=C3 hF h1;rw[gV]at hk;let(p,hp,U):=g5.mp hk;rw[h2,Ks];exact(_,hs,Q.par j g l p P hp)
 ·rename_i x kd arms K aN hx h1 h2 x' k O5 ar;let(U,e1):=e;obtain rfl:=gE nd hx ar;exact(_,_,_,.case,one hx (Q.pce n _ ho),nofun)
theorem Si{b' am:L2.T}(hP:Prog ks fs)(hU:UOk Zc ks fs i os)(nd:(sc.map (·.1)).Nodup)(K:Kid ks (fs.map (·.1)) sc b j b' am sc')(ho:os[n]?=Z o)(e:b=t)(hA:Ask ks sc t o):
  ∃fam fr,BrR fs i n b am fam fr/\(∀p∈sc'.drop sc.length,FK Zc ks fam p.2)/\∀p∈fr,Zc (.t (p.1.map kT)):=by
 have one:∀{x:Str}{fam:Fam}{k:Str},FK Zc ks fam k->∀p∈(sc++[Prod.mk x k]).drop sc.length,FK Zc ks fam p.2:=λ{x fam k} h p hp=>by
  rw[XE]at hp;rw[fy.mp hp];exact h
 have on1:∀{p:Fam×Int},Zc (.t (p.1.map kT))->∀q ∈ [p],Zc (.t (q.1.map kT)):=λ{p} h q hq=>by rw[fy.mp hq];exact h
 cases K <;> cases hA <;> simp[LQ,LR]at e
 ·rename_i w c hw _ _ _ _;refine(_,_,.plain ?_ ?_,(λp hp=>by rw[X5]at hp;cases hp),nofun)
  ·obtain rfl|rfl:=hw <;> decide
  ·obtain rfl|rfl:=hw <;> decide
 ·rename_i hy hx _ _ _ _ ay;let(U,U,U):=e;obtain rfl:=gE nd hy ay;exact(_,_,.plain ac ac,one (hU.pce n _ ho),nofun)
 ·rename_i x mm kd ns P hm hx _ _ aW _ _ Bt aR;let(U,e1,e2,U):=e;obtain rfl:=Bf hP.gk P Bt hm aR e1;exact(_,_,.plain ac ac,one (hU.pce n _ ho),nofun)
 ·rename_i x h ns hh hx _ _ _ _;let(g,hg,U):=n8.mp hh;let(j',hj,e1):=uj hg;have Q:fs[j']?=Z g:=by rw[gs hj,e1]
  exact(_,_,.call Q,one (hU.res j' g Q),on1 (hU.lst j' g Q))
 ·rename_i x kd arms ar mm hx P aN hl hN ha hm x' k O5 aM;let(U,e1):=e;obtain rfl:=gE nd hx aM;have hp:=hU.pce n _ ho;have ak:=mu hm;have em:ar.1=mm.1:=by
   have:=congrArg (·[j]?) aN
   simp only[gV,ha,hm]at this;exact Option.some.inj this
  refine(_,_,.case,λp V=>?_,on1 ?_)
  ·rw[XE]at V;exact hp.fld hP.gk P ak (Xt V).2
  ·rw[em];exact hp _ (uC P ak)
end
inductive Std(ks:List Kd)(fs:List Fn)(i:Nat)(f:Fn)(L:List Nod):Nod->Sd->Prop
 |root:Std ks fs i f L (rtN f) (Kb i f)
 |kid{n j:Nat}{e:Nod}{d:Sd}{b am:L2.T}{sc:Sc}{us:List (Str×Fam)}{fr fr':bG}{sp:Int}{fam:Fam}:Std ks fs i f L e d->L[n]?=Z e->Kid ks (fs.map (·.1)) e.sc e.b j b am sc->fZ fs i n e.b us fr sp->BrR fs i n e.b am fam fr'->Std ks fs i f L (Be n e j b am sc) ((d.wth us fr sp).bhd fam fr' sc)
structure SdG(Zc:L2.T->Prop)(ks:List Kd)(sc:Sc)(F H:Nat)(d:Sd):Prop where
 es:d.sc=sc
 hk:d.ho.map (·.1)=sc.map (·.1)
 fl:d.fr.length<=F
 hl:∀p∈d.ho,p.2.length<=H
 fm:∀p∈d.fr,Zc (.t (p.1.map kT))
 hm:∀p∈d.ho,∀k,(p.1,k)∈sc->∀q∈p.2,FK Zc ks q.1 k
theorem mR{i:Nat}{p:Str×bG}:∀{k:Nat},p∈uw i k sc->∃l x,sc[l]?=Z (p.1,x)/\p.2=[([.inr "param",.inl (i:Int),.inl ((k+l:Nat):Int)],1)]:=by
 induction sc with
 |nil=>intro k h;cases h
 |cons y r g =>
  intro k h;obtain rfl|h:=pj.mp h
  ·exact(0,y.2,U,U)
  ·let(l,x,h1,h2):=g h;exact(l+1,x,(h1:),by rw[h2,show k+1+l=k+(l+1)by omega])
theorem rX:∀{ho:List (Str×bG)}{p:Str×bG},p∈us.foldl oX ho->∃g∈ho,g.1=p.1/\∀q∈p.2,q∈g.2\/∃u∈us,u.1=p.1/\q=(u.2,-1):=by
 induction us with
 |nil=>intro ho p h;exact(p,h,U,λq hq=>.inl hq)
 |cons u r V =>
  intro ho p h;let(p1,h1,K,h2):=V h;let(g,h0,U):=n8.mp h1;refine(g,h0,?_,λq hq=>?_)
  ·rw[<- K];split <;> rfl
  ·obtain z |⟨v,hv,Q,P⟩:=h2 q hq
   ·split at z
    ·rename_i e;obtain z|z:=n6.mp z
     ·exact .inl z
     ·refine .inr (u,lj,?_,fy.mp z);rw[<- K,if_pos e];exact e.symm
    ·exact .inl z
   ·exact .inr (v,jQ _ hv,Q,P)
section
variable{Zc:L2.T->Prop}{ks:List Kd}{fs:List Fn}{i F H:Nat}{f:Fn}{os:List (Option Str)}{sc:Sc}{d:Sd}
theorem SdG.root(z:Prog ks fs)(hf:fs[i]?=Z f)(g:UOk Zc ks fs i os):SdG Zc ks f.1.2.1 1 1 (Kb i f) where
 es:=rfl
 hk:=vp
 fl:=ot _
 hl:=λp hp=>by let(l,x,_,h):=mR hp;rw[h];exact ot _
 fm:=λp hp=>by rw[fy.mp hp];exact g.fst i f hf
 hm:=λp hp k hk q hq=>by
  let(l,x,h1,h2):=mR hp;rw[h2,Ks]at hq;rw[fy.mp hq];obtain rfl:=gE (z.pk f (mu hf)).2.2.1 hk (mu h1);exact g.par i f l _ hf h1
theorem SdG.wth{us:List (Str×Fam)}{fr:bG}{sp:Int}(g:SdG Zc ks sc F H d)(nd:(sc.map (·.1)).Nodup)(h1:us.length<=4)(h2:fr.length<=1)(h3:∀u∈us,∃k,(u.1,k)∈sc/\FK Zc ks u.2 k)(h4:∀p∈fr,Zc (.t (p.1.map kT))):SdG Zc ks sc (F+1) (H+4) (d.wth us fr sp) where
 es:=g.es
 hk:=j9.trans g.hk
 fl:=by show(d.fr++fr).length<=_;have:=g.fl;rw[jR];omega
 hl:=λp hp=>by have:=C0 (us:=us) g.hl p hp;omega
 fm:=λp hp=>(n6.mp hp).elim (g.fm p) (h4 p)
 hm:=λp hp k hk q hq=>by
  let(K,m0,V,h0):=rX hp;obtain z |⟨u,P,Q,rfl⟩:=h0 q hq
  ·exact g.hm K m0 k (by rw[V];exact hk) q z
  ·let(k',h5,h6):=h3 u P;rw[Q]at h5;rw[gE nd hk h5];exact h6
theorem SdG.bhd{hs:List Hd}{b b' am:L2.T}{j:Nat}{sc':Sc}{fam:Fam}{fr:bG}(g:SdG Zc ks sc F H d)(nd:(sc.map (·.1)).Nodup)(K:Kid ks hs sc b j b' am sc')(h1:1<=H)(h2:fr.length<=1)(h3:∀p∈sc'.drop sc.length,FK Zc ks fam p.2)(h4:∀p∈fr,Zc (.t (p.1.map kT))):SdG Zc ks sc' (F+1) H (d.bhd fam fr sc') where
 es:=rfl
 hk:=by
  show(d.ho++(sc'.drop d.sc.length).map λp=>(Prod.mk p.1 [Prod.mk fam (1:Int)])).map (·.1)=_
  rw[pz,g.hk,g.es,u4];have ex:=congrArg (List.map (·.1)) K.ext;rw[pz]at ex;exact ex.symm
 fl:=by show(d.fr++fr).length<=_;have:=g.fl;rw[jR];omega
 hl:=λp hp=>by
  obtain z|z:=n6.mp hp
  ·exact g.hl p z
  ·let(q,_,U):=n8.mp z;exact h1
 fm:=λp hp=>(n6.mp hp).elim (g.fm p) (h4 p)
 hm:=λp hp k hk q hq=>by
  have nn:=K.nd nd;have ex:=K.ext;obtain z|z:=n6.mp hp
  ·have hx:p.1∈sc.map (·.1):=by rw[<- g.hk];exact n8.mpr (p,z,U)
   let((x,k'),h5,P):=n8.mp hx;have P:x=p.1:=P;subst P;obtain rfl:=gE nn hk (by rw[ex];exact qp _ h5)
   exact g.hm p z _ h5 q hq
  ·let(r,hr,U):=n8.mp z;rw[g.es]at hr;rw[fy.mp hq];obtain rfl:=gE nn hk (by rw[ex];exact qg _ hr)
   exact h3 r hr
end
theorem BrR.len{fs:List Fn}{i:Nat}{b am:L2.T}{fam:Fam}(h:BrR fs i n b am fam fr):fr.length<=1:=by
 cases h <;> simp
theorem fZ.det{fs:List Fn}(hn:(fs.map (·.1.1)).Nodup){i:Nat}{b t:L2.T}{g:List (Str×Fam)}{fr':bG}{q:Int}(h:fZ fs i n b us fr sp)(e:b=t)(h':fZ fs i n t g fr' q):us=g/\fr=fr'/\sp=q:=by
 cases h <;> cases h' <;> simp[LQ,LR,VD,VE]at e
 ·obtain rfl:=e;exact(U,U,U)
 ·let(U,_):=e;exact(U,U,U)
 ·let(U,_):=e;exact(U,U,U)
 ·let(_,U,_):=e;exact(U,U,U)
 ·let(_,U,e,_):=e;obtain rfl:=(Yf λ_ _ z=>L2.T.s.inj z).mp e
  exact(U,U,U)
 ·rename_i P _ _ _ _ _ _ K _;let(_,Q,e,_):=e;obtain rfl:=(Yf λ_ _ z=>L2.T.s.inj z).mp e
  obtain rfl:=rC hn P K Q;exact(U,U,U)
 ·let(U,_):=e;exact(U,U,U)
theorem BrR.det{fs:List Fn}(hn:(fs.map (·.1.1)).Nodup){i:Nat}{b t am:L2.T}{fam q:Fam}{fr':bG}(h:BrR fs i n b am fam fr)(e:b=t)(h':BrR fs i n t am q fr'):fam=q/\fr=fr':=by
 generalize K:am=P at h'
 cases h <;> cases h' <;> simp at e
 ·exact(U,U)
 ·exact absurd e.1 (by assumption)
 ·exact absurd e.1 (by assumption)
 ·exact absurd e.1.symm (by assumption)
 ·rename_i z _ _ _ _ _ g;obtain rfl:=rC hn z g e.2.1;exact(U,U)
 ·exact absurd e.1.symm (by assumption)
 ·rw[(Gr K).1];exact(U,U)
theorem Std.det{ks:List Kd}{fs:List Fn}(hn:(fs.map (·.1.1)).Nodup){i:Nat}{f:Fn}{L:List Nod}{e V:Nod}{d d':Sd}(h:Std ks fs i f L e d)(ee:e=V)(h':Std ks fs i f L V d'):d=d':=by
 induction h generalizing V d' with
 |root =>
  cases h' with
  |root=>rfl
  |kid=>have:=congrArg Nod.pa ee;simp[rtN,Be]at this
 |@kid n j e d b am sc us fr fr' sp fam s he _ hU hB ih =>
  cases h' with
  |root=>have:=congrArg Nod.pa ee;simp[rtN,Be]at this
  |@kid n2 j2 e2 d2 b2 ak q ar aM WO ay WQ s2 g _ z K =>
   have Q:=congrArg Nod.pa ee;have Q:e.pa++[(n,e.b,j)]=e2.pa++[(n2,e2.b,j2)]:=Q;have P:=(List.append_inj' Q U).2;have e4:n=n2:=by injection P with P _;exact congrArg Prod.fst P
   subst e4;rw[he]at g;cases g;have e5:am=ak:=congrArg Nod.am ee;have e6:sc=q:=congrArg Nod.sc ee;subst e5 e6;obtain rfl:=ih U s2;let(U,U,U):=hU.det hn U z;let(U,U):=hB.det hn U K;rfl
def gb(fs:List Fn)(i:Nat)(ps:List Nat):List Fam:=ps.map (pcF i)++(N6 fs.length).flatMap λ(j:Nat)=>[[.inr "result",.inl (j:Int)],[.inr "param",.inl (j:Int),.inl 0],[.inr "param",.inl (j:Int),.inl 1],[.inr "param",.inl (j:Int),.inl 2],[.inr "param",.inl (j:Int),.inl 3]]
theorem KG{fs:List Fn}{i:Nat}:(gb fs i ps).length=ps.length+5*fs.length:=by
 unfold gb;rw[jR,dN]
 have:∀n:Nat,((N6 n).flatMap λ(j:Nat)=>([[.inr "result",.inl (j:Int)],[.inr "param",.inl (j:Int),.inl 0],[.inr "param",.inl (j:Int),.inl 1],[.inr "param",.inl (j:Int),.inl 2],[.inr "param",.inl (j:Int),.inl 3]]:List Fam)).length=5*n:=by
  intro n
  induction n with
  |zero=>rfl
  |succ n g=>rw[YB,YO,jR,g];simp;omega
 rw[this]
theorem gb.pc{fs:List Fn}{i:Nat}:pcF i n∈gb fs i (ps++[n]):=qp _ (n8.mpr (n,by simp,U))
theorem gb.res{fs:List Fn}{i:Nat}{g:Fn}(h:fs[j]?=Z g):([.inr "result",.inl (j:Int)]:Fam)∈gb fs i ps:=qg _ (W8.mpr (j,Xq.mpr (iY.mp h).1,by simp))
theorem gb.par{fs:List Fn}{i k:Nat}{g:Fn}(h:fs[j]?=Z g)(hk:k<4):([.inr "param",.inl (j:Int),.inl (k:Int)]:Fam)∈gb fs i ps:=qg _ (W8.mpr (j,Xq.mpr (iY.mp h).1,by
 obtain rfl|rfl|rfl|rfl:=(by omega:k=0\/k=1\/k=2\/k=3) <;> simp))
theorem gb.up{fs:List Fn}{i:Nat}{u:Fam}(h:u∈gb fs i ps):u∈gb fs i (ps++[n]):=by
 obtain z|z:=n6.mp h
 ·refine qp _ ?_;rw[pz];exact qp _ z
 ·exact qg _ z
def SdF(fs:List Fn)(i:Nat)(ps:List Nat)(d:Sd):Prop:=∀p∈d.ho,∀q∈p.2,q.1∈gb fs i ps
theorem SdF.wth{fs:List Fn}{i n:Nat}{f:Fn}{ps:List Nat}{d:Sd}{b:L2.T}{us:List (Str×Fam)}{fr:bG}{sp:Int}(h:SdF fs i ps d)(u:fZ fs i n b us fr sp)(hf:fs[i]?=Z f):SdF fs i (ps++[n]) (d.wth us fr sp):=λp hp q hq=>by
 let(g,m0,_,h0):=rX hp;obtain z |⟨v,hv,_,rfl⟩:=h0 q hq
 ·exact gb.up (h g m0 q z)
 ·cases u with
  |give=>rw[fy.mp hv];exact gb.res hf
  |pay=>cases hv
  |get=>cases hv
  |name=>rw[fy.mp hv];exact gb.pc
  |make _=>let(y,_,U):=n8.mp hv;exact gb.pc
  |call K hl =>
   let(l,Q,P):=BZ hv;rw[P,Ks];exact gb.par K (by have:=(iY.mp Q).1;omega)
  |case=>rw[fy.mp hv];exact gb.pc
theorem Std.fam{ks:List Kd}{fs:List Fn}{i:Nat}{f:Fn}{L:List Nod}{e:Nod}{d:Sd}(hf:fs[i]?=Z f)(h4:f.1.2.1.length<=4)(h:Std ks fs i f L e d):SdF fs i (e.pa.map (·.1)) d:=by
 induction h with
 |root =>
  intro p hp q hq;let(l,x,e1,e2):=mR hp;rw[e2,Ks]at hq;rw[fy.mp hq];exact gb.par hf (by have:=(iY.mp e1).1;omega)
 |@kid n j e d b am sc us fr fr' sp fam s he V g K P =>
  have h1:=P.wth g hf;clear V g;have ep:(Be n e j b am sc).pa.map (·.1)=e.pa.map (·.1)++[n]:=by show(e.pa++[Prod.mk n (Prod.mk e.b j)]).map (·.1)=_;rw[pz];rfl
  rw[ep];intro p hp q hq;obtain z|z:=n6.mp hp
  ·exact h1 p z q hq
  ·let(r,_,U):=n8.mp z;rw[fy.mp hq]
   generalize e.b=b' at K
   cases K with
   |plain=>exact gb.pc
   |call Q=>exact gb.res Q
   |case=>exact gb.pc
def Pm(q:Fam×Int):Prop:=q.2=1\/q.2 = -1
def SdT(d:Sd):Prop:=(∀p∈d.fr,Pm p)/\∀p∈d.ho,∀q∈p.2,Pm q
theorem SdT.wth{fs:List Fn}{i n:Nat}{d:Sd}{b:L2.T}{us:List (Str×Fam)}{fr:bG}{sp:Int}(h:SdT d)(u:fZ fs i n b us fr sp):SdT (d.wth us fr sp):=by
 refine(λp hp=>?_,λp hp q hq=>?_)
 ·obtain z|z:=n6.mp hp
  ·exact h.1 p z
  ·cases u with
   |give=>rw[fy.mp z];exact .inr U
   |make=>rw[fy.mp z];exact .inr U
   |call=>rw[fy.mp z];exact .inr U
   |_=>cases z
 ·let(g,m0,_,h0):=rX hp;obtain z |⟨v,_,_,rfl⟩:=h0 q hq
  ·exact h.2 g m0 q z
  ·exact .inr U
variable{d:Sd}
theorem Std.pm1{ks:List Kd}{fs:List Fn}{i:Nat}{f:Fn}(h:Std ks fs i f L e d):SdT d:=by
 induction h with
 |root =>
  refine(λp hp=>by rw[fy.mp hp];exact .inl U,λp hp q hq=>?_)
  let(l,x,_,V):=mR hp;rw[V]at hq;rw[fy.mp hq];exact .inl U
 |@kid n j e d b am sc us fr fr' sp fam s he Q g K P =>
  have h1:=P.wth g;clear g Q
  generalize e.b=b' at K
  refine(λp hp=>?_,λp hp q hq=>?_)
  ·obtain z|z:=n6.mp hp
   ·exact h1.1 p z
   ·cases K with
    |plain=>cases z
    |call=>rw[fy.mp z];exact .inl U
    |case=>rw[fy.mp z];exact .inl U
  ·obtain z|z:=n6.mp hp
   ·exact h1.2 p z q hq
   ·let(r,_,U):=n8.mp z;rw[fy.mp hq];exact .inl U
def Dm(C:J)(Zc:L2.T->Prop)(ks:List Kd)(fs:List Fn)(i:Nat)(f:Fn)(L:List Nod)(e:Nod)(S:L2.T):Prop:=∃d,IsS C i S d/\Std ks fs i f L e d/\SdG Zc ks e.sc (1+2*e.pa.length) (1+4*e.pa.length) d
inductive Ie(C:J)(ts:List L2.T)(Q:L2.T->Prop):Prop
 |mk(ks:List Kd)(fs:List Fn)(i:Nat)(f:Fn)(L:List Nod)(os:List (Option Str))(Zc:L2.T->Prop)(h1:ts=[tPr ks fs,iN i])(h2:Prog ks fs)(h3:fs[i]?=Z f)(h4:Pre ks (fs.map (·.1)) 0 (rtN f) L)(h5:L.length<=50000)(h6:zA ks L os)(h7:UOk Zc ks fs i os)(h8:∀X:List L2.T,X.length=L.length->(∀(n:Nat)(e:Nod)(S:L2.T),L[n]?=Z e->X[n]?=Z S->Dm C Zc ks fs i f L e S)->Q (.l X))
theorem IsS.im{C:J}{i:Nat}{S:L2.T}{d:Sd}(h:IsS C i S d):S.im=true:=by cases h;rfl
theorem Good.p88{ks:List Kd}{fs:List Fn}{f:Fn}(g:Good ks fs f e):e.pa.length<=92:=by
 let(N,h,_):=g.dp
 omega
theorem EA(T:Txt K mg a):bj P w K mg base CX0 5 a.mE a.y8 ["program","f"] (spQ K (Ie a.aM)):=by
 refine T.zy.F.okQ fM (λ_ _ _ _ _ _ hr=>?_)
 ·have hu:=bD hr;refine(_,_,((ag (aA 2 fM.nd (aP ai))
 (ag (aA 3 fM.nd (aL (rj T) hr T.pZ (ae (av (av (av (qv 0) ah) (qv 1)) ah) ax)))
 (ag (bE (g:=(Tg.nm 4)) PassesOwn.never U (Ck (i:=3) (pv 3)) (bp 4 fM.nd)
 (aj (aX (bV nJ jW (bN _) (aZ T.cj T.bI (qv 4)) (Zi cD))
 (aj (bx (i:=2) (pv 2) (aL (l5 T) hr T.il (ae (qv 0) (ae (qv 1) ax)))))
 (ag (aA 5 fM.nd (Zj (aZ T.cj T.dA (av (qv 3) (aZ T.cj T.bI (qv 4))))))
 (ag (aA 6 fM.nd (aL (ko T) hr T.i6 (ae (qv 0) (ae (aZ T.cj T.bI (qv 4)) (ae (qv 5) (ae (av (qv 2) (aZ T.cj T.bI (qv 4))) ax))))))
 (aj (bx (i:=2) (pv 2) (aL (oO T) hr T.jT (ae (qv 0) (ae (aZ T.cj T.bI (qv 4)) (ae (qv 5) (ae (aZ T.cj T.jB (qv 4)) (ae (qv 6) ax)))))))))))))
 (aj (fF (i:=2) (pv 2))))))),λts Q h=>?_)
  let(ks,fs,i,f,L,os,Zc,U,hP,hf,hR,hL,hA,hU,hq):=h;have aW:cn ks (fs.map (·.1)) 0 [rtN f] L:=by have:=cn.cons hR (.nil);rwa [rD]at this
  have bg:=mu hf;have G:=CV hP bg aW;have SN:=Ti hP bg aW;have ef:atI (fs.map tF) (i:Int)=Z (tF f):=bu (by rw[gV,hf];rfl)
  refine(_,U,_,ef,_,U,ks,fs.map (·.1),rtN f,L,U,U,U,hR,hL,?_);refine(λc q=>∃(X:List L2.T)(o4 o5 o6:Sl),q=[.r (tPr ks fs),.r (iN i),.o (.l X),.r (.l (L.map (spN a.aR))),o4,o5,o6]/\X.length=c/\∀(n:Nat)(e:Nod)(S:L2.T),L[n]?=Z e->X[n]?=Z S->Dm a.aM Zc ks fs i f L e S,([],_,_,_,U,U,λn e S _ h=>by simp at h),?_,?_)
  ·rintro c y q hy ⟨X,o4,o5,o6,rfl,ar,hX⟩
   rw[gV]at hy;let(e,he,U):=g5.mp hy;have cG:=(iY.mp he).1;have bh:X.length<pY:=cc ap
   have cH:L2.T.ims X=true:=j8 λt ht=>by
    let(n,hn,U):=uj ht;let(d,hd,_):=hX n _ _ (gs ap) (gs hn)
    exact hd.im
   have fin:∀S:L2.T,Dm a.aM Zc ks fs i f L e S->∀(n:Nat)(z:Nod)(S':L2.T),L[n]?=Z z->(X++[S])[n]?=Z S'->Dm a.aM Zc ks fs i f L z S':=λS hS n z S' h1 h2=>by
    by_cases hn:n<X.length
    ·rw[Dr hn]at h2;exact hX n z S' h1 h2
    ·rw[M1 ap]at h2
     have bK:n-X.length=0:=by
      have:=(iY.mp h2).1
      simp at this
      omega
     rw[bK]at h2;cases h2;rw[show n=c by omega,he]at h1
     cases h1;exact hS
   refine(_,U,U,ac,_,U,?_)
   obtain⟨j,hj,_⟩|⟨p,z,cs,j,cz,ak,hK,hc⟩:=aW.from _ rfl c e he
   ·have:e=rtN f:=by
     cases j with
     |zero=>cases hj;rfl
     |succ j=>simp at hj
    subst this;refine(bh,ks,fs,i,f,U,hP,hf,λS hS=>?_)
    exact(_,_,_,_,U,by rw[jR,ar];rfl,fin S (_,hS,.root,.root hP hf hU))
   ·rw[Ks]at hK;let(a3,wU):=hK.ok j _ hc;let(eb,ct,ck,a0,br):=e;obtain rfl:ct=iN p:=congrArg Nod.ab a3;have bb:=mu ak;have g':=G z bb;let(m,aN):=SN z bb;have bt:=(iY.mp ak).1;obtain⟨t,ht⟩:∃t,X[p]?=Z t:=(_,gs ap)
    let(d,hd,hs,hg):=hX p z t ak ht;have bz:p<os.length:=by rw[hA.ln];exact bt
    have ho:os[p]?=Z os[p]:=gs bz;have hk:=hA.ok p z _ ak ho;let(us,fr,sp,u1,u2,u3):=F6 hP hf hU g'.nd aN ho U hk;let(fam,fr',b1,b2,b3):=Si hP hU g'.nd wU ho U hk;let(l1,l2):=u1.len;have p88:=g'.p88;have ay:=hg.wth (sp:=sp) g'.nd l1 l2 u2 u3;have V:=ay.bhd g'.nd wU ap b1.len b2 b3
    have a1:atI X (p:Int)=Z t:=bu ht;have a2:atI (L.map (spN a.aR)) (p:Int)=Z (spN a.aR z):=bu (by rw[gV,ak];rfl)
    have cx:=hg.es;have lim:=g'.lim;have key:d.ho.length=z.sc.length:=(congrArg N9 hg.hk:)
    refine(U,ac,_,U,_,a2,U,ac,_,U,?_)
    refine(aN.im,U,ac,_,U,U,ac,_,U,_,a1,?_)
    refine(ks,fs,i,p,z.b,t,d,us,fr,sp,U,hP,aN.im,hd,u1,λu hu=>?_,(?_,?_,λq hq=>?_,?_),λS2 cg=>?_)
    ·let(k,h1,_):=u2 u hu;rw[hg.hk];exact n8.mpr (_,h1,U)
    ·rw[hg.hk];exact g'.nd
    ·have:=hg.fl;omega
    ·have:=hg.hl q hq;omega
    ·omega
    ·have w1:(d.wth us fr sp).sc=z.sc:=ay.es;refine(bh,U,ac,_,U,U,ac,_,U,ks,fs,i,p,j,z.b,eb,ck,S2,d.wth us fr sp,br,fam,fr',U,hP,cg,by rw[w1];exact wU,b1,by rw[w1];exact g'.nd,by rw[w1];exact g'.sk,by rw[w1];exact ay.hk,by rw[w1];omega,by have:=ay.fl;omega,λS3 b0=>?_)
     refine(_,_,_,_,U,by rw[jR,ar];rfl,fin S3 (_,b0,?_,?_))
     ·rw[a3];exact .kid hs ak wU u1 b1
     ·have ep:a0=z.pa++[(p,z.b,j)]:=congrArg Nod.pa a3;show SdG Zc ks br (1+2*a0.length) (1+4*a0.length) _;rw[ep,jR];exact(V.es,V.hk,by have:=V.fl;simp;omega,λq hq=>by have:=V.hl q hq;simp;omega,V.fm,V.hm)
  ·rintro q ⟨X,o4,o5,o6,rfl,ar,hX⟩
   rw[dN]at ar;exact hq X ar hX
abbrev Wt:=List (Int×Int)
def enI(p:Int×Int):Key×L2.T:=(.inl p.1,.i p.2)
def plc(kvs:List (List Key×V))(fam:Fam):Int:=match cC kvs fam with|some (.int j)=>j|_=>0
def Bx(ws:Wt)(j:Int):Int:=((ws.find? λp=>decide (p.1=j)).map (·.2)).getD 0
def tV(ws:Wt)(j x:Int):Wt:=if(ws.any λp=>decide (p.1=j))=O then ws.map (λp=>if p.1=j then(p.1,x)else p)else ws++[(j,x)]
def addW(kvs:List (List Key×V))(ws:Wt)(p:Fam×Int):Wt:=tV ws (plc kvs p.1) (Bx ws (plc kvs p.1)+p.2)
def nz(p:Int×Int):Bool:=!decide ((L2.T.i p.2).v=(L2.T.i 0).v)
def kg(kvs:List (List Key×V))(ps:bG):Wt:=(ps.foldl (addW kvs) []).filter nz
theorem wO(x j:Int):decide ((Sum.inl x:Key)=.inl j)=decide (x=j):=by
 by_cases h:x=j
 ·rw[decide_eq_true h,decide_eq_true (congrArg _ h)]
 ·rw[decide_eq_false h,decide_eq_false λz=>h (Sum.inl.inj z)]
theorem Ml{ws:Wt}{j x:Int}:jw (ws.map enI) (.inl j) (.i x)=(tV ws j x).map enI:=by
 unfold jw tV;have e:((ws.map enI).any λp=>decide (p.1=(.inl j:Key)))=ws.any λp=>decide (p.1=j):=by
  rw[Xs];exact congrArg (ws.any ·) (funext λp=>wO p.1 j)
 rw[e]
 split
 ·rw[u4,u4];refine Xp λp _=>?_
  show(if(Sum.inl p.1:Key)=.inl j then _ else _)=enI (if p.1=j then(p.1,x)else p)
  by_cases h:p.1=j
  ·rw[if_pos h,if_pos (congrArg _ h)];rfl
  ·rw[if_neg h,if_neg λz=>h (Sum.inl.inj z)]
 ·rw[pz];rfl
theorem NH{ws:Wt}{j:Int}:(cw (ws.map enI) (.inl j)).getD (.i 0)=.i (Bx ws j):=by
 unfold cw Bx;rw[List.find?_map];have e:((λp:Key×L2.T=>decide (p.1=.inl j)) ∘ enI)=λp:Int×Int=>decide (p.1=j):=funext λp=>wO p.1 j
 rw[e];cases ws.find? λp=>decide (p.1=j) <;> rfl
theorem nH{ws:Wt}{j x:Int}:(tV ws j x).map (·.1)=if(ws.any λp=>decide (p.1=j))=O then ws.map (·.1)else ws.map (·.1)++[j]:=by
 unfold tV
 split
 ·rw[u4];exact Xp λp _=>by show(if p.1=j then(p.1,x)else p).1=p.1;split <;> rfl
 ·rw[pz];rfl
theorem Mm{ws:Wt}{j x:Int}(h:(ws.map (·.1)).Nodup):((tV ws j x).map (·.1)).Nodup:=by
 rw[nH]
 split
 ·exact h
 ·rename_i z;refine Fs.mpr (h,by simp,λa ha b g e=>z ?_)
  rw[fy.mp g]at e;subst e;let(p,hp,e):=n8.mp ha;exact WX.mpr (p,hp,decide_eq_true e)
theorem HW{ws:Wt}{j x k:Int}(h:k∈(tV ws j x).map (·.1)):k=j\/k∈ws.map (·.1):=by
 rw[nH]at h
 split at h
 ·exact .inr h
 ·obtain z|z:=n6.mp h
  ·exact .inr z
  ·exact .inl (fy.mp z)
theorem HX{ws:Wt}{j x:Int}:(tV ws j x).length<=ws.length+1:=by
 have:=congrArg N9 (nH (ws:=ws) (j:=j) (x:=x))
 rw[dN]at this;rw[this]
 split <;> simp
theorem fY{kvs:List (List Key×V)}:∀{ps:bG}{ws:Wt},(ws.map (·.1)).Nodup->((ps.foldl (addW kvs) ws).map (·.1)).Nodup/\(ps.foldl (addW kvs) ws).length<=ws.length+ps.length/\∀k∈(ps.foldl (addW kvs) ws).map (·.1),k∈ws.map (·.1)\/∃p∈ps,k=plc kvs p.1
 |[],ws,h=>(h,ot _,λk hk=>.inl hk)
 |p::r,ws,h=>by
  let(h1,h2,h3):=fY (kvs:=kvs) (ps:=r) (ws:=addW kvs ws p) (Mm h)
  have:=HX (ws:=ws) (j:=plc kvs p.1) (x:=Bx ws (plc kvs p.1)+p.2)
  refine(h1,by rw[ri];unfold addW at h2;show(r.foldl (addW kvs) (addW kvs ws p)).length<=_;unfold addW;omega,λk hk=>?_)
  obtain z |⟨q,hq,e⟩:=h3 k hk
  ·obtain z|z:=HW z
   ·exact .inr (p,lj,z)
   ·exact .inl z
  ·exact .inr (q,jQ _ hq,e)
theorem CS:∀ws:Wt,L2.T.imk (ws.map enI)=O
 |[]=>rfl
 |p::r=>by show(O&&L2.T.imk (r.map enI))=O;rw[CS r];rfl
theorem g9:∀f:Fam,me (f.map kT)=Z f
 |[]=>rfl
 |k::r=>by
  have e:(kT k).key=Z k:=by cases k <;> rfl
  show(match(kT k).key,me (r.map kT)with|some k,Z r=>Z (k::r)|_,_=>Y)=_
  rw[e,g9 r]
def tPI(p:Int×Int):L2.T:=.t [.i p.1,.i p.2]
theorem CB:∀ws:Wt,cv (ws.map tPI)=Z (ws.map enI)
 |[]=>rfl
 |k::r=>by
  show(match(Z (.inl k.1):Option Key),cv (r.map tPI)with|some k',Z r=>Z ((Prod.mk k' (L2.T.i k.2))::r)|_,_=>Y)=_
  rw[CB r];rfl
theorem R8{ws:Wt}(h:(ws.map (·.1)).Nodup):cZ [] (ws.map enI)=ws.map enI:=by
 rw[ma]
 ·rfl
 ·rw[u4]
  have:(ws.map ((λx:Key×L2.T=>x.1) ∘ enI))=(ws.map (·.1)).map Sum.inl:=by rw[u4];rfl
  rw[this];exact Xl.mpr (h.imp λg z=>g (Sum.inl.inj z))
 ·intro p hp q hq;exact absurd hq xy
inductive Ic(ts:List L2.T)(Q:L2.T->Prop):Prop
 |mk(kvs:List (List Key×V))(A:L2.T)(pr:bG)(h1:ts=[.fz (.dT kvs),A])(h2:(A=.t (pr.map tH1)\/A=.l (pr.map tH1)))(h3:pr.length<=10000)(h4:(∀p∈pr,∃j:Int,cC kvs p.1=Z (.int j)))(h5:∀o vs,Q (.fd o vs ((kg kvs pr).map enI)))
theorem uT(T:Txt K mg a):bj P w K mg base CX0 1 a.mD a.y7 ["places","pairs"] (spQ K Ic):=by
 refine T.tD.F.okQ jX (λ_ _ _ _ _ _ hr=>?_)
 ·have hu:=bD hr;refine(_,_,((ag (aA 2 jX.nd Mg)
 (ag (bE (g:=(Tg.tp [3,4])) PassesOwn.never U (Hu (i:=1) (pv 1)) (dz (bp 3 jX.nd) (bp 4 jX.nd))
 (aj (qS (i:=2) hu (pv 2) (Zi (HB (Jx hr) (qv 0) (qv 3))) (Zi (a8 (Me hu (qv 2) (Zi (HB (Jx hr) (qv 0) (qv 3))) ah) (qv 4))))))
 (aj (qT (i:=2) (aD (pK (aV (cE U) dG ba T.ft (by kernel_rfl) (ae (Zi (cp U (ya (qv 2)) (N':=["place","weight"]) (.own U (.own U .nil)) (AA (g:=(Tg.tp [0,1])) (λ_ _ _ _ _=>((dz (c9 0) (c9 1)),(bV Oz GD (bN _) (qv 1) ah),(aq (af (Zj (qv 0)) (af (Zj (qv 1)) ai)))))))) ax))))))))),λts Q h=>?_)
  let(kvs,A,pr,U,hA,hl,ak,hq):=h;have st:∀c,((pr.take c).foldl (addW kvs) []).length<=10000:=λc=>by
   have:=(fY (kvs:=kvs) (ps:=pr.take c) (ws:=[]) ad).2.1
   rw[sR]at this;simp at this
   omega
  obtain rfl|rfl:=hA
  all_goals
   refine(λc q=>∃(A:Sl)(o3 V:Sl)(D:List (Key×L2.T)),q=[.r (.fz (.dT kvs)),A,.o (.d D),o3,V]/\D=((pr.take c).foldl (addW kvs) []).map enI,(_,_,_,_,U,U),?_,?_)
   ·rintro c y q z ⟨A,o3,V,D,rfl,rfl⟩
    rw[gV]at z;let((fam,x),hz,U):=g5.mp z;let(j,hj):=ak _ (mu hz);have ej:plc kvs fam=j:=by unfold plc;rw[hj]
    have s0:=st c;refine(_,U,((fam,j),(g9 fam,hj),?_));dsimp only[L2.T.key,qC];rw[NH];refine((fam,j),(g9 fam,hj),cc (by rw[dN];omega),CS _,U,_,_,_,_,U,?_)
    rw[ro,hz,Ym,Ml,<- ej];rfl
   ·rintro q ⟨A,o3,V,D,rfl,rfl⟩
    rw[dN,sP];let(h1,h2,_):=fY (kvs:=kvs) (ps:=pr) (ws:=[]) ad
    have h2:(pr.foldl (addW kvs) []).length<=10000:=by simp at h2;omega
    refine(CS _,λo vs=>?_)
    refine(cc (by rw[dN,dN];omega),λc ys=>ys=(((pr.foldl (addW kvs) []).take c).filter nz).map tPI,U,?_,?_)
    ·rintro c y ys z rfl
     rw[u4,gV]at z;let(p,hp,U):=g5.mp z;have et:(pr.foldl (addW kvs) []).take (c+1)=(pr.foldl (addW kvs) []).take c++[p]:=by rw[ro,hp];rfl
     rw[et,List.filter_append,pz];refine(_,U,U,aI (λg=>?_) λg=>?_)
     ·have g:nz p=true:=g;have e:[p].filter nz=[p]:=QG g;rw[e];exact(U,U,U)
     ·have g:¬ nz p=true:=g;have e:[p].filter nz=[]:=WY g;rw[e];exact(rD _).symm
    ·rintro ys rfl
     rw[dN,dN,sP];refine(a5 (λ_=>rfl) _,_,CB _,?_)
     rw[R8 (List.Nodup.sublist (List.Sublist.map _ YQ) h1)];exact(CS _,λo vs=>hq o vs)
def ji(u:Fam):L2.T:=.t (u.map kT)
theorem C4{u v:Fam}(h:ji u=ji v):u=v:=by
 have h:L2.T.t (u.map kT)=.t (v.map kT):=h;injection h with h
 have e:=g9 u;rw[h,g9]at e;exact(Option.some.inj e).symm
section
variable{ks:List Kd}{fs:List Fn}{xs:List (Fn×List (Option Str))}
theorem yW{fam:List L2.T}{k m:Str}(h:m∈ff ks k ks):L2.T.t (fam++[.s m])∈my ks fam k:=n8.mpr (m,h,U)
theorem zW{i:Nat}{t:L2.T}{p:Str×Str}:∀{k:Nat},sc[l]?=Z p->t∈my ks [.s "param",iN i,iN (k+l)] p.2->t∈eB ks i k sc:=by
 induction sc generalizing l with
 |nil=>intro k h;simp at h
 |cons y r q =>
  intro k h g;show t∈my ks [.s "param",iN i,iN k] y.2++eB ks i (k+1) r;cases l with
  |zero=>cases h;exact qp _ g
  |succ l=>exact qg _ (q (l:=l) (h:) (by rw[show k+1+l=k+(l+1)by omega];exact g))
theorem DU{i:Nat}{t:L2.T}:∀{n:Nat},os[l]?=Z o->t∈xO ks i (n+l) o->t∈dS ks i n os:=by
 induction os generalizing l with
 |nil=>intro k h;simp at h
 |cons y r q =>
  intro n h g;show t∈xO ks i n y++dS ks i (n+1) r;cases l with
  |zero=>cases h;exact qp _ g
  |succ l=>exact qg _ (q (l:=l) (h:) (by rw[show n+1+l=n+(l+1)by omega];exact g))
theorem DV{t:L2.T}{x:Fn×List (Option Str)}:∀{xs:List (Fn×List (Option Str))}{i j:Nat},xs[j]?=Z x->t∈kC ks (i+j) x.1 x.2->t∈cW ks i xs:=by
 intro xs
 induction xs with
 |nil=>intro i j h;simp at h
 |cons y r q =>
  intro i j h g;show t∈kC ks i y.1 y.2++cW ks (i+1) r;cases j with
  |zero=>cases h;exact qp _ g
  |succ j=>exact qg _ (q (j:=j) (h:) (by rw[show i+1+j=i+(j+1)by omega];exact g))
theorem UOk.of(K:Unk ks fs xs){i:Nat}{x:Fn×List (Option Str)}(hx:xs[i]?=Z x):UOk (· ∈ cW ks 0 xs) ks fs i x.2:=by
 have at_:∀{j:Nat}{g:Fn},fs[j]?=Z g->∃os,xs[j]?=Z (g,os):=λ{j g} h=>by
  have:=congrArg (·[j]?) K.fn
  simp only[gV,h]at this;let(y,q,e):=g5.mp this;exact(y.2,by rw[q,<- e])
 have go:∀{t:L2.T}{j:Nat}{g:Fn}{os:List (Option Str)},xs[j]?=Z (g,os)->t∈kC ks j g os->t∈cW ks 0 xs:=λ{t j g os} h z=>DV (j:=j) h (by rw[Ks];exact z)
 refine(λj g k p h1 h2 m hm=>?_,λj g h1=>?_,λj g h1=>?_,λj g h1 m hm=>?_,λn k h1 m hm=>?_)
 ·let(os,h3):=at_ h1;refine go h3 ?_;unfold kC;refine qp _ (qp _ (qp _ (qp _ (zW (k:=0) h2 ?_))));rw[Ks];exact yW hm
 ·let(os,h3):=at_ h1;refine go h3 ?_;unfold kC;exact qp _ (qp _ (qp _ (qg _ (fy.mpr U))))
 ·let(os,h3):=at_ h1;refine go h3 ?_;unfold kC;exact qp _ (qg _ (fy.mpr U))
 ·let(os,h3):=at_ h1;refine go h3 ?_;unfold kC;exact qp _ (qp _ (qg _ (yW hm)))
 ·refine go (g:=x.1) (os:=x.2) hx ?_;unfold kC;refine qg _ (DU (n:=0) h1 ?_);rw[Ks];exact n8.mpr (m,hm,U)
def oF(u:Fam):Prop:=u.length<=10/\∃s r,u=.inr s::r
theorem Ll:∃us:List Fam,cW ks 0 xs=us.map ji/\∀u∈us,oF u:=by
 have lift:∀l:List L2.T,(∀t∈l,∃u,t=ji u/\oF u)->∃us:List Fam,l=us.map ji/\∀u∈us,oF u:=by
  intro l
  induction l with
  |nil=>intro _;exact([],U,nofun)
  |cons t r q =>
   intro h;let(u,U,P):=h t lj;let(us,U,K):=q λt g=>h t (jQ _ g)
   exact(u::us,U,λv hv=>(pj.mp hv).elim (λe=>e▸P) (K v))
 have fam:∀(s0:Str)(fm:Fam)(k:Str),fm.length<=8->∀t∈my ks ((.inr s0::fm:Fam).map kT) k,∃u,t=ji u/\oF u:=λs0 fm k h9 t g=>by
  let(m,_,U):=n8.mp g;exact(.inr s0::fm++[.inr m],by unfold ji;rw[pz];rfl,by rw[jR,ri,vb];omega,_,_,U)
 have par:∀(sc:Sc)(i k:Nat),∀t∈eB ks i k sc,∃u,t=ji u/\oF u:=by
  intro sc
  induction sc with
  |nil=>intro i k t g;cases g
  |cons p r q =>
   intro i k t g;obtain z|z:=n6.mp g
   ·exact fam "param" [.inl i,.inl k] p.2 (by show 2<=8;decide) t z
   ·exact q i (k+1) t z
 have ps:∀(os:List (Option Str))(i n:Nat),∀t∈dS ks i n os,∃u,t=ji u/\oF u:=by
  intro os
  induction os with
  |nil=>intro i k t g;cases g
  |cons o r q =>
   intro i n t g;obtain z|z:=n6.mp g
   ·cases o with
    |none=>cases z
    |some k=>exact fam "piece" [.inl i,.inl n] k (by show 2<=8;decide) t z
   ·exact q i (n+1) t z
 have all:∀(xs:List (Fn×List (Option Str)))(i:Nat),∀t∈cW ks i xs,∃u,t=ji u/\oF u:=by
  intro xs
  induction xs with
  |nil=>intro i t g;cases g
  |cons x r q =>
   intro i t g;obtain z|z:=n6.mp g
   ·unfold kC at z;obtain z|z:=n6.mp z
    ·obtain z|z:=n6.mp z
     ·obtain z|z:=n6.mp z
      ·obtain z|z:=n6.mp z
       ·exact par _ _ _ t z
       ·exact([.inr "first",.inl i],fy.mp z,by show 2<=10;decide,_,_,U)
      ·exact fam "result" [.inl i] _ (by show 1<=8;decide) t z
     ·exact([.inr "last",.inl i],fy.mp z,by show 2<=10;decide,_,_,U)
    ·exact ps _ _ _ t z
   ·exact q (i+1) t z
 exact lift _ (all xs 0)
end
def fX:Nat->List Fam->List (List Key×V)
 |_,[]=>[]
 |k,u::r=>(u,.int k)::fX (k+1) r
def plD(us:List Fam):List (List Key×V):=gn [] (fX 0 us)
theorem BA{us:List Fam}{u:Fam}:∀{k:Nat},fX k (us++[u])=fX k us++[(u,.int ((k+us.length:Nat):Int))]:=by
 induction us with
 |nil=>intro k;rfl
 |cons v r g=>intro k;show _::fX (k+1) (r++[u])=_::_;rw[g,ri,show k+1+r.length=k+(r.length+1)by omega];rfl
theorem uV{R:V->Prop}{u:List Key}:∀{more kvs:List (List Key×V)},(∀p∈more,R p.2)->((∃v,cC kvs u=Z v/\R v)\/u∈more.map (·.1))->∃v,cC (gn kvs more) u=Z v/\R v
 |[],kvs,_,h=>by
  obtain h|h:=h
  ·exact h
  ·cases h
 |p::r,kvs,g,h=>by
  show ∃v,cC (gn (putK kvs p.1 p.2) r) u=Z v/\R v
  refine uV (λq hq=>g q (jQ _ hq)) ?_
  rw[F5];by_cases e:u=p.1
  ·rw[if_pos e];exact .inl (_,U,g p lj)
  ·rw[if_neg e];obtain h|h:=h
   ·exact .inl h
   ·obtain z|z:=pj.mp h
    ·exact absurd z e
    ·exact .inr z
theorem E8{us:List Fam}:∀{k:Nat},∀p∈fX k us,∃j:Nat,p.2=.int j/\j<k+us.length:=by
 induction us with
 |nil=>intro k p hp;cases hp
 |cons u r g =>
  intro k p hp;obtain rfl|hp:=pj.mp hp
  ·exact(k,U,by rw[ri];omega)
  ·let(j,h1,h2):=g p hp;exact(j,h1,by rw[ri];omega)
theorem BB{us:List Fam}:∀{k:Nat},(fX k us).map (·.1)=us:=by
 induction us with
 |nil=>intro k;rfl
 |cons u r g=>intro k;show u ::(fX (k+1) r).map (·.1)=_;rw[g]
theorem Ug{us:List Fam}{u:Fam}(h:ji u∈us.map ji):∃j:Nat,cC (plD us) u=Z (.int j)/\j<us.length:=by
 let(v,hv,e):=n8.mp h;obtain rfl:=C4 e;let(x,h1,j,h2,h3):=uV (R:=λx=>∃j:Nat,x=.int j/\j<us.length) (u:=v) (more:=fX 0 us) (kvs:=[]) (λp hp=>by let(j,a,b):=E8 p hp;exact(j,a,by omega)) (.inr (by rw[BB];exact hv))
 rw[h2]at h1;exact(j,h1,h3)
theorem ym{us:List Fam}:∀{k:Nat},j4 ((fX k us).map λp=>.t [.t (p.1.map kT),match p.2 with|.int x=>.i x|_=>.n])=Z (fX k us):=by
 induction us with
 |nil=>intro k;rfl
 |cons u r g =>
  intro k;have e:yo (.t [.t (u.map kT),.i (k:Int)])=Z (u,.int k):=by
   show(me (u.map kT)).map _=_;rw[g9];rfl
  show(match yo (.t [.t (u.map kT),.i (k:Int)]),j4 ((fX (k+1) r).map _)with|some p,Z ps=>Z (p::ps)|_,_=>Y)=_
  rw[e,g];rfl
structure Row where
 nm:List L2.T
 ws:Wt
 sp:Int
inductive IsR(N:Nat):L2.T->Row->Prop
 |mk{r:Row}{o:Obj}{vs:List (Key×V)}:(∀p∈r.ws,∃j:Nat,p.1=(j:Int)/\j<N)->L2.T.ims r.nm=O->r.ws.length<=60->(r.ws.map (·.1)).Nodup->(∀p∈r.ws,-100000<=p.2/\p.2<=100000)->IsR N (.t [.t r.nm,.fd o vs (r.ws.map enI),.i r.sp]) r
structure Rws(N:Nat)(ys:List L2.T)(rs:List Row):Prop where
 ln:ys.length=rs.length
 ok:∀(i:Nat)(y:L2.T)(r:Row),ys[i]?=Z y->rs[i]?=Z r->IsR N y r
theorem Rws.nil:Rws N [] []:=(U,λi y r h=>by simp at h)
variable{rs:List Row}
theorem Rws.app{ys g:List L2.T}{q:List Row}(h:Rws N ys rs)(h':Rws N g q):Rws N (ys++g) (rs++q):=by
 refine(by rw[jR,jR,h.ln,h'.ln],λi y r h1 h2=>?_)
 by_cases hi:i<ys.length
 ·rw[Dr hi]at h1;rw[Dr (by rw[<- h.ln];exact hi)]at h2
  exact h.ok i y r h1 h2
 ·rw[M1 ap]at h1
  rw[M1 (by rw[<- h.ln];omega),<- h.ln]at h2
  exact h'.ok _ y r h1 h2
theorem Rws.one{y:L2.T}{r:Row}(h:IsR N y r):Rws N [y] [r]:=(U,λi g q h1 h2=>by
 cases i with
 |zero=>cases h1;cases h2;exact h
 |succ i=>simp at h1)
def Bq(ho:List (Str×bG))(x:Str):bG:=((ho.find? λp=>decide (p.1=x)).map (·.2)).getD []
theorem EY{p:Str×bG}(h:(ho.map (·.1)).Nodup)(hp:p∈ho):Bq ho p.1=p.2:=by
 unfold Bq
 induction ho with
 |nil=>cases hp
 |cons q r g =>
  have h':=v3.mp h;rw[Pt];obtain rfl|z:=pj.mp hp
  ·rw[decide_eq_true rfl];rfl
  ·have e:q.1≠p.1:=λe=>h'.1 (n8.mpr (p,z,e.symm))
   rw[decide_eq_false e];exact g h'.2 z
def DT(kvs:List (List Key×V))(i n:Nat)(ho:List (Str×bG))(x m:Str):Row:=([.s "use",iN i,iN n,.s x,.s m],kg kvs ((Bq ho x).map λq=>(q.1++[.inr m],q.2)),0)
noncomputable def lD(ks:List Kd)(kvs:List (List Key×V))(i n:Nat)(ho:List (Str×bG))(sc:Sc):List Row:=sc.flatMap λp=>(ff ks p.2 ks).map (DT kvs i n ho p.1)
theorem uF{ks:List Kd}(g:cI ks){i:Nat}:(lD ks kvs i n ho sc).length<=36*sc.length:=mw sc λp _=>by
 rw[dN]
 have:=g.wl (k:=p.2) (xs:=ks) λ_ h=>h
 have:=g.k2
 omega
def N5(N:Nat)(kvs:List (List Key×V))(u:Fam):Prop:=∃j:Nat,cC kvs u=Z (.int j)/\j<N/\u.length<=10
theorem B5{ps:bG}(h:∀p∈ps,N5 N kvs p.1):∀p∈kg kvs ps,∃j:Nat,p.1=(j:Int)/\j<N:=λp hp=>by
 have hp:=(XQ.mp hp).1;let(_,_,h3):=fY (kvs:=kvs) (ps:=ps) (ws:=[]) ad
 obtain z |⟨q,hq,e⟩:=h3 p.1 (n8.mpr (p,hp,rfl))
 ·cases z
 ·let(j,h1,h2,_):=h q hq;exact(j,by rw[e];unfold plc;rw[h1],h2)
theorem IU:∀{l l':List Int},l.Nodup->(∀x∈l,x∈l')->l.length<=l'.length
 |[],_,_,_=>FI _
 |x::r,l',hn,h=>by
  have hx:=h x lj;have g:=v3.mp hn
  have:=IU (l:=r) (l':=l'.erase x) g.2 λy q=>(List.mem_erase_of_ne λe=>g.1 (by rw[<- e];exact q)).mpr (h y (jQ _ q))
  have e:=List.length_erase_of_mem hx
  have:=W5.mpr (List.ne_nil_of_mem hx)
  rw[ri]
  omega
theorem Mn{ws:Wt}{j x:Int}{p:Int×Int}(h:p∈tV ws j x):p∈ws\/p.2=x:=by
 unfold tV at h
 split at h
 ·let(q,hq,U):=n8.mp h;by_cases e:q.1=j
  ·rw[if_pos e];exact .inr U
  ·rw[if_neg e];exact .inl hq
 ·obtain z|z:=n6.mp h
  ·exact .inl z
  ·rw[fy.mp z];exact .inr U
theorem NJ{ws:Wt}{j:Int}:Bx ws j=0\/∃p∈ws,Bx ws j=p.2:=by
 unfold Bx;cases h:ws.find? λp=>decide (p.1=j)with
 |none=>exact .inl U
 |some p=>exact .inr (p,Yg h,U)
theorem Dk{kvs:List (List Key×V)}:∀{ps:bG}{ws:Wt}{Zg:Int},0<=Zg->(∀p∈ps,-1<=p.2/\p.2<=1)->(∀p∈ws,-Zg<=p.2/\p.2<=Zg)->∀p∈ps.foldl (addW kvs) ws,-(Zg+ps.length)<=p.2/\p.2<=Zg+ps.length
 |[],ws,Zg,_,_,h,p,hp=>by
  have:=h p hp
  rw[Xb]
  omega
 |q::r,ws,Zg,h0,h1,h,p,hp=>by
  have hq:=h1 q lj
  have:=Dk (kvs:=kvs) (ps:=r) (ws:=addW kvs ws q) (Zg:=Zg+1) ap (λp hp=>h1 p (jQ _ hp)) (λp hp=>by
   obtain z|z:=Mn hp
   ·have:=h p z;omega
   ·rw[z];obtain e |⟨y,g,e⟩:=NJ (ws:=ws) (j:=plc kvs q.1)
    ·rw[e];omega
    ·rw[e];have:=h y g;omega) p hp
  rw[ri]
  omega
theorem B6{ps:bG}(hl:ps.length<=100000)(h:∀p∈ps,p.2=1\/p.2 = -1):∀p∈kg kvs ps,-100000<=p.2/\p.2<=100000:=λp hp=>by
 have:=Dk (kvs:=kvs) (ps:=ps) (ws:=[]) (Zg:=0) ac (λq hq=>by have:=h q hq;omega) nofun p (XQ.mp hp).1
 omega
theorem vL{ps:bG}:((kg kvs ps).map (·.1)).Nodup:=by
 have h1:=(fY (kvs:=kvs) (ps:=ps) (ws:=[]) ad).1
 exact List.Nodup.sublist (List.Sublist.map _ YQ) h1
theorem Lu{ps:bG}:(kg kvs ps).length<=ps.length:=by
 have h2:=(fY (kvs:=kvs) (ps:=ps) (ws:=[]) ad).2.1
 have h3:=YC nz (ps.foldl (addW kvs) []);unfold kg;simp at h2
 omega
theorem Gu{ps:bG}{FS:List Fam}(h:∀p∈ps,p.1∈FS):(kg kvs ps).length<=FS.length:=by
 have:=IU (l:=(kg kvs ps).map (·.1)) (l':=FS.map (plc kvs)) vL λx hx=>by
  let(p,hp,U):=n8.mp hx;let(_,_,h3):=fY (kvs:=kvs) (ps:=ps) (ws:=[]) ad
  obtain z |⟨q,hq,e⟩:=h3 p.1 (n8.mpr (p,(XQ.mp hp).1,rfl))
  ·cases z
  ·rw[e];exact n8.mpr (_,h q hq,U)
 rw[dN,dN]at this;exact this
inductive Ek(C:J)(ts:List L2.T)(Q:L2.T->Prop):Prop
 |mk(ks:List Kd)(fs:List Fn)(i n N:Nat)(kvs:List (List Key×V))(S:L2.T)(d:Sd)(h1:ts=[tPr ks fs,iN n,.fz (.dT kvs),S])(h2:Prog ks fs)(h3:IsS C i S d)(h4:(d.sc.map (·.1)).Nodup)(h5:d.ho.map (·.1)=d.sc.map (·.1))(h6:d.sc.length<=372)(h7:(∀p∈d.ho,p.2.length<=5000))(h8:(∀p∈d.ho,∀k,(p.1,k)∈d.sc->∀q∈p.2,∀m∈ff ks k ks,N5 N kvs (q.1++[.inr m])))(h9:(∃FS:List Fam,FS.length<=60/\∀p∈d.ho,∀q∈p.2,q.1∈FS/\(q.2=1\/q.2 = -1)))(h10:∀ys,Rws N ys (lD ks kvs i n d.ho d.sc)->Q (.l ys))
theorem yt(T:Txt K mg a):bj P w K mg base CX0 4 a.iO a.sr ["program","n","places","stand"] (spQ K (Ek a.aM)):=by
 refine T.tw.F.okQ dI (λ_ _ _ _ _ _ hr=>?_)
 ·have hu:=bD hr;refine(_,_,((ag (aA 4 dI.nd (aP ai))
 (ag (bE (g:=(Tg.tp [5,6])) PassesOwn.never U (Hv (aZ T.bh T.cY (qv 3))) (dz (bp 5 dI.nd) (bp 6 dI.nd))
 (aj (bE (g:=(Tg.nm 7)) PassesOwn.never U (jv (aL (uS T) hr T.tu (ae (av (qv 0) ah) (ae (qv 6) ax)))) (bp 7 dI.nd)
 (ag (gi (i:=8) dI.nd U (Or.inl U) U (kL (cO (aZ T.bh T.cQ (qv 3)) (qv 5))) (N':=["family","times","maker"]) (.own U (.own U (.got (i:=7) U U (.inl U) .nil))) (cm (g:=(Tg.tp [0,1])) (λ_ _ _ _ _=>((dz (c9 0) (c9 1)),(aq (af (a8 (qv 0) (Zi (aq (af (Zj (qv 2)) ai)))) (af (Zj (qv 1)) ai)))))))
 (aj (bx (i:=4) (pv 4) (aq (af (aq (af aH (af (Zj (aZ T.bh T.dH (qv 3))) (af (Zj (qv 1)) (af (Zj (qv 5)) (af (Zj (qv 7)) ai)))))) (af (aL (uT T) hr T.tD (ae (qv 2) (ae (qv 8) ax))) (af bw ai))))))))))
 (aj (fF (i:=4) (pv 4)))))),λts Q h=>?_)
  let(ks,fs,i,n,N,kvs,S,d,U,hP,hS,nd,hk,br,bg,a0,(FS,Wi,UX),hq):=h;have gk:=hP.gk;cases hS with
  |@mk _ o1 o2 v1 v2 =>
   refine(U,ac,_,U,?_)
   refine(λc q=>∃(X:List L2.T)(o5 o6 o7 o8:Sl),q=[.r (tPr ks fs),.r (iN n),.r (.fz (.dT kvs)),.r (.ob a.aM ["f","free","spent","kinds","holdings"] [iN i,tHo d.fr,.i d.sp,.fd o1 v1 (d.sc.map enP),.fd o2 v2 (d.ho.map enH)]),.o (.l X),o5,o6,o7,o8]/\Rws N X (lD ks kvs i n d.ho (d.sc.take c)),([],_,_,_,_,U,.nil),?_,?_)
   ·rintro c y q hy ⟨X,o5,o6,o7,o8,rfl,hX⟩
    rw[u4,gV]at hy;let((x,k),hz,U):=g5.mp hy;have hm:=mu hz;have aW:x∈d.ho.map (·.1):=by rw[hk];exact n8.mpr (_,hm,U)
    let((x',h),hp,e):=n8.mp aW;have e:x'=x:=e;subst e;have a3:=md (f:=λp:Str×bG=>p.1) (g:=λp=>tHo p.2) (by rw[hk];exact nd) hp
    have bb:=EY (by rw[hk];exact nd) hp
    have ak:=bg _ hp;have ar:=a0 _ hp k hm;have ez:lD ks kvs i n d.ho (d.sc.take (c+1))=lD ks kvs i n d.ho (d.sc.take c)++(ff ks k ks).map (DT kvs i n d.ho x'):=by
     unfold lD;rw[ro,hz,YO];exact congrArg _ (rD _)
    have wl:=gk.wl (k:=k) (xs:=ks) λ_ h=>h
    have k6:=gk.k2;have ul:=uF gk (kvs:=kvs) (i:=i) (n:=n) (ho:=d.ho) (sc:=d.sc.take c);rw[sR]at ul;refine(_,U,_,U,ks,k,U,gk,?_);refine(λj q=>∃(X:List L2.T)(o7 o8:Sl),q=[.r (tPr ks fs),.r (iN n),.r (.fz (.dT kvs)),.r (.ob a.aM ["f","free","spent","kinds","holdings"] [iN i,tHo d.fr,.i d.sp,.fd o1 v1 (d.sc.map enP),.fd o2 v2 (d.ho.map enH)]),.o (.l X),.r (.s x'),.r (.s k),o7,o8]/\Rws N X (lD ks kvs i n d.ho (d.sc.take c)++((ff ks k ks).take j).map (DT kvs i n d.ho x')),(X,_,_,U,by rw[YJ,List.map_nil,rD];exact hX),?_,?_)
    ·rintro j y q hy ⟨X,o7,o8,rfl,hX⟩
     rw[gV]at hy;let(m,aR,U):=g5.mp hy;have ay:=mu aR;have bt:X.length<=15000:=by
      have:=hX.ln
      rw[jR,dN,sR]at this
      omega
     refine(_,U,U,ac,_,U,?_)
     simp only[gj,L2.T.dof];refine(_,a3,?_);refine(bA (by rw[dN];show _<=10000;omega),λc ys=>ys=((h.take c).map λq=>(q.1++[(.inr m:Key)],q.2)).map tH1,U,?_,?_)
     ·rintro c' y ys hy rfl
      rw[gV]at hy;let((fam,tm),aN,U):=g5.mp hy;let(_,_,_,h10):=ar _ (mu aN) m ay;have h10:fam.length+1<=10:=(h10:)
      refine(_,U,U,bA (by rw[dN];show fam.length+1<=10000;omega),kW _,U,U,?_)
      rw[ro,aN,pz,pz];show _++[L2.T.t [.t (fam.map kT++[.s m]),.i tm]]=_++[L2.T.t [.t ((fam++[(.inr m:Key)]).map kT),.i tm]];rw[pz];rfl
     ·rintro ys rfl
      rw[dN,sP];refine(cc ap,?_)
      have Wa:∀p∈kg kvs ((h.map λq=>(q.1++[(.inr m:Key)],q.2))),∃j:Nat,p.1=(j:Int)/\j<N:=B5 λp V=>by
       let(q,z,U):=n8.mp V;exact ar q z m ay
      refine(U,ac,_,U,U,U,U,U,kvs,_,h.map λq=>(q.1++[(.inr m:Key)],q.2),U,.inr U,by rw[dN];have ak:h.length<=5000:=ak;omega,λp V=>?_,λo vs=>?_)
      ·let(q,z,U):=n8.mp V;let(jj,h1,_):=ar q z m ay;exact(_,h1)
      ·have hR:IsR N (.t [.t [.s "use",iN i,iN n,.s x',.s m],.fd o vs ((kg kvs (h.map λq=>(q.1++[(.inr m:Key)],q.2))).map enI),.i 0]) (DT kvs i n d.ho x' m):=by
        have:=@IsR.mk N (DT kvs i n d.ho x' m) o vs
        unfold DT at this ⊢;rw[bb]at this ⊢;refine this Wa U (ui (Gu (FS:=FS.map λu=>u++[(.inr m:Key)]) λp V=>?_) (by rw[dN];exact Wi)) vL (B6 (by rw[dN];have ak:h.length<=5000:=ak;omega) λp V=>?_)
        ·let(q,z,U):=n8.mp V;exact n8.mpr (_,(UX _ hp q z).1,U)
        ·let(q,z,U):=n8.mp V;exact(UX _ hp q z).2
       refine(_,_,_,U,?_);rw[ro,aR,pz,<- xx];exact hX.app (.one hR)
    ·rintro q ⟨X,o7,o8,rfl,hX⟩
     rw[dN,sP,<- ez]at hX;exact(X,_,_,_,_,U,hX)
   ·rintro q ⟨X,o5,o6,o7,o8,rfl,hX⟩
    rw[dN,dN,sP]at hX;exact hq X hX
noncomputable def sdW(ks:List Kd)(fs:List Fn)(i:Nat)(f:Fn)(L:List Nod)(n:Nat)(e:Nod):Sd:=open Classical in if h:∃d g us fr sp,Std ks fs i f L e g/\fZ fs i n e.b us fr sp/\d=g.wth us fr sp then h.choose else Kb i f
theorem P2{ks:List Kd}{fs:List Fn}{i:Nat}{f:Fn}(hn:(fs.map (·.1.1)).Nodup)(h1:Std ks fs i f L e d)(h2:fZ fs i n e.b us fr sp):sdW ks fs i f L n e=d.wth us fr sp:=by
 unfold sdW;have h:∃d g us fr sp,Std ks fs i f L e g/\fZ fs i n e.b us fr sp/\d=g.wth us fr sp:=(_,d,us,fr,sp,h1,h2,U)
 rw[dif_pos h];let(d1,q,K,z,a1,a2,P):=h.choose_spec;rw[P];obtain rfl:=a1.det hn U h1;let(U,U,U):=a2.det hn U h2;rfl
def wrd:L2.T->Str
 |.t (.s w::_)=>w
 |_=>""
def PAY:List Str:=["make","call","pay","give"]
noncomputable def chunk(ks:List Kd)(kvs:List (List Key×V))(i n:Nat)(w:Str)(d:Sd):List Row:=if w∈PAY then([.s "purse",iN i,iN n],kg kvs d.fr,d.sp) ::(if w="give" then lD ks kvs i n d.ho d.sc else [])else []
noncomputable def oW(ks:List Kd)(fs:List Fn)(kvs:List (List Key×V))(i:Nat)(f:Fn)(L:List Nod):Nat->List Nod->List Row
 |_,[]=>[]
 |n,e::r=>chunk ks kvs i n (wrd e.b) (sdW ks fs i f L n e)++oW ks fs kvs i f L (n+1) r
theorem E4{ks:List Kd}{fs:List Fn}{i:Nat}{f:Fn}{es:List Nod}:∀{n:Nat},oW ks fs kvs i f L n (es++[e])=oW ks fs kvs i f L n es++chunk ks kvs i (n+es.length) (wrd e.b) (sdW ks fs i f L (n+es.length) e):=by
 induction es with
 |nil=>intro n;show _++[]=[]++_;rw[rD];rfl
 |cons q r g=>intro n;show _++oW ks fs kvs i f L (n+1) (r++[e])=(_++_)++_;rw[g,xx,ri,show n+1+r.length=n+(r.length+1)by omega]
noncomputable def eh(ks:List Kd)(fs:List Fn)(kvs:List (List Key×V)):Nat->List (Fn×List Nod)->List Row
 |_,[]=>[]
 |i,z::r=>oW ks fs kvs i z.1 z.2 0 z.2++eh ks fs kvs (i+1) r
variable{zs:List (Fn×List Nod)}
theorem BK{ks:List Kd}{fs:List Fn}{z:Fn×List Nod}:∀{i:Nat},eh ks fs kvs i (zs++[z])=eh ks fs kvs i zs++oW ks fs kvs (i+zs.length) z.1 z.2 0 z.2:=by
 induction zs with
 |nil=>intro n;show _++[]=[]++_;rw[rD];rfl
 |cons q r g=>intro n;show _++eh ks fs kvs (n+1) (r++[z])=(_++_)++_;rw[g,xx,ri,show n+1+r.length=n+(r.length+1)by omega]
structure Nds(ks:List Kd)(fs:List Fn)(xs:List (Fn×List (Option Str)))(zs:List (Fn×List Nod)):Prop where
 fn:zs.map (·.1)=fs
 ok:∀(i:Nat)(x:Fn×List (Option Str))(z:Fn×List Nod),xs[i]?=Z x->zs[i]?=Z z->Pre ks (fs.map (·.1)) 0 (rtN z.1) z.2/\z.2.length<=100/\zA ks z.2 x.2/\∀e∈z.2,e.pa.length<=20
 l3:fs.length<=3
theorem Jc(h:n<=12000000):n<pY:=Xg h ac
def tPV(p:List Key×V):L2.T:=.t [.t (p.1.map kT),match p.2 with|.int x=>.i x|_=>.n]
theorem Snd.wrd{ks:List Kd}{b:L2.T}(S:Snd ks hs r m sc b):∃w l,b=.t (.s w::l):=by
 cases S <;> exact(_,_,U)
inductive QQ(ts:List L2.T)(Q:L2.T->Prop):Prop
 |mk(ks:List Kd)(fs:List Fn)(xs:List (Fn×List (Option Str)))(zs:List (Fn×List Nod))(us:List Fam)(h1:ts=[tPr ks fs])(h2:Prog ks fs)(h3:Unk ks fs xs)(h4:Nds ks fs xs zs)(h5:cW ks 0 xs=us.map ji)(h6:(∀u∈us,u.length<=10))(h7:∀ys,Rws us.length ys (eh ks fs (plD us) 0 zs)->ys.length<=12000000->Q (.l ys))
theorem CD(T:Txt K mg a):bj P w K mg base CX0 8 a.xb a.JY ["program"] (spQ K QQ):=by
 refine T.BX.F.okQ fE (λ_ _ _ _ _ _ hr=>?_)
 ·have hu:=bD hr;refine(_,_,((ag (aA 1 fE.nd (HD (Jx hr) T.ft (cp U (Hw U T.bz (by kernel_rfl) (ae (Zi (aL (jA T) hr T.i5 (ae (qv 0) ax))) ax)) (N':=["place","unknown"]) (.own U (.own U .nil)) (cm (g:=(Tg.tp [0,1])) (λ_ _ _ _ _=>((dz (c9 0) (c9 1)),(aq (af (Zj (qv 1)) (af (Zj (qv 0)) ai)))))))))
 (ag (aA 2 fE.nd (aP ai))
 (ag (bE (g:=(Tg.tp [3,4])) PassesOwn.never U (pJ U T.bz (by kernel_rfl) (ae (av (qv 0) ah) ax)) (dz (bp 3 fE.nd) (bp 4 fE.nd))
 (ag (aA 5 fE.nd (aL (uU T) hr T.tG (ae (av (qv 4) ah) ax)))
 (aj (bE (g:=(Tg.tp [6,7])) PassesOwn.never U (qU T.bz (aL (EA T) hr T.zy (ae (qv 0) (ae (qv 3) ax)))) (dz (bp 6 fE.nd) (bp 7 fE.nd))
 (aj (aX (bV (wB U) qF U (av (av (qv 5) (qv 6)) ah) (Zi (HC U T.Ka T.HF)))
 (ag (aA 8 fE.nd (aL (ko T) hr T.i6 (ae (qv 0) (ae (qv 6) (ae (av (qv 5) (qv 6)) (ae (qv 7) ax))))))
 (ag (bx (i:=2) (pv 2) (aq (af (aq (af aH (af (Zj (qv 3)) (af (Zj (qv 6)) ai)))) (af (aL (uT T) hr T.tD (ae (qv 1) (ae (aZ T.bh T.eU (qv 8)) ax))) (af (Zj (aZ T.bh T.dW (qv 8))) ai)))))
 (aj (aX (bB hu (av (av (qv 5) (qv 6)) ah) (Zi aH))
 (aj (c8 (i:=2) (pv 2) (aL (yt T) hr T.tw (ae (qv 0) (ae (qv 6) (ae (qv 1) (ae (qv 8) ax)))))))
 aC))))
 aC))))))
 (aj (fF (i:=2) (pv 2))))))),λts Q h=>?_)
  let(ks,fs,xs,zs,us,U,hP,hU,hN,bb,V8,hq):=h;have l8:=hP.l8;have lx:xs.length=fs.length:=by rw[<- hU.fn,dN]
  have lz:zs.length=fs.length:=by rw[<- hN.fn,dN]
  have lim:∀x∈xs,x.1.1.2.1.length<=4/\x.2.length<=50000:=λx hx=>by
   let(L,_,h5,hA):=hU.ok x hx
   have:x.1∈fs:=by rw[<- hU.fn];exact n8.mpr (x,hx,U)
   exact((hP.pk _ this).1,by rw[hA.ln];exact h5)
  have lus:us.length<=14500000:=by
   have:=ng hP.gk lim (i:=0)
   rw[bb,dN]at this
   omega
  have PL:∀{u:Fam},ji u∈cW ks 0 xs->N5 us.length (plD us) u:=λ{u} h=>by
   rw[bb]at h;let(j,h1,h2):=Ug h;let(v,hv,e):=n8.mp h;obtain rfl:=C4 e;exact(j,h1,h2,V8 v hv)
  refine(ks,fs,xs,U,hP,hU,?_);rw[bb];refine(fV (by rw[a4,dN];omega),λc ys=>ys=(fX 0 (us.take c)).map tPV,U,?_,?_)
  ·rintro c y ys hy rfl
   let(z,hz,U):=bX hy;rw[gV]at hz;let(u,b0,U):=g5.mp hz;have cG:=(iY.mp b0).1;refine(_,U,kW u,U,?_);rw[ro,b0];show _=(fX 0 (us.take c++[u])).map tPV;rw[BA,pz,sR,SM ap,Ks]
   rfl
  ·rintro ys rfl
   rw[a4,dN,sP];refine(fX 0 us,ym,?_);refine(_,U,Bl λf hf=>(hP.sn f hf).1.im,λc q=>∃(X:List L2.T)(o3 o4 o5 o6 o7 o8:Sl),q=[.r (tPr ks fs),.o (.fz (.dT (plD us))),.o (.l X),o3,o4,o5,o6,o7,o8]/\Rws us.length X (eh ks fs (plD us) 0 (zs.take c))/\X.length<=1340000*c,([],_,_,_,_,_,_,U,.nil,FI _),?_,?_)
   ·rintro c y q hy ⟨X,o3,o4,o5,o6,o7,o8,rfl,hX,aN⟩
    let(z,hz,U):=bX hy;rw[gV]at hz;let(f,hf,U):=g5.mp hz;have cG:=(iY.mp hf).1;have aM:=mu hf;have bK:xs[c]?=Z xs[c]:=gs ap
    have aW:zs[c]?=Z zs[c]:=gs ap
    have ez:zs[c].1=f:=by
     have:=congrArg (·[c]?) hN.fn
     simp only[gV,aW,hf]at this;exact Option.some.inj this
    let(hR,hL,hA,bg):=hN.ok c _ _ bK aW;have ck:=UOk.of hU bK
    generalize cS:zs[c].2=L at hR hL hA bg
    rw[ez]at hR;have cx:cn ks (fs.map (·.1)) 0 [rtN f] L:=by have:=cn.cons hR (.nil);rwa [rD]at this
    have G:=CV hP aM cx;have SN:=Ti hP aM cx;have c2:eh ks fs (plD us) 0 (zs.take (c+1))=eh ks fs (plD us) 0 (zs.take c)++oW ks fs (plD us) c f L 0 L:=by
     rw[ro,aW];show eh ks fs (plD us) 0 (zs.take c++[zs[c]])=_;rw[BK,sR,SM ap,Ks,ez,cS]
    refine(_,U,_,U,ks,fs.map (·.1),rtN f,L,U,U,U,hR,by omega,?_)
    refine(ks,fs,c,f,L,_,_,U,hP,hf,hR,by omega,hA,ck,λZf cj hY=>?_)
    refine(λn q=>∃(X:List L2.T)(o6 o7 o8:Sl),q=[.r (tPr ks fs),.o (.fz (.dT (plD us))),.o (.l X),.r (iN c),.r (tF f),.o (.l (L.map (·.b))),o6,o7,o8]/\Rws us.length X (eh ks fs (plD us) 0 (zs.take c)++oW ks fs (plD us) c f L 0 (L.take n))/\X.length<=1340000*c+13394*n,(X,_,_,_,U,by rw[YJ];show Rws _ _ (_++[]);rw[rD];exact hX,by omega),?_,?_)
    ·rintro n y q hy ⟨X,o6,o7,o8,rfl,hX,aN⟩
     let(S,hS,U):=bX hy;have cg:n<L.length:=by have:=(iY.mp hS).1;omega
     have he:L[n]?=Z L[n]:=gs cg
     generalize L[n]=e at he
     have aR:=mu he;have g:=G e aR;let(m,bt):=SN e aR;let(d,hd,hs,hg):=hY n e S he hS;have ho:xs[c].2[n]?=Z (xs[c].2[n]'(by rw[hA.ln];exact cg)):=gs _
     have hk:=hA.ok n e _ he ho;let(ak,fr,sp,u1,u2,u3):=F6 hP hf ck g.nd bt ho U hk;let(l1,l2):=u1.len;have p88:=g.p88;have ar:=hg.wth (sp:=sp) g.nd l1 l2 u2 u3;have c1:=P2 hP.hn hs u1;let(wd,l,eb):=bt.wrd;have c0:wrd e.b=wd:=by rw[eb];rfl
     have ab:atI (L.map (·.b)) (n:Int)=Z e.b:=bu (by rw[gV,he];rfl)
     have a0:atI (L2.T.s wd::l) 0=Z (.s wd):=bu (j:=0) U;have c3:oW ks fs (plD us) c f L 0 (L.take (n+1))=oW ks fs (plD us) c f L 0 (L.take n)++chunk ks (plD us) c n wd (d.wth ak fr sp):=by
      rw[ro,he];show oW ks fs (plD us) c f L 0 (L.take n++[e])=_;rw[E4,sR,SM ap,Ks,c0,c1]
     have fin:∀(Zd X':List L2.T)(bI:Sl)(C:List Row),Zd=X++X'->chunk ks (plD us) c n wd (d.wth ak fr sp)=C->Rws us.length X' C->X'.length<=13394->∃(X2:List L2.T)(o6 o7 o8:Sl),[.r (tPr ks fs),.o (.fz (.dT (plD us))),.o (.l Zd),.r (iN c),.r (tF f),.o (.l (L.map (·.b))),.r (iN n),.r S,bI]=[.r (tPr ks fs),.o (.fz (.dT (plD us))),.o (.l X2),.r (iN c),.r (tF f),.o (.l (L.map (·.b))),o6,o7,o8]/\Rws us.length X2 (eh ks fs (plD us) 0 (zs.take c)++oW ks fs (plD us) c f L 0 (L.take (n+1)))/\X2.length<=1340000*c+13394*(n+1):=λZd X' bI C hZ hC cK c4=>by
      subst hZ;exact(_,_,_,_,U,by rw[c3,<- xx,hC];exact hX.app cK,by rw[jR];omega)
     have cH:X.length<=12000000:=by omega
     have cL:=uF hP.gk (kvs:=plD us) (i:=c) (n:=n) (ho:=(d.wth ak fr sp).ho) (sc:=(d.wth ak fr sp).sc);have VZ:=g.lim;have ay:=ar.es;rw[ay]at cL;refine(_,U,_,ab,?_);rw[eb];refine(_,a0,aI (λg1=>?_) λg1=>?_)
     ·have hw:wd∈PAY:=by
       have g1:inT (.s wd) (PAY.map L2.T.s)=true:=g1;rw[dX,pP]at g1;exact g1
      refine(_,ab,ks,fs,c,n,e.b,S,d,ak,fr,sp,U,hP,bt.im,hd,u1,λu hu=>?_,(?_,?_,λq hq=>?_,?_),λS2 ct=>?_)
      ·let(k,h1,_):=u2 u hu;rw[hg.hk];exact n8.mpr (_,h1,U)
      ·rw[hg.hk];exact g.nd
      ·have:=hg.fl;omega
      ·have:=hg.hl q hq;omega
      ·have:d.ho.length=e.sc.length:=(congrArg N9 hg.hk:)
       omega
      have aM:∀p∈(d.wth ak fr sp).fr,N5 us.length (plD us) p.1:=λp hp=>PL (ar.fm p hp)
      have cQ:=ct;cases ct with
      |@mk _ o1 o2 v1 v2 =>
       refine(Jc cH,U,U,U,ac,_,U,plD us,_,(d.wth ak fr sp).fr,U,.inl U,by have:=ar.fl;omega,λp hp=>?_,λo vs=>?_)
       ·let(j,h1,_):=aM p hp;exact(_,h1)
       have hR:IsR us.length (.t [.t [.s "purse",iN c,iN n],.fd o vs ((kg (plD us) (d.wth ak fr sp).fr).map enI),.i (d.wth ak fr sp).sp]) ([.s "purse",iN c,iN n],kg (plD us) (d.wth ak fr sp).fr,(d.wth ak fr sp).sp):=IsR.mk (r:=([.s "purse",iN c,iN n],kg (plD us) (d.wth ak fr sp).fr,(d.wth ak fr sp).sp)) (B5 aM) U (ui Lu (by have:=ar.fl;have:=bg e aR;omega)) vL (B6 (by have:=ar.fl;omega) (Std.pm1 hs |>.wth u1).1)
       refine(U,ac,_,U,U,?_)
       refine(_,ab,?_);rw[eb];refine(_,a0,U,aI (λg2=>?_) λg2=>?_)
       ·have br:wd="give":=V.str.inj (of_decide_eq_true g2);refine(ks,fs,c,n,us.length,plD us,_,_,U,hP,cQ,by rw[ay];exact g.nd,by rw[ay];exact ar.hk,by rw[ay];exact VZ,λp hp=>?_,λp hp k hk q hq m hm=>?_,?_,λys a3=>?_)
        ·have:=ar.hl p hp;omega
        ·rw[ay]at hk;exact PL (ar.hm p hp k hk q hq m hm)
        ·refine(gb fs c (e.pa.map (·.1)++[n]),?_,λp hp q hq=>((hs.fam hf (hP.pk f (mu hf)).1).wth u1 hf p hp q hq,(Std.pm1 hs |>.wth u1).2 p hp q hq))
         have:=bg e aR
         have:=hN.l3
         rw[KG,jR,dN,vb]
         omega
        have cz:=a3.ln;rw[ay]at cz a3;refine(?_,?_)
        ·rw[jR,vb];exact vr (fV ap)
        ·have hC:chunk ks (plD us) c n wd (d.wth ak fr sp)=[([.s "purse",iN c,iN n],kg (plD us) (d.wth ak fr sp).fr,(d.wth ak fr sp).sp)]++lD ks (plD us) c n (d.wth ak fr sp).ho e.sc:=by
          unfold chunk;rw[if_pos hw,if_pos br,ay];rfl
         exact fin _ ([_]++ys) _ _ (xx ..) hC (Rws.app (.one hR) a3) (by rw[jR,vb];omega)
       ·have br:¬ wd="give":=λz=>g2 (by rw[z];rfl)
        exact fin _ [_] _ _ U (by unfold chunk;rw[if_pos hw,if_neg br]) (.one hR) (by show 1<=13394;decide)
     ·have hw:¬ wd∈PAY:=λz=>g1 (by
       show inT (.s wd) (PAY.map L2.T.s)=O;rw[dX,pP];exact z)
      exact fin _ [] _ _ (rD _).symm (by unfold chunk;rw[if_neg hw]) .nil ac
    ·rintro q ⟨X,o6,o7,o8,rfl,hX,aN⟩
     rw[a4,cj,sP,<- c2]at hX;rw[a4,cj]at aN;exact(X,_,_,_,_,_,_,U,hX,by omega)
   ·rintro q ⟨X,o3,o4,o5,o6,o7,o8,rfl,hX,aN⟩
    rw[a4,dN,<- lz,sP]at hX;rw[a4,dN]at aN;exact hq X hX ap
def ur(ns:List Int)(ws:Wt):Int:=(ws.map λp=>p.2*ns.getD p.1.toNat 0).sum
def dZ(parts:Int)(ns:List Int):Nat->List Row->Option Nat
 |_,[]=>Y
 |k,r::rs=>if ur ns r.ws<parts*r.sp then Z k else dZ parts ns (k+1) rs
def NW(parts:Int)(ns:List Int)(N:Nat):Prop:=parts<1\/ns.length≠N\/∃y∈ns,y<0
noncomputable def ckT(parts:Int)(ns:List Int)(N:Nat)(rs:List Row):Option L2.T:=open Classical in if NW parts ns N then Z .n else(dZ parts ns 0 rs).map iN
structure PrC(ks:List Kd)(fs:List Fn)(xs:List (Fn×List (Option Str)))(zs:List (Fn×List Nod))(us:List Fam):Prop where
 p:Prog ks fs
 u:Unk ks fs xs
 z:Nds ks fs xs zs
 e:cW ks 0 xs=us.map ji
 l:∀u∈us,u.length<=10
def ckA(W:QW)(C:J)(o:Option L2.T)(Q:Prop):Prop:=match o with
 |none=>Q
 |some t=>W C ["row"] [t]
def Sm(x:Int):Prop:=-(2 ^ 64)<x/\x<2 ^ 64
inductive AI(a:Adr)(ts:List L2.T)(Q:L2.T->Prop)(W:QW):Prop
 |mk(ks:List Kd)(fs:List Fn)(xs:List (Fn×List (Option Str)))(zs:List (Fn×List Nod))(us:List Fam)(parts:Int)(ns:List Int)(h1:ts=[tPr ks fs,.t [.i parts,.t (ns.map .i)]])(h2:PrC ks fs xs zs us)(h3:Sm parts)(h4:(∀y∈ns,Sm y))(h5:ckA W a.bg (ckT parts ns us.length (eh ks fs (plD us) 0 zs)) (Q (.b O)))
theorem jH(ns:List Int):L2.T.ims (ns.map .i)=true:=a5 (λ_=>rfl) ns
theorem PrC.lus{ks:List Kd}{fs:List Fn}{us:List Fam}(h:PrC ks fs xs zs us):us.length<=14500000:=by
 have lim:∀x∈xs,x.1.1.2.1.length<=4/\x.2.length<=50000:=λx hx=>by
  let(L,_,h5,g):=h.u.ok x hx
  have:x.1∈fs:=by rw[<- h.u.fn];exact n8.mpr (x,hx,U)
  exact((h.p.pk _ this).1,by rw[g.ln];exact h5)
 have q:xs.length=fs.length:=by rw[<- h.u.fn,dN]
 have l8:=h.p.l8
 have:=ng h.p.gk lim (i:=0)
 rw[h.e,dN]at this
 omega
theorem oA{ns:List Int}{c:Nat}{r:Row}(h:rs[c]?=Z r):dZ parts ns c (rs.drop c)=if ur ns r.ws<parts*r.sp then Z c else dZ parts ns (c+1) (rs.drop (c+1)):=by
 let(g,e):=iY.mp h;rw[Yj g,e];rfl
theorem AX(T:Txt K mg a):bj P w K mg base (CX1 P w) 9 a.kb a.ve ["program","paper"] (D4 K (AI a)):=by
 refine T.vz.F.VN fP (λts Q W h=>?_) (λ_ _ _ _ _ _ hr=>?_)
 ·let(ks,fs,xs,zs,us,parts,ns,U,_):=h;rfl
 ·have hu:=bD hr;refine(_,_,((jY (Ax (aA 2 fP.nd (Zj (av (qv 1) ah))))
 (jY (Ax (aA 3 fP.nd (Zj (av (qv 1) ah))))
 (jY (Hr (QPW.pt (x5 (qQ (qv 2) ah) (x5 (bV Oz GD (bN _) (Zi (bW T.cS (ae (qv 3) ax))) (Zi (bW T.cS (ae (Zi (aL (jA T) hr T.i5 (ae (qv 0) ax))) ax)))) (Aw (qQ (Zi (Mb T.Vk (qv 3))) ah)))))
 (ju (uM U U T.c7 T.sd T.rM (yw T) (hr.mono ap) U T.kQ T.sH (ae (Zi cD) ax)))
 (Ci aC))
 (jY (L4 (g:=(Tg.tp [4,5])) PassesOwn.leaving U (qU T.bz (aL (CD T) hr T.BX (ae (qv 0) ax))) (dz (bp 4 fP.nd) (bp 5 fP.nd))
 (ju (Hr (qQ (Zi (cF (nU U U) vP ba T.Kc (by kernel_rfl) (ae (Zi (cp U (ya (av (qv 5) ah)) (N':=["place","weight","numbers"]) (.own U (.own U (.got (i:=3) U U (.inl U) .nil))) (cm (g:=(Tg.tp [0,1])) (λ_ _ _ _ _=>((dz (c9 0) (c9 1)),(eJ (qv 1) (av (qv 2) (qv 0)))))))) ax))) (Zi (eJ (qv 2) (av (qv 5) ah))))
 (ju (uM U U T.c7 T.sd T.rM (yw T) (hr.mono ap) U T.kQ T.sH (ae (qv 4) ax)))
 (Ci aC))))
 (ju (Ax (aD yc)))))))),λts Q W h=>?_)
  let(ks,fs,xs,zs,us,parts,ns,U,hC,aN,aR,hq):=h;have UR:=hC.lus;have bad:NW parts ns us.length->W a.bg ["row"] [.n]:=λh=>by
   unfold ckT at hq;rw[if_pos h]at hq;exact hq
  have LS:∀{t:L2.T},t.im=O->W a.bg ["row"] [t]->(L2.T.ims [t]=O /\ [t].length=(["row"]:List Str).length /\ [t].length<=1000/\W a.bg ["row"] [t]):=λ{t} h1 h=>(by show(t.im&&O)=O;rw[h1];rfl,U,(by show 1<=1000;decide),h)
  refine(_,U,U,_,U,jH ns,aI (λg1=>LS U (bad (.inl (of_decide_eq_true g1)))) λg1=>?_)
  refine(ks,fs,xs,U,hC.p,hC.u,U,aI (λg2=>LS U (bad (.inr (.inl λz=>?_)))) λg2=>(ns,U,λmn ay=>aI (λg3=>LS U (bad (.inr (.inr ?_)))) λg3=>?_))
  ·have g2:(!decide ((L2.T.i ((ns.map L2.T.i).length:Int)).v=(L2.T.i ((cW ks 0 xs).length:Int)).v))=true:=g2;rw[hC.e,dN,dN,z,decide_eq_true rfl]at g2;cases g2
  ·have g3:mn<0:=of_decide_eq_true g3;by_cases hn:ns=[]
   ·have:=ay.1 hn
    omega
   ·exact(mn,(ay.2 hn).1,g3)
  ·have g1:¬ parts<1:=λz=>g1 (decide_eq_true z)
   have g2:ns.length=us.length:=by
    by_cases z:ns.length=us.length
    ·exact z
    ·refine absurd ?_ g2;show(!decide ((L2.T.i ((ns.map L2.T.i).length:Int)).v=(L2.T.i ((cW ks 0 xs).length:Int)).v))=O;rw[hC.e,dN,dN,show decide ((L2.T.i (ns.length:Int)).v=(L2.T.i (us.length:Int)).v)=ϊ from decide_eq_false λe=>z (Int.ofNat.inj (V.int.inj e))]
     rfl
   have g3:¬ mn<0:=λz=>g3 (decide_eq_true z)
   have hb:¬ NW parts ns us.length:=by
    rintro(z|z |⟨y,hy,z⟩)
    ·exact g1 z
    ·exact z g2
    ·have:=(ay.2 (λe=>by rw[e]at hy;cases hy)).2 y hy
     omega
   unfold ckT at hq;rw[if_neg hb]at hq;refine(ks,fs,xs,zs,us,U,hC.p,hC.u,hC.z,hC.e,hC.l,λys ak a0=>?_)
   generalize eh ks fs (plD us) 0 zs=rs at hq ak
   refine(λc q=>∃(o4 o5:Sl),q=[.r (tPr ks fs),.r (.t [.i parts,.t (ns.map .i)]),.o (.i parts),.o (.t (ns.map .i)),o4,o5]/\dZ parts ns c (rs.drop c)=dZ parts ns 0 rs,(_,_,U,U),?_,?_)
   ·rintro c y q hy ⟨o4,o5,rfl,hF⟩
    let(z,hz,U):=bX hy;have aW:c<rs.length:=by rw[<- ak.ln];exact(iY.mp hz).1
    have ar:rs[c]?=Z rs[c]:=gs aW;have hR:=ak.ok c _ _ hz ar
    generalize rs[c]=r at ar hR
    rw[oA ar]at hF;let(h1,_,h3,_):=hR;refine(_,U,_,U,?_);refine(cc (by rw[dN,dN];omega),λj ys=>ys=((r.ws.take j).map λp=>p.2*ns.getD p.1.toNat 0).map .i,U,?_,?_)
    ·rintro j y ys hy rfl
     rw[u4,gV]at hy;let(p,hp,U):=g5.mp hy;let(jj,e1,e2):=h1 p (mu hp);have aM:jj<ns.length:=by omega
     have en:ns.getD p.1.toNat 0=ns[jj]:=by rw[e1,W2,BV,gs aM];rfl
     have ea:atI (ns.map L2.T.i) p.1=Z (.i ns[jj]):=by rw[e1];exact bu (by rw[gV,gs aM];rfl)
     refine(_,U,_,ea,.inr (aR _ (SR aM)),?_);rw[ro,hp,pz,pz];show _=_++[L2.T.i (p.2*ns.getD p.1.toNat 0)];rw[en]
    ·rintro ys rfl
     rw[dN,dN,sP];refine(_,L2.ins_map _,_,U,.inl aN,aI (λg=>LS U ?_) λg=>?_)
     ·have g:ur ns r.ws<parts*r.sp:=of_decide_eq_true g;rw[if_pos g]at hF;rw[<- hF]at hq;exact hq
     ·have g:¬ ur ns r.ws<parts*r.sp:=λz=>g (decide_eq_true z)
      rw[if_neg g]at hF;exact(_,_,U,hF)
   ·rintro q ⟨o4,o5,rfl,hF⟩
    rw[a4,ak.ln,X5]at hF;rw[<- hF]at hq;exact hq
theorem Sf{ns:List Int}:ckT parts ns N rs=Y\/ckT parts ns N rs=Z .n\/∃k:Nat,ckT parts ns N rs=Z (iN k):=by
 unfold ckT
 split
 ·exact .inr (.inl U)
 ·cases dZ parts ns 0 rs with
  |none=>exact .inl U
  |some k=>exact .inr (.inr (k,U))
def tdT(o:Option L2.T):L2.T:=o.getD (.b O)
inductive QN(ts:List L2.T)(Q:L2.T->Prop):Prop
 |mk(ks:List Kd)(fs:List Fn)(xs:List (Fn×List (Option Str)))(zs:List (Fn×List Nod))(us:List Fam)(parts:Int)(ns:List Int)(h1:ts=[tPr ks fs,.t [.i parts,.t (ns.map .i)]])(h2:PrC ks fs xs zs us)(h3:Sm parts)(h4:(∀y∈ns,Sm y))(h5:Q (tdT (ckT parts ns us.length (eh ks fs (plD us) 0 zs))))
theorem M3(T:Txt K mg a):bj P w K mg base CX0 10 a.w6 a.JW [Zy,ZN] (spQ K QN):=by
 refine T.KJ.F.okQ iA (λ_ _ _ _ _ _ hr=>?_)
 ·have hu:=bD hr;refine(_,_,((ag (aA 2 iA.nd aH)
 (ag (Qb (λ_ _=>(ju (L3 (i:=2) iA.nd U (Or.inl U) (Hn (VH (AX T) hr T.vz (ae (qv 0) (ae (qv 1) ax)))))))
 (TK (i:=3) U iA.nd U U U T.t9 T.vJ (λ_=>(ag (aA 2 iA.nd aH)
 (ag (aA 4 iA.nd (Md U U T.d8 (gX T.DP U T.A1 (gX T.xI U T.wF (gX T.Lh U T.IW (gX T.FW U T.EH (gX T.FV U T.EG (gX T.DO U T.A0 ML)))))) (qv 3)))
 (aj (aX (QPW.pt (qP (gR (Zi (Qf U T.c7 U T.d8 U T.kQ (qv 3)))) (qP (gR (Zi (Qg (fn:=fns) (n:="ValueError") U (by decide +kernel) U T.d8 U T.xp (by kernel_rfl) (qv 3)))) (pI (Ho (gR (qv 4)))))))
 (aj (aA 2 iA.nd (Mf (fn:=fns) U CK JK (qv 3))))
 aC)))))
 Hx))
 (aj (aD (Zj (qv 2))))))),λts Q h=>?_)
  let(ks,fs,xs,zs,us,parts,ns,U,V,g,q,hq):=h;refine(ks,fs,xs,zs,us,parts,ns,U,V,g,q,?_);have ne:∀{x y:J}(i j:Nat),[a.aB,a.ck,a.br,a.bU,a.bg,a.cz,a.bK,a.di][i]?=Z x->[a.aB,a.ck,a.br,a.bU,a.bg,a.cz,a.bK,a.di][j]?=Z y->i≠j->x≠y:=λi j=>Uu T.nd i j
  have no:[a.bK,a.br,a.di,a.ck,a.cz,a.bU].any (λx=>(B.ref a.bg :: .ref a.aB::bmV).contains (.ref x))=false:=by
   rw[Yk];intro y z;rw[Bool.not_eq_true];simp only[pj,xy,or_false]at z;obtain rfl|rfl|rfl|rfl|rfl|rfl:=z
   ·exact nk (ne 6 4 U U ac) (ne 6 0 U U ac)
   ·exact nk (ne 2 4 U U ac) (ne 2 0 U U ac)
   ·exact nk (ne 7 4 U U ac) (ne 7 0 U U ac)
   ·exact nk (ne 1 4 U U ac) (ne 1 0 U U ac)
   ·exact nk (ne 5 4 U U ac) (ne 5 0 U U ac)
   ·exact nk (ne 3 4 U U ac) (ne 3 0 U U ac)
  have ty:(B.ref a.bg :: .ref a.aB::bmV).contains (.type "ValueError")=true:=by
   rw[BU,BU];rfl
  obtain e|e |⟨k,e⟩:=Sf (parts:=parts) (ns:=ns) (N:=us.length) (rs:=eh ks fs (plD us) 0 zs) <;> rw[e]at hq ⊢
  ·exact(U,U,hq)
  all_goals
   refine Vm T.c7 PQ ?_;refine(_,_,T.c7,?_);show _;rw[no];refine(_,_,T.c7,?_);show _;rw[PR];refine(_,_,T.c7,?_);show _;rw[ty];exact(_,_,_,T.c7,U,U,hq)
theorem wJ{ws:Wt}{p:Int×Int}(h:(ws.map (·.1)).Nodup)(hp:p∈ws):cw (ws.map enI) (.inl p.1)=Z (.i p.2):=by
 induction ws with
 |nil=>cases hp
 |cons q r g =>
  have h':=v3.mp h;unfold cw;rw[x2,Pt,show(enI q).1=.inl q.1 from U,wO];obtain rfl|z:=pj.mp hp
  ·rw[decide_eq_true rfl];rfl
  ·have e:q.1≠p.1:=λe=>h'.1 (n8.mpr (p,z,e.symm))
   rw[decide_eq_false e];exact g h'.2 z
def wrT(o:Option Nat):L2.T:=match o with
 |none=>.n
 |some k=>iN k
inductive Mr(ts:List L2.T)(Q:L2.T->Prop):Prop
 |mk(ys:List L2.T)(rs:List Row)(parts:Int)(ns:List Int)(h1:ts=[.l ys,.i parts,.l (ns.map .i)])(h2:Rws ns.length ys rs)(h3:Sm parts)(h4:(∀y∈ns,Sm y))(h5:Q (wrT (dZ parts ns 0 rs)))
theorem yr(T:Txt K mg a):bj P w K mg base CX0 1 a.pR a.C8 [Zu,Zo,Zq] (spQ K Mr):=by
 refine T.xA.F.okQ qH (λ_ _ _ _ _ _ hr=>?_)
 ·have hu:=bD hr;refine(_,_,((ag (bE (g:=(Tg.tp [3,4])) PassesOwn.never U (x9 (i:=0) U T.bz (by kernel_rfl) (pv 0)) (dz (bp 3 qH.nd) (bp 4 qH.nd))
 (aj (aX (qQ (Zi (cF (nU U U) vP ba T.Kc (by kernel_rfl) (ae (Zi (cp U (Oo (av (qv 4) ah)) (N':=[ZB,"_law_line",Zq]) (.own U (.got (i:=4) U U (.inl U) (.got (i:=2) U U (.inl U) .nil))) (cm (g:=(Tg.nm 0)) (λ_ _ _ _ _=>((c9 0),(eJ (cO (av (qv 1) ah) (qv 0)) (av (qv 2) (qv 0)))))))) ax))) (Zi (eJ (qv 1) (av (qv 4) ah))))
 (aj (aD (Zj (qv 3))))
 aC)))
 (aj (aD cD)))),λts Q h=>?_)
  let(ys,rs,parts,ns,U,ak,aM,aN,hq):=h;refine(λc q=>∃(o3 o4:Sl),q=[.r (.l ys),.r (.i parts),.r (.l (ns.map .i)),o3,o4]/\dZ parts ns c (rs.drop c)=dZ parts ns 0 rs,(_,_,U,U),?_,?_)
  ·rintro c y q hy ⟨o3,o4,rfl,V⟩
   let(z,hz,U):=bX hy;have aR:c<rs.length:=by rw[<- ak.ln];exact(iY.mp hz).1
   have ar:rs[c]?=Z rs[c]:=gs aR;have hR:=ak.ok c _ _ hz ar
   generalize rs[c]=r at ar hR
   rw[oA ar]at V;let(h1,_,h3,h4):=hR;refine(_,U,_,U,?_);refine(cc (by rw[dN,dN];omega),λj ys=>ys=((r.ws.take j).map λp=>p.2*ns.getD p.1.toNat 0).map .i,U,?_,?_)
   ·rintro j y ys hy rfl
    rw[u4,gV]at hy;let(p,hp,U):=g5.mp hy;have ay:=mu hp;let(jj,e1,e2):=h1 p ay;have en:ns.getD p.1.toNat 0=ns[jj]:=by rw[e1,W2,BV,gs e2];rfl
    have ea:atI (ns.map L2.T.i) p.1=Z (.i ns[jj]):=by rw[e1];exact bu (by rw[gV,gs e2];rfl)
    refine(_,U,_,U,?_);simp only[gj,L2.T.dof];refine(_,wJ h4 ay,_,ea,.inr (aN _ (SR e2)),?_);rw[ro,hp,pz,pz];show _=_++[L2.T.i (p.2*ns.getD p.1.toNat 0)];rw[en]
   ·rintro ys rfl
    rw[dN,dN,sP];refine(_,L2.ins_map _,_,U,.inl aM,aI (λg=>(U,?_)) λg=>?_)
    ·have g:ur ns r.ws<parts*r.sp:=of_decide_eq_true g;rw[if_pos g]at V;rw[<- V]at hq;exact hq
    ·have g:¬ ur ns r.ws<parts*r.sp:=λz=>g (decide_eq_true z)
     rw[if_neg g]at V;exact(_,_,U,V)
  ·rintro q ⟨o3,o4,rfl,V⟩
   rw[a4,ak.ln,X5]at V;rw[<- V]at hq;exact hq
theorem Wq:Oa 10 6:=(by decide,by decide,by decide)
inductive Ud(ts:List L2.T)(Q:L2.T->Prop):Prop
 |mk(u:Fam)(parts:Int)(h1:ts=[.dv,ji u,.i parts])(h2:oF u)(h3:1<=parts)(h4:parts<=12)(h5:∀n:Int,0<=n->n<=2000000->Q (.i n))
theorem EB(T:Txt K mg a):bj P w K mg base CX0 2 a.mG a.za [Zl,ZM,Zo] (spQ K Ud):=by
 have g:=iS (@fH P w K mg base a T);refine T.zz.F.okQ Ec (λ_ _ _ _ _ _ hr=>?_)
 ·have hu:=bD hr;refine(_,_,((ag (aX (bB hu (av (qv 1) ah) (Zi aH))
 (aj (aD (iH (aP (af (aL g hr T.aU (ae (qv 0) (ae ah ax))) (af (aL g hr T.aU (ae (qv 0) (ae ah ax))) (af (Hy ah ah) (af (eJ ah (qv 2)) ai))))) (Zi (aL g hr T.aU (ae (qv 0) (ae ah ax)))))))
 aC)
 (ag (aX (bB hu (av (qv 1) ah) (Zi aH))
 (aj (aD (iH (aP (af bw (af (aL g hr T.aU (ae (qv 0) (ae ah ax))) (af bw (af (a8 ah (Zi (aL g hr T.aU (ae (qv 0) (ae ah ax))))) ai))))) (Zi (aL g hr T.aU (ae (qv 0) (ae ah ax)))))))
 aC)
 (aj (aD (iH (aP (af bw (af bw (af bw (af (aL g hr T.aU (ae (qv 0) (ae ah ax))) (af (aL g hr T.aU (ae (qv 0) (ae (Zi (eJ ah (qv 2))) ax))) ai)))))) (Zi (aL g hr T.aU (ae (qv 0) (ae ah ax)))))))))),λts Q h=>?_)
  let(u,parts,U,(_,s0,r0,U),p1,p2,hq):=h;have a0:atI ((.inr s0::r0:Fam).map kT) 0=Z (.s s0):=bu (j:=0) U;have pk:∀{n:Nat}{xs:List Int}{r:Int},xs.length=n->(∀y∈xs,0<=y/\y<=2000000)->0<=r->r<n->Ex2 (λx=>atI (xs.map L2.T.i) r=Z x) Q:=λ{n xs r} hl hx r0 q=>by
   let(x,hm,e):=gJ (xs:=xs) (f:=L2.T.i) r0 ap
   exact(_,e,hq x (hx x hm).1 (hx x hm).2)
  have p9:∀{x:Int},x=0\/x=1000->0<=x/\x<=2000000:=λ{x} h=>by omega
  refine(_,a0,U,aI (λ_=>?_) λ_=>(_,a0,U,aI (λ_=>?_) λ_=>?_))
  ·refine(by decide,by decide,λq a1 b1=>(by decide,by decide,λV a2 b2=>(Wq,.inl (by decide,by decide),by decide,by decide,λr3 a3 b3=>?_)))
   exact pk (xs:=[q,V,10 ^ (6:Int).toNat,1000*parts]) U (λy z=>by
    have e:(10:Int) ^ (6:Int).toNat=1000000:=by decide
    rw[e]at z;simp only[pj,xy,or_false]at z;omega) a3 b3
  ·refine(by decide,by decide,λq a1 b1=>(by decide,by decide,λV a2 b2=>(by decide,by decide,λr3 a3 b3=>?_)))
   exact pk (xs:=[0,q,1000,1000+V]) U (λy z=>by
    simp only[pj,xy,or_false]at z;omega) a3 b3
  ·refine(by decide,by decide,λq a1 b1=>(.inl (by decide,by decide),by omega,by omega,λV a2 b2=>(by decide,by decide,λr3 a3 b3=>?_)))
   exact pk (xs:=[0,0,0,q,V]) U (λy z=>by
    simp only[pj,xy,or_false]at z;omega) a3 b3
inductive qX(ts:List L2.T)(Q:L2.T->Prop):Prop
 |mk(ks:List Kd)(fs:List Fn)(xs:List (Fn×List (Option Str)))(zs:List (Fn×List Nod))(us:List Fam)(ys:List L2.T)(parts:Int)(ns:List Int)(h1:ts=[tPr ks fs,.l ys,.i parts,.l (ns.map .i)])(h2:PrC ks fs xs zs us)(h3:Rws us.length ys (eh ks fs (plD us) 0 zs))(h4:ns.length=us.length)(h5:1<=parts)(h6:parts<=12)(h7:(∀y∈ns,0<=y/\y<=100000000000))(h8:Q (.b O))
theorem IL(T:Txt K mg a):bj P w K mg base CX0 11 a.pU a.Dd [Zy,Zu,Zo,Zq] (spQ K qX):=by
 refine T.p8.F.okQ qJ (λ_ _ _ _ _ _ hr=>?_)
 ·have hu:=bD hr;refine(_,_,((ag (aA 4 qJ.nd (aL (yr T) hr T.xA (ae (qv 1) (ae (qv 2) (ae (qv 3) ax)))))
 (ag (aA 5 qJ.nd (aL (M3 T) hr T.KJ (ae (qv 0) (ae (Zi (aq (af (Zj (qv 2)) (af (aV (cy U) cq ba T.d7 (by kernel_rfl) (ae (qv 3) ax)) ai)))) ax))))
 (ag (aX (bV nJ jW (bN _) (qv 4) (Zi cD))
 (aj (aD (wg Q9 LL (bN _) (qv 5) (Zi yc))))
 aC)
 (aj (aD (Az (Zi (cF (vi U) Ca ba T.d8 (by kernel_rfl) (ae (qv 5) (ae (Zi (Oq (n:="int") U T.Kf (by kernel_rfl))) ax)))) (Az (Zi (Qe (Zi (cF (vi U) Ca ba T.d8 (by kernel_rfl) (ae (qv 5) (ae (Zi (Oq (n:="bool") U T.Sj (by kernel_rfl))) ax)))))) (Hz (wg (AU hu U) vS (bN _) (qv 5) (qv 4))))))))))),λts Q h=>?_)
  let(ks,fs,xs,zs,us,ys,parts,ns,U,hC,ak,hl,p1,p2,V,hq):=h;have g:Sm parts:=(by omega,by omega)
  have q:∀y∈ns,Sm y:=λy hy=>by have:=V y hy;exact(by omega,by omega)
  have good:¬ NW parts ns us.length:=by
   rintro(z|z |⟨y,hy,z⟩)
   ·omega
   ·exact z hl
   ·have:=V y hy;omega
  refine(ys,_,parts,ns,U,by rw[hl];exact ak,g,q,?_)
  refine(U,jH ns,ks,fs,xs,zs,us,parts,ns,U,hC,g,q,?_);unfold ckT;rw[if_neg good]
  generalize dZ parts ns 0 (eh ks fs (plD us) 0 zs)=o
  cases o with
  |none=>exact hq
  |some k =>
   refine(U,U,U,?_);rw[show decide ((tdT (Option.map iN (Z k))).v=(wrT (Z k)).v)=O from decide_eq_true rfl];exact hq
theorem Ff{α:Type}{xs:List α}:d9 xs (Z (j:Int)) Y=xs.drop j:=by
 unfold d9;rw[HT.Cd,HT.xY,Yz (by rw[WT];omega)]
 by_cases h:j<=xs.length
 ·rw[SM h]
 ·rw[Nat.min_eq_right ap,X0 (ot _),X0 ap]
theorem EX{xs:List L2.T}{n:Int}(h1:L2.T.ims xs=O):L2.T.ims (xs++[.i n])=true:=by
 induction xs with
 |nil=>rfl
 |cons x r g =>
  have h1:(x.im&&L2.T.ims r)=true:=h1;rw[u6]at h1;show(x.im&&L2.T.ims (r++[.i n]))=O;rw[h1.1,g h1.2];rfl
theorem LV{ns:List Int}{g:Nat}{more:Int}{s0 s1 s2 s4 s5 s6 s7 s8 s10:Sl}{Q:L2.T->Prop}(K:g<ns.length)(hl:ns.length<=16000000)(hn:∀y∈ns,0<=y)(hm:0<=more)(hq:∀ns':List Int,ns'.length=ns.length->(∀y∈ns',0<=y)->Q (.l (ns'.map .i))):
  qOp kh (qOp kh (qSl (aT 3) (λ_ Q=>Q Y) λq Q=>aT 9 q λt=>match t with|.i x=>Q (Z x)|_=>False) (HM (aE (qOp kh (qOp qIx (aT 3) (aT 9)) (aT 11)) cB)))
   (qSl (aT 3) (λq Q=>qOp kh (aT 9) (qC (.i 1)) q λt=>match t with|.i x=>Q (Z x)|_=>False) λ_ Q=>Q Y) [s0,s1,s2,.r (.l (ns.map .i)),s4,s5,s6,s7,s8,.o (.i (g:Int)),s10,.o (.i more)] Q:=by
 have ea:atI (ns.map L2.T.i) (g:Int)=Z (.i ns[g]):=bu (by rw[gV,gs K];rfl)
 refine(jH ns,?_);show _;rw[sC];refine(_,ea,?_);have P:(d9 ns Y (Z (g:Int))).length=g:=by rw[zc (vr K),sR];omega
 have V:(d9 ns (Z ((g:Int)+1)) Y).length=ns.length-(g+1):=by rw[show(g:Int)+1=((g+1:Nat):Int)from U,Ff,WT]
 have hr:=hq (d9 ns Y (Z (g:Int))++[ns[g]+more]++d9 ns (Z ((g:Int)+1)) Y) (by rw[jR,jR,P,V,vb];omega) λy hy=>by
  obtain z|z:=n6.mp hy
  ·obtain z|z:=n6.mp z
   ·exact hn y (X9 (QL z))
   ·rw[fy.mp z];have:=hn _ (SR K);omega
  ·exact hn y (X9 (QL z))
 rw[pz,pz]at hr;refine(vr (fV (by rw[dN,P];show g+1<=_;omega)),jH _,U,jH ns,?_)
 show _;rw[sC];refine(vr (fV (by rw[jR,dN,dN,P,V,vb];omega)),EX (jH _),jH _,hr)
theorem JL:∀ns:List Int,fls (ns.map L2.T.i)=O
 |[]=>rfl
 |n::r=>by show(O&&fls (r.map L2.T.i))=O;rw[JL r];rfl
theorem yT{ns:List Int}:∀{c k:Nat},dZ parts ns c rs=Z k->∃j r,k=c+j/\rs[j]?=Z r/\ur ns r.ws<parts*r.sp:=by
 induction rs with
 |nil=>intro c k h;cases h
 |cons r rs q =>
  intro c k h;unfold dZ at h
  split at h
  ·cases h;exact(0,r,U,U,(by assumption))
  ·let(j,g,e,h1,h2):=q h;exact(j+1,g,by omega,(h1:),h2)
inductive QP(ts:List L2.T)(Q:L2.T->Prop):Prop
 |mk(ys:List L2.T)(rs:List Row)(parts:Int)(ns:List Int)(h1:ts=[.dv,.l ys,.i parts,.l (ns.map .i)])(h2:Rws ns.length ys rs)(h3:1<=parts)(h4:parts<=12)(h5:(∀y∈ns,0<=y/\y<=100000000000))(h6:ns.length<=16000000)(h7:Q .n)(h8:∀ns':List Int,ns'.length=ns.length->(∀y∈ns',0<=y)->Q (.l (ns'.map .i)))
theorem M4(T:Txt K mg a):bj P w K mg base CX0 2 a.xa a.JX [Zl,Zu,Zo,Zq] (spQ K QP):=by
 refine T.KL.F.okQ fD (λ_ _ _ _ _ _ hr=>?_)
 ·have hu:=bD hr;refine(_,_,((ag (aA 4 fD.nd (aL (yr T) hr T.xA (ae (qv 1) (ae (qv 2) (ae (qv 3) ax)))))
 (ag (aX (bV nJ jW (bN _) (qv 4) (Zi cD))
 (aj (aD cD))
 aC)
 (ag (qR (g:=(Tg.tp [5,6,7])) (av (qv 1) (qv 4)) (lV (K:=K) (n:=3) U U (cb (bp 5 fD.nd) (cb (bp 6 fD.nd) (cb (bp 7 fD.nd) lU)))))
 (ag (gi (i:=8) fD.nd U (Or.inl U) U (jZ (Zi (cF (zi U U) D8 ba T.Ke (by kernel_rfl) (ae (qv 6) ax)))) (N':=[ZB,"_law_weights"]) (.own U (.got (i:=6) U U (.inl U) .nil)) (AA (g:=(Tg.nm 0)) (λ_ _ _ _ _=>((c9 0),(Hq (cO (qv 1) (qv 0)) ah),(Zj (qv 0))))))
 (ag (aX (bB hu (qv 8) (Zi (aP ai)))
 (aj (aD cD))
 aC)
 (ag (aA 9 fD.nd (Zj (av (qv 8) (Zi (aL (iS (fH T)) hr T.aU (ae (qv 0) (ae (Zi (bW T.cS (ae (qv 8) ax))) ax)))))))
 (ag (aA 10 fD.nd (qV (Zi (eJ (qv 2) (qv 7))) (Zi (cF (nU U U) vP ba T.Kc (by kernel_rfl) (ae (Zi (cp U (Oo (qv 6)) (N':=["_law_one","_law_weights",Zq]) (.own U (.got (i:=6) U U (.inl U) (.got (i:=3) U U (.inl U) .nil))) (cm (g:=(Tg.nm 0)) (λ_ _ _ _ _=>((c9 0),(eJ (cO (qv 1) (qv 0)) (av (qv 2) (qv 0)))))))) ax)))))
 (ag (aA 11 fD.nd (Cn (Zi (qV (Zi (a8 (qv 10) (cO (qv 6) (qv 9)))) ah)) (cO (qv 6) (qv 9))))
 (aj (aD (a8 (Zi (a8 (Zi (fS (qv 3) iG (iF (qv 9)))) (Zi (aP (af (a8 (av (qv 3) (qv 9)) (qv 11)) ai))))) (Zi (fS (qv 3) (iF (Zi (a8 (qv 9) ah))) iG)))))))))))))),λts Q h=>?_)
  let(ys,rs,parts,ns,U,ar,p1,p2,aM,bh,aW,hq):=h;have aN:Sm parts:=(by omega,by omega)
  have aR:∀y∈ns,Sm y:=λy q=>by have:=aM y q;exact(by omega,by omega)
  refine(ys,rs,parts,ns,U,ar,aN,aR,?_);cases hF:dZ parts ns 0 rs with
  |none=>exact aW
  |some k =>
   let(j,r,ek,hr,bI):=yT hF;rw[Ks]at ek;subst ek;have a3:k<ys.length:=by rw[ar.ln];exact(iY.mp hr).1
   have q:ys[k]?=Z ys[k]:=gs a3;have hR:=ar.ok k _ _ q hr
   generalize ys[k]=y at q hR
   have ay:atI ys (k:Int)=Z y:=bu q;cases hR with
   |@mk _ o vs h1 bg h3 h4 h5 =>
    have br:(L2.T.t [L2.T.t r.nm,L2.T.fd o vs (r.ws.map enI),L2.T.i r.sp]).im=true:=by
     show(L2.T.ims r.nm&&O)=O;rw[bg];rfl
    have UT:(r.ws.map enI).map (·.1)=(r.ws.map (·.1)).map Sum.inl:=by rw[u4,u4];rfl
    refine(_,ay,br,_,U,r.ws.map (·.1),(UT,by rw[dN];omega),λzs Jz _=>?_)
    refine(cc (by rw[dN,Jz.length_eq,dN];omega),λc ys=>∃zs:List Int,ys=zs.map .i/\(∀z∈zs,∃p∈r.ws,p.1=z/\0<p.2)/\zs.length<=c,([],U,nofun,ot _),?_,?_)
    ·rintro c y ys q ⟨xs,rfl,ak,V⟩
     rw[gV]at q;let(z,hz,U):=g5.mp q;let(p,hp,ep):=n8.mp (Jz.mem_iff.mp (mu hz));subst ep;refine(_,U,?_);simp only[lO,qOp,aT,gj,L2.T.dof];refine(_,wJ h4 hp,aI (λg=>(U,xs++[p.1],by rw[pz];rfl,λz hz=>?_,by rw[jR];exact Nat.add_le_add_right V 1)) λ_=>(xs,U,ak,Nat.le_succ_of_le V))
     obtain z' |z':=n6.mp hz
     ·exact ak z z'
     ·rw[fy.mp z'];exact(p,hp,U,of_decide_eq_true g)
    ·rintro ys ⟨xs,rfl,ak,bb⟩
     rw[dN,Jz.length_eq,dN]at bb;refine(by rw[JL];rfl,aI (λ_=>aW) λg=>?_)
     have bz:0<xs.length:=by
      cases xs with
      |nil=>exact absurd U g
      |cons _ _=>exact Nat.succ_pos _
     have V:((xs.map L2.T.i).length:Int)=xs.length:=by rw[dN]
     refine(by rw[V];omega,by rw[V];omega,λd d0 d1=>?_)
     rw[V]at d1;let(z,hz,ez):=gJ (xs:=xs) (f:=L2.T.i) d0 d1;let(p,hp,ep,yO):=ak z hz;subst ep;let(jj,e1,e2):=h1 p hp;have hw:=h5 p hp;have ea:atI (ns.map L2.T.i) p.1=Z (.i ns[jj]):=by rw[e1];exact bu (by rw[gV,gs e2];rfl)
     have bt:=aM _ (SR e2);refine(_,ez,U,.inl aN,?_);refine(cc (by rw[dN,dN];omega),λj ys=>ys=((r.ws.take j).map λp=>p.2*ns.getD p.1.toNat 0).map .i,U,?_,?_)
     ·rintro j y ys q rfl
      rw[u4,gV]at q;let(p,hp,U):=g5.mp q;have a0:=mu hp;let(jj,e1,e2):=h1 p a0;have en:ns.getD p.1.toNat 0=ns[jj]:=by rw[e1,W2,BV,gs e2];rfl
      have ea:atI (ns.map L2.T.i) p.1=Z (.i ns[jj]):=by rw[e1];exact bu (by rw[gV,gs e2];rfl)
      refine(_,U,?_);simp only[qOp,aT,gj,L2.T.dof];refine(_,wJ h4 a0,_,ea,.inr (aR _ (SR e2)),?_);rw[ro,hp,pz,pz];show _=_++[L2.T.i (p.2*ns.getD p.1.toNat 0)];rw[en]
     ·rintro ys rfl
      rw[dN,dN,sP];refine(_,L2.ins_map _,?_);have WH:0<parts*r.sp-ur ns r.ws:=by omega
      have rd:∀{Q':L2.T->Prop},Q' (.i p.2)->gj (.fd o vs (r.ws.map enI)) (.i p.1) Q':=λ{Q'} h=>by
       simp only[gj,L2.T.dof];exact(_,wJ h4 hp,h)
      refine rd (rd ((yO,by omega),?_))
      have UQ:0 <=(parts*r.sp-ur ns r.ws+p.2-1) / p.2:=Int.ediv_nonneg ap ap
      have:=LV (s0:=.r .dv) (s1:=.r (.l ys)) (s2:=.r (.i parts)) (s4:=.o (wrT (Z k))) (s5:=.r (.t r.nm)) (s6:=.r (.fd o vs (r.ws.map enI))) (s7:=.r (.i r.sp)) (s8:=.o (.l (xs.map .i))) (s10:=.o (.i (parts*r.sp-ur ns r.ws))) e2 bh (λy q=>(aM y q).1) UQ hq
      rw[<- e1]at this;exact this
theorem deps{ks:List Kd}{fs:List Fn}{f:Fn}(q:cn ks (fs.map (·.1)) 0 [rtN f] L)(hd:Dep D f.2.1):∀e∈L,∃N,N+e.pa.length=D/\Dep N e.b:=by
 refine q.all (R:=λe=>∃N,N+e.pa.length=D/\Dep N e.b) (λn d j b am sc (N,z,g) hk=>?_) _ U λd h=>by
  rw[fy.mp h];exact(D,U,hd)
 cases N with
 |zero=>exact absurd g hk.tup
 |succ N=>exact(N,by show N+(d.pa++[_]).length=D;rw[jR];simp;omega,hk.dep g)
theorem Pl{ks:List Kd}{fs:List Fn}(p:Prog ks fs)(hs:∀f∈fs,f.2.2<=100)(h3:fs.length<=3)(hd:∀f∈fs,Dep 20 f.2.1):∃xs zs,Unk ks fs xs/\Nds ks fs xs zs:=by
 have one:∀f∈fs,∃os L,Pre ks (fs.map (·.1)) 0 (rtN f) L/\L.length<=100/\zA ks L os/\∀e∈L,e.pa.length<=20:=λf hf=>by
  let(hS,h5):=p.sn f hf;let(L,V,ar):=hS.pre h5 0 .n .n [];have V:Pre ks (fs.map (·.1)) 0 (rtN f) L:=V;have K:cn ks (fs.map (·.1)) 0 [rtN f] L:=by have:=cn.cons V (.nil);rwa [rD]at this
  have ak:=K.asks _ U
  have:∀M:List Nod,(∀e∈M,∃o,Ask ks e.sc e.b o)->∃os,zA ks M os:=by
   intro M
   induction M with
   |nil=>intro _;exact([],U,λn e o h=>by simp at h)
   |cons e r ih =>
    intro h;let(o,ho):=h e lj;let(os,h1):=ih λe he=>h e (jQ _ he)
    refine(o::os,by simp[h1.ln],λn e' o' he q=>?_)
    cases n with
    |zero=>cases he;cases q;exact ho
    |succ n=>exact h1.ok n e' o' (he:) (q:)
  let(os,hA):=this L ak;exact(os,L,V,ui ar (hs f hf),hA,λe he=>by let(N,hN,_):=deps K (hd f hf) e he;omega)
 have:∀Q:List Fn,(∀g∈Q,g∈fs)->∃(xs:List (Fn×List (Option Str)))(zs:List (Fn×List Nod)),xs.map (·.1)=Q/\zs.map (·.1)=Q/\(∀x∈xs,∃L,Pre ks (fs.map (·.1)) 0 (rtN x.1) L/\L.length<=50000/\zA ks L x.2)/\∀(i:Nat)(x:Fn×List (Option Str))(z:Fn×List Nod),xs[i]?=Z x->zs[i]?=Z z->Pre ks (fs.map (·.1)) 0 (rtN z.1) z.2/\z.2.length<=100/\zA ks z.2 x.2/\∀e∈z.2,e.pa.length<=20:=by
  intro Q
  induction Q with
  |nil=>intro _;exact([],[],U,U,(λ_ h=>nomatch h),λi x z h=>by simp at h)
  |cons g r ih =>
   intro h;let(os,L,h1,aM,P,ay):=one g (h g lj);let(xs,zs,h2,h3,h4,h5):=ih λg hg=>h g (jQ _ hg)
   refine((g,os)::xs,(g,L)::zs,by simp[h2],by simp[h3],λx hx=>?_,λi x z hx hz=>?_)
   ·obtain rfl|hx:=pj.mp hx
    ·exact(L,h1,by omega,P)
    ·exact h4 x hx
   ·cases i with
    |zero=>cases hx;cases hz;exact(h1,aM,P,ay)
    |succ i=>exact h5 i x z (hx:) (hz:)
 let(xs,zs,h1,h2,h3',h4):=this fs λ_ h=>h
 exact(xs,zs,(h1,h3'),(h2,h4,h3))
theorem Nw{A Zg:Prop}(h:A->Zg)(x:A):Zg:=h x
theorem Nf{ns:List Int}{d y:Int}(h:y∈ns):y<=uc ns d:=by
 cases ns with
 |nil=>cases h
 |cons x r =>
  let(_,a2,g):=foldl_max r x;obtain rfl|h:=pj.mp h
  ·exact a2
  ·exact g y h
theorem R7{g:List Int->List L2.T}{A Zg:List Int->Prop}{G:List L2.T->Prop}(h:∀x,A x->Zg x->G (g x)):∀y,(∃x,y=g x/\A x/\Zg x)->G y:=λy (x,e,a,b)=>e▸h x a b
theorem Ar{ks:List Kd}{fs:List Fn}{us:List Fam}{ys:List L2.T}{ns:List Int}{D:dm}{s0 s4 s7 s8 s9:Sl}(Q:PrC ks fs xs zs us)(K:Rws us.length ys (eh ks fs (plD us) 0 zs))(yO:0<us.length)(hl:ns.length=us.length)(p1:1<=parts)(p2:parts<=12)(hn:∀y∈ns,0<=y/\y<=100000000000)(hD:D.rt (.b O)):
  nF (oN 9 (fb nI (aE (aT 1) (aE (qCB AE (aE (aT 6) cB)) cB)))) (nF (HJ 6 (aT 9) (qCB (qI2 λi j=>if j > i then j else i) (aE (qC (.i 0)) (aE (qOp (qI0 λi j=>.i (i-j)) (qOp qIx (aT 6) (aT 9)) (qC (.i 1))) cB))))
   λD q=>HQ (fb qX (aE (aT 2) (aE (aT 3) (aE (aT 5) (aE (aT 6) cB))))) (fb qX (aE (aT 2) (aE (aT 3) (aE (aT 5) (aE (aT 6) cB))))) q D.rt) D
   [s0,.r .dv,.o (.t [tKs ks,.t (fs.map tF)]),.o (.l ys),s4,.o (.i parts),.o (.l (ns.map .i)),s7,s8,s9]:=by
 have UR:=Q.lus;have g:((ns.map L2.T.i).length:Int)=ns.length:=by rw[dN]
 refine(by rw[g];omega,by rw[g];omega,λd d0 d1=>?_)
 rw[g]at d1;obtain⟨j,rfl⟩:∃j:Nat,d=j:=(d.toNat,by omega)
 have V:j<ns.length:=by omega
 have ea:atI (ns.map L2.T.i) (j:Int)=Z (.i ns[j]):=bu (by rw[gV,gs V];rfl)
 have P:∀y∈ns.set j (if ns[j]-1 > 0 then ns[j]-1 else 0),0<=y/\y<=100000000000:=λy hy=>by
  obtain z|z:=XM hy
  ·exact hn y z
  ·have:=hn _ (SR V)
   split at z <;> omega
 refine(_,ea,j,?_,jH ns,U,?_)
 ·rw[dN];unfold ixN;rw[if_pos (XT j),if_pos ap,W2]
 show _;have es:(ns.map L2.T.i).set j (L2.T.i (if ns[j]-1 > 0 then ns[j]-1 else 0))=(ns.set j (if ns[j]-1 > 0 then ns[j]-1 else 0)).map L2.T.i:=List.map_set.symm
 rw[es];refine(ks,fs,xs,zs,us,ys,parts,_,U,Q,K,by rw[SO];exact hl,p1,p2,P,?_)
 refine(ks,fs,xs,zs,us,ys,parts,_,U,Q,K,by rw[SO];exact hl,p1,p2,P,?_)
 exact hD
theorem sz6:sz 6<=100:=by decide +kernel
theorem Rg(T:Txt K mg a):bj P w K mg base CX0 110 a.u9 a.O3 [Zx] (qz K):=by
 have aN:=iS (@fH P w K mg base a T);refine T.Vv.F.V2 (n:=8) (s1:=(bQ oo).headD (.Pass (0,0,0,0))) (rest:=(bQ oo).tail) fh U U (λ_ _ _ _ _ _ hr=>?_)
 have hu:=bD hr;refine(_,_,_,(gI (i:=1) fh.nd U (Or.inr U) (Cy (M5 T) (hr.mono ac) U T.xC.m T.xC.F.kp T.xC.b .nil IB (bq (pv 0) (bq bF cM)))),((ag (aA 2 fh.nd (aL (AW T) hr T.vy (ae (qv 1) (ae ah (ae ah ax)))))
 (ag (aA 3 fh.nd (aL (CD T) hr T.BX (ae (qv 2) ax)))
 (ag (aA 4 fh.nd (aL (jA T) hr T.i5 (ae (qv 2) ax)))
 (ag (aA 5 fh.nd (a8 ah (Zi (aL aN hr T.aU (ae (qv 1) (ae (Zi (iH (aP (af bw (af bw ai))) (Zi (aL aN hr T.aU (ae (qv 1) (ae ah ax)))))) ax))))))
 (ag (gi (i:=6) fh.nd U (Or.inl U) U (jZ (qv 4)) (N':=["_law_one",Zl,Zo]) (.own U (.got (i:=1) U U (.inl U) (.got (i:=5) U U (.inl U) .nil))) (cm (g:=(Tg.nm 0)) (λ_ _ _ _ _=>((c9 0),(aL (EB T) hr T.zz (ae (qv 1) (ae (qv 0) (ae (qv 2) ax))))))))
 (ag (aX (bB hu (Zi (aL aN hr T.aU (ae (qv 1) (ae ah ax)))) ah)
 (aj (aA 6 fh.nd (Ma (Zi (aP (af bw ai))) (Zi (bW T.cS (ae (qv 4) ax))))))
 aC)
 (ag (bE (g:=(Tg.nm 7)) PassesOwn.never U (gS U T.gw (ae ah ax)) (bp 7 fh.nd)
 (ag (aX (Ho (gR (Zi (aL (IL T) hr T.p8 (ae (qv 2) (ae (qv 3) (ae (qv 5) (ae (qv 6) ax))))))))
 (aj (aD yc))
 aC)
 (ag (aA 8 fh.nd (aL (M4 T) hr T.KL (ae (qv 1) (ae (qv 3) (ae (qv 5) (ae (qv 6) ax))))))
 (ag (aX (QPW.pt (x5 (bV nJ jW (bN _) (qv 8) (Zi cD)) (Aw (Hq (Zi (cF (BH U U) GG ba T.vt (by kernel_rfl) (ae (qv 8) ax))) (Zi (Hy ah ah))))))
 (aj Ht)
 aC)
 (aj (L5 (i:=6) (j:=8) fh.nd (pv 8)))))))
 (ag (aA 9 fh.nd (aL aN hr T.aU (ae (qv 1) (ae (Zi (bW T.cS (ae (qv 6) ax))) ax))))
 (ag (Cj (i:=6) (pv 6) (qv 9) (Zi (cF (ie U) vR ba T.vt (by kernel_rfl) (ae ah (ae (Zi (qV (av (qv 6) (qv 9)) ah)) ax)))))
 (aj (aD (Az (Zi (aL (IL T) hr T.p8 (ae (qv 2) (ae (qv 3) (ae (qv 5) (ae (qv 6) ax)))))) (Hz (aL (IL T) hr T.p8 (ae (qv 2) (ae (qv 3) (ae (qv 5) (ae (qv 6) ax))))))))))))))))))),λp0 ns D hS hlen k=>?_,λns hlen=>?_)
 ·refine(_,U,p0,ns,_,U,hS,hlen,by decide,by decide,λd l H1 fd fl D1 s1=>?_)
  exact k d l H1 fd fl D1 s1
 ·refine(2,6,U,by decide,by decide,by decide,by decide,λks fs p ak hsz bb bg=>?_)
  let(xs,zs,hU,hN):=Pl p (λf hf=>ui (hsz f hf) sz6) (by have:fs.length<=2:=bb;omega) bg
  let(us,e1,e2):=Ll (ks:=ks) (xs:=xs);have hC:PrC ks fs xs zs us:=(p,hU,hN,e1,λu hu=>(e2 u hu).1)
  have UR:=hC.lus;have yO:0<us.length:=by
   obtain⟨f,r,rfl⟩:∃f r,fs=f::r:=by
    cases fs with
    |nil=>exact absurd U ak
    |cons f r=>exact(f,r,U)
   have hl:0<xs.length:=by
    have:=congrArg N9 hU.fn
    simp at this
    omega
   have:=(UOk.of hU (gs hl)).fst 0 f U
   rw[e1]at this;exact W5.mpr λe=>by rw[e]at this;cases this
  refine(ks,fs,xs,zs,us,U,p,hU,hN,e1,(λu hu=>(e2 u hu).1),λys Q bt=>?_)
  refine(ks,fs,xs,U,p,hU,?_);show _;rw[e1];refine(by decide,by decide,λr0 a0 b0=>?_)
  obtain⟨v0,bh,bz⟩:∃v:Int,atI [L2.T.i 1,.i 12] r0=Z (.i v)/\(v=1\/v=12):=by
   obtain rfl|rfl:=(by omega:r0=0\/r0=1)
   ·exact(1,U,.inl U)
   ·exact(12,U,.inr U)
  refine(_,bh,by omega,by omega,λpr q0 q1=>?_)
  refine(fV (by rw[dN];omega),λc ys=>∃ns:List Int,ys=ns.map .i/\ns.length=c/\∀y∈ns,0<=y/\y<=100000000000,([],U,U,nofun),?_,?_)
  ·rintro c y br V ⟨ns,rfl,hl,hn⟩
   rw[gV]at V;let(u,aM,U):=g5.mp V;refine(_,U,u,1+pr,U,e2 u (mu aM),by omega,by omega,λn n0 n1=>(ns++[n],by rw[pz];rfl,by rw[jR,hl];rfl,λy V=>?_))
   obtain z|z:=n6.mp V
   ·exact hn y z
   ·rw[fy.mp z];exact(n0,XH n1 ac)
  ·refine R7 (g:=λ(ns:List Int)=>ns.map L2.T.i) ?_
   refine Nw (λ(rest:∀(ns:List Int),ns.length=(us.map ji).length->(∀y∈ns,0<=y/\y<=100000000000)->_)=>λay a3 aR=>(by decide,by decide,λr1 a1 b1=>(U,aI (λ_=>(U,?p0,?p1,?p2)) λ_=>rest ay a3 aR))) ?rest
   rotate_left 3
   ·intro ns hl hn;rw[dN]at hl;show uO _ _;refine(by decide,by decide,λc q=>∃(ns:List Int)(o0 o7 o8:Sl),q=[o0,.r .dv,.o (.t [tKs ks,.t (fs.map tF)]),.o (.l ys),.o (.l (us.map ji)),.o (.i (1+pr)),.o (.l (ns.map .i)),o7,o8,.no]/\ns.length=us.length/\∀y∈ns,0<=y/\y<=100000000000,(ns,_,_,_,U,hl,hn),?_,?_)
    ·rintro c y q V ⟨ns,o0,o7,o8,rfl,hl,hn⟩
     refine(_,U,ks,fs,xs,zs,us,ys,1+pr,ns,U,hC,Q,hl,by omega,by omega,hn,?_)
     refine(ys,_,1+pr,ns,U,by rw[hl];exact Q,by omega,by omega,hn,by omega,?_,λns' ar aW=>?_)
     ·exact Ar hC Q yO hl ap ap hn U
     ·have ak:ns' ≠ []:=λe=>by rw[e]at ar;simp at ar;omega
      refine(ns',U,ak,(by decide,by decide,by decide),aI (λ_=>Ar hC Q yO hl ap ap hn U) λg=>?_)
      have g:uc ns' 0<=100000000000:=by
       have e:(10:Int) ^ (11:Int).toNat=100000000000:=by decide
       have g:¬(10:Int) ^ (11:Int).toNat<uc ns' 0:=λz=>g (decide_eq_true z)
       rw[e]at g
       omega
      refine(by decide,by simp,_,_,_,_,U,by rw[ar,hl],λy V=>(aW y V,XH (Nf V) g))
    ·rintro q ⟨ns,o0,o7,o8,rfl,hl,hn⟩
     exact Ar hC Q yO hl ap ap hn U
   ·exact XT _
   ·rw[dN];omega
   ·rw[dN];have e:(uA ((us.length:Int)).toNat (L2.T.i 0))=(uA us.length (0:Int)).map .i:=by rw[List.map_replicate,W2]
    rw[e];exact rest _ (by rw[X3,dN]) λy V=>by rw[(List.mem_replicate.mp V).2];omega
end
theorem all_mk{l:W.OpenLaw}{w:Cl}{K:BT}{h:Do}{fa:J}(X:K.In h)(G:h.Ns mainGlobals mg)(hfa:mg "law"=Z (.ref fa))
  {aB:J} (tN:W.nsIn K mainGlobals "PurseError"=Z (Z (.ref aB))) (tL:W.keepIn K (.ref aB)=O)
  (tJ:gB K fns aB (bmV) Y=O)
  {ck:J} (DN:W.nsIn K mainGlobals "NoText"=Z (Z (.ref ck))) (DI:W.keepIn K (.ref ck)=O)
  {vh:ClassData} (SU:W.clsIn K ck=Z vh)
  (SV:W.nsIn K vh.ns "__init__"=Z (Z (.ref dY))) (DG:LK K dY "__init__" "NoText.__init__" uK RP RO RQ RR RN RU Bo RT RL) (DK:CI K Bo "NoText.__init__") (DF:KI K dY) (DJ:W.isFn K (.ref dY)=O)
  (DE:gB K fns ck (.ref aB::bmV) (Z dY)=O)
  {br:J} (vI:W.nsIn K mainGlobals "NoProgram"=Z (Z (.ref br))) (vF:W.keepIn K (.ref br)=O)
  {mO:ClassData} (Lf:W.clsIn K br=Z mO)
  (Lg:W.nsIn K mO.ns "__init__"=Z (Z (.ref cg))) (vE:LK K cg "__init__" "NoProgram.__init__" lI KY KW KZ K0 KU K4 um K3 KS) (vH:CI K um "NoProgram.__init__") (vD:KI K cg) (vG:W.isFn K (.ref cg)=O)
  (vC:gB K fns br (.ref aB::bmV) (Z cg)=O)
  {bU:J} (zR:W.nsIn K mainGlobals "NoValue"=Z (Z (.ref bU))) (zK:W.keepIn K (.ref bU)=O)
  (zD:gB K fns bU (.ref aB::bmV) Y=O)
  {bg:J} (zS:W.nsIn K mainGlobals "NoPaper"=Z (Z (.ref bg))) (zL:W.keepIn K (.ref bg)=O)
  {sD:ClassData} (Pe:W.clsIn K bg=Z sD)
  (Pg:W.nsIn K sD.ns "__init__"=Z (Z (.ref cJ))) (zI:LK K cJ "__init__" "NoPaper.__init__" kD ON OL OR OT OI OX yM OV OG) (zP:CI K yM "NoPaper.__init__") (zG:KI K cJ) (zN:W.isFn K (.ref cJ)=O)
  (zE:gB K fns bg (.ref aB::bmV) (Z cJ)=O)
  {cz:J} (DL:W.nsIn K mainGlobals "NoTurn"=Z (Z (.ref cz))) (DH:W.keepIn K (.ref cz)=O)
  (DD:gB K fns cz (.ref aB::bmV) Y=O)
  {bK:J} (zT:W.nsIn K mainGlobals "NoChain"=Z (Z (.ref bK))) (zM:W.keepIn K (.ref bK)=O)
  {sE:ClassData} (Pf:W.clsIn K bK=Z sE)
  (Ph:W.nsIn K sE.ns "__init__"=Z (Z (.ref de))) (zJ:LK K de "__init__" "NoChain.__init__" qG OO OM OS OU OJ OY yN OW OH) (zQ:CI K yN "NoChain.__init__") (zH:KI K de) (zO:W.isFn K (.ref de)=O)
  (zF:gB K fns bK (.ref aB::bmV) (Z de)=O)
  {di:J} (FT:W.nsIn K mainGlobals "NoRow"=Z (Z (.ref di))) (FQ:W.keepIn K (.ref di)=O)
  (FP:gB K fns di (.ref aB::bmV) Y=O)
  {aR:J} (MO:W.nsIn K mainGlobals "Spot"=Z (Z (.ref aR))) (MU:W.plainGet K aR Str.empty=O) (MT:W.hasDictIn K aR=O) (MS:W.plainOver K aR=O)
  (MR:W.findIn K (.ref aR) "__setattr__"=Z (Z (.builtin "object.__setattr__"))) (MQ:W.makesIn K aR=O) (MP:W.keepIn K (.ref aR)=O)
  (t5:bR K aR "piece")
  (t6:bR K aR "above")
  (yi:bR K aR "arm")
  (wt:DM K aR "__init__" "Spot.__init__" iy dO)
  {aM:J} (IC:W.nsIn K mainGlobals "Stand"=Z (Z (.ref aM))) (II:W.plainGet K aM Str.empty=O) (IH:W.hasDictIn K aM=O) (IG:W.plainOver K aM=O)
  (IF:W.findIn K (.ref aM) "__setattr__"=Z (Z (.builtin "object.__setattr__"))) (IE:W.makesIn K aM=O) (ID:W.keepIn K (.ref aM)=O)
  (AK:bR K aM "f")
  (tZ:bR K aM "free")
  (qZ:bR K aM "spent")
  (q5:bR K aM "kinds")
  (lY:bR K aM "holdings")
  (tY:DM K aM "__init__" "Stand.__init__" gD dh)
  (xnd:decide [aB,ck,br,bU,bg,cz,bK,di].Nodup=O)
  (yH:DY K "makers_of" jt gv)
  (Jg:DY K "within" qK mB)
  (oQ:DY K "reached_kinds" fj dD)
  (oR:DY K "kind_of_maker" fk dE)
  (yG:DY K "number_of" js gu)
  (Nl:DY K "spots" vY pT)
  (oP:DY K "spots_beneath" fi dC)
  (Jj:DY K "pieces" qN mF)
  (uh:DY K "kinds_ahead" gG e7)
  (Bc:DY K "bound_by" kH iR)
  (Ji:DY K "stands" qM mE)
  (nP:DY K "stand_at_begin" eD df)
  (wM:DY K "stand_with" iE fK)
  (rL:DY K "stand_behind" fQ d5)
  (Rq:DY K "uses" Ai w5)
  (wL:DY K "taken_free" iD fJ)
  (Bb:DY K "spent_by" kG iQ)
  (Ba:DY K "unknowns" kF iP)
  (ug:DY K "unknowns_of" gF eZ)
  (nQ:DY K "piece_unknowns" eI dg)
  (Ru:DY K "rows" Al xb)
  (A9:DY K "use_rows" kE iO)
  (Jh:DY K "summed" qL mD)
  (ES:DY K "checked" ny kb)
  (Rx:DY K "_law_deal" Ao xh)
  (Rw:DY K "_law_draw" An xg)
  (Nk:DY K "_law_words" vX pS)
  (Nn:DY K "_law_kinds" v7 pV)
  (Rv:DY K "_law_fill" Am xf)
  (Np:DY K "_law_ended" v8 pW)
  (Ry:DY K "_law_case" Ap xi)
  (Rz:DY K "_law_body" Aq sf)
  (ER:DY K "_law_program" nu ka)
  (Nj:DY K "_law_wrong" vW pR)
  (Jk:DY K "_law_number" qO mG)
  (Rr:DY K "_law_told" Aj w6)
  (Nm:DY K "_law_right" vZ pU)
  (Rt:DY K "_law_step" Ak xa)
  (O6:NI K "law" u9) (UB:LK K u9 "law" "law" oo VQ VP RH R9 QV Sr J8 Se VA) (Vh:CI K J8 "law") (UG:KI K u9)
  (S7:NB K "len")
  (Pb:NB K "list")
  (Ld:NB K "tuple")
  (S8:NB K "int")
  (Pd:NB K "bool")
  (Pc:NB K "dict")
  (zC:NB K "reversed")
  (S6:NB K "max")
  (S5:NB K "min")
  (S4:NB K "sum")
  (Le:NB K "range")
  (vA:NB K "isinstance")
  (S1:NB K "zip")
  (xH:NB K "enumerate")
  (vB:NB K "ValueError")
  (FN:NB K "sorted")
  {ig:J} {ED:Option J} {rO:Array B} {IV:Nat} {D6:Array (Option B)}
  (FU:W.nsIn K mainGlobals "PAYING"=Z (Z (.ref ig))) (FO:K.lookup ig=Z (.type "tuple",ED,.seq rO IV,D6)) (xM:Vals ((["make","call","pay","give"]:List Str).map V.str) rO.toList)
  : ∃fd:Ch,(∀(s:ϋ)(v:B),BindsTo s fd ([v],[]) [("_law_script",v)])/\∀base:Do,K.In base->base.Ns mainGlobals mg->bj l.prog w K mg base CX0 110 fa fd [Zx] (qz K):=by
 have e:=hfa.symm.trans (W.mg_of X G O6);cases e;have og:=kY DG DK DF;have i3:=kY vE vH vD;have i4:=kY zI zP zG;have lr:=kY zJ zQ zH;let(zq,_,oH):=yH;let(Ki,_,zr):=Jg;let(pb,_,je):=oQ;let(pe,_,jf):=oR;let(zp,_,oG):=yG;let(N0,_,Du):=Nl;let(oZ,_,jd):=oP;let(Kl,_,zv):=Jj;let(uy,_,kz):=uh;let(BQ,_,sZ):=Bc;let(Kk,_,zu):=Ji;let(nW,_,ij):=nP;let(xt,_,mZ):=wM;let(sM,_,jS):=rL;let(Ss,_,Ku):=Rq;let(xr,_,mY):=wL;let(BP,_,sY):=Bb;let(BO,_,sX):=Ba;let(ux,_,ky):=ug;let(nY,_,ik):=nQ;let(Sx,_,Kx):=Ru;let(BN,_,sW):=A9;let(Kj,_,zt):=Jh;let(FF,_,vx):=ES;let(SA,_,KA):=Rx;let(Sz,_,Kz):=Rw;let(NZ,_,Dt):=Nk;let(N2,_,Dw):=Nn;let(Sy,_,Ky):=Rv;let(N3,_,Dx):=Np;let(SD,_,KC):=Ry;let(SE,_,KD):=Rz;let(FE,_,vw):=ER;let(NY,_,Ds):=Nj;let(Km,_,zw):=Jk;let(Sv,_,Kv):=Rr;let(N1,_,Dv):=Nm;let(Sw,_,Kw):=Rt;have O8:=kY UB Vh UG;let(jP,_,gy):=wt;let(iX,_,fL):=tY;have T:Txt K mg (aB,ck,dY,_,br,cg,_,bU,bg,cJ,_,cz,bK,de,_,di,aR,dO,_,aM,dh,_,gv,_,mB,_,dD,_,dE,_,gu,_,pT,_,dC,_,mF,_,e7,_,iR,_,mE,_,df,_,fK,_,d5,_,w5,_,fJ,_,iQ,_,iP,_,eZ,_,dg,_,xb,_,iO,_,mD,_,kb,_,xh,_,xg,_,pS,_,pV,_,xf,_,pW,_,xi,_,sf,_,ka,_,pR,_,mG,_,w6,_,pU,_,xa,_,u9,_,ig):=(gg tJ,W.mg_of X G tN,tL,gg DE,W.mg_of X G DN,DI,og,DJ,og.b2,gg vC,W.mg_of X G vI,vF,i3,vG,i3.b3,gg zD,W.mg_of X G zR,zK,gg zE,W.mg_of X G zS,zL,i4,zN,i4.b2,gg DD,W.mg_of X G DL,DH,gg zF,W.mg_of X G zT,zM,lr,zO,lr.b2,gg FP,W.mg_of X G FT,FQ,(MU,MT,MS,MR),W.mg_of X G MO,(MQ,jP.1,jP.2,MP),t5,t6,yi,gy,jP,gy.b4,(II,IH,IG,IF),W.mg_of X G IC,(IE,iX.1,iX.2,ID),AK,tZ,qZ,q5,lY,fL,iX,fL.b6,of_decide_eq_true xnd,(oH,W.mg_of X G zq,oH.b2),(zr,W.mg_of X G Ki,zr.b2),(je,W.mg_of X G pb,je.b2),(jf,W.mg_of X G pe,jf.b2),(oG,W.mg_of X G zp,oG.b2),(Du,W.mg_of X G N0,Du.b1),(jd,W.mg_of X G oZ,jd.b2),(zv,W.mg_of X G Kl,zv.b1),(kz,W.mg_of X G uy,kz.b2),(sZ,W.mg_of X G BQ,sZ.b4),(zu,W.mg_of X G Kk,zu.b2),(ij,W.mg_of X G nW,ij.b2),(mZ,W.mg_of X G xt,mZ.b4),(jS,W.mg_of X G sM,jS.b5),(Ku,W.mg_of X G Ss,Ku.b4),(mY,W.mg_of X G xr,mY.b4),(sY,W.mg_of X G BP,sY.b1),(sX,W.mg_of X G BO,sX.b1),(ky,W.mg_of X G ux,ky.b3),(ik,W.mg_of X G nY,ik.b2),(Kx,W.mg_of X G Sx,Kx.b1),(sW,W.mg_of X G BN,sW.b4),(zt,W.mg_of X G Kj,zt.b2),(vx,W.mg_of X G FF,vx.b2),(KA,W.mg_of X G SA,KA.b2),(Kz,W.mg_of X G Sz,Kz.b2),(Dt,W.mg_of X G NZ,Dt.b2),(Dw,W.mg_of X G N2,Dw.b2),(Ky,W.mg_of X G Sy,Ky.b3),(Dx,W.mg_of X G N3,Dx.b5),(KC,W.mg_of X G SD,KC.b5),(KD,W.mg_of X G SE,KD.b5),(vw,W.mg_of X G FE,vw.b3),(Ds,W.mg_of X G NY,Ds.b3),(zw,W.mg_of X G Km,zw.b3),(Kv,W.mg_of X G Sv,Kv.b2),(Dv,W.mg_of X G N1,Dv.b4),(Kw,W.mg_of X G Sw,Kw.b4),(O8,W.mg_of X G O6,O8.b1),W.mg_none_of X G S7,W.mg_none_of X G Pb,W.mg_none_of X G Ld,W.mg_none_of X G S8,W.mg_none_of X G Pd,W.mg_none_of X G Pc,W.mg_none_of X G zC,W.mg_none_of X G S6,W.mg_none_of X G S5,W.mg_none_of X G S4,W.mg_none_of X G Le,W.mg_none_of X G vA,W.mg_none_of X G S1,W.mg_none_of X G xH,W.mg_none_of X G vB,W.mg_none_of X G FN,W.mg_of X G FU,λ_=>.inr (_,_,_,FO,U,U,D5 xM,xM))
 exact(W.fnOf "law" "law" (dF oo) (bQ oo) (aw oo) .none RH R9 QV Sr J8 Se,λs v=>.of_eq U,λbase _ _=>Rg T)
theorem walk{l:W.OpenLaw}{q:Da}{loose:List Str}{XP:(Str->Option B)->Do->Prop}{P:Cl->Do->Prop}{d:DefRec}{K:Params->BT}(hn:l.most=Z 63)(g:d.params.defaults=[])
  (Q:∀(w:Cl)(h:Do),P w h->(K w.params).In h)
  (F:∀(w:Cl)(mg:Str->Option B)(fa:J)(h:Do),(K w.params).In h->h.Ns mainGlobals mg->mg d.name=Z (.ref fa) ->
   ∃fd:Ch,(∀(s:ϋ)(u:B),BindsTo s fd ([u],[]) [("_law_script",u)])/\∀base:Do,(K w.params).In base->base.Ns mainGlobals mg->bj l.prog w (K w.params) mg base CX0 110 fa fd [Zx] (qz (K w.params))):
  W.WalkO q loose XP P l.row.toRowW d [] (λf vs=>PySem.call f vs):=
 L2.Lj (n:=63) (k:=110) (x:="_law_script") (CX:=λ_=>CX0) (sp:=λw=>qz (K w.params)) hn ac g (U,by decide,by decide) Q F (λ_ _ a ns hl hO V=>(a,ns,U,U8 hO V,hl,λ_=>rfl)) λ_ _ _ _ _ z=>z
end K30
structure PySem.W.Fast where(tw10015382878986424289 tw10074296458017774902 tw10099635748635803669 tw10285446908978432545 tw10347194720244416541 tw10366647879761861494 tw10374928604637684247 tw10401658479455600181 tw10467930443529220928 tw10472183995700222304 tw10525302101815266816 tw10611768462756715817 tw10662460318821197879 tw10905106539536256050 tw11002613712014597571 tw11022505287585543009 tw11022735575658582324 tw11037465294440975017 tw1115620567529916881 tw11224371994584050670 tw11403680892720860524 tw11541351409479246424 tw11578475354415139956 tw11601234512601213479 tw1166420589378308002 tw11666736863314588437 tw1167199918213419764 tw11685020725358188015 tw11716694624974842363 tw11813823338290862065 tw11919814313144872948 tw11926807629998330836 tw11931553966164898020 tw11953970303568024974 tw11982236685934812211 tw1201765234207410469 tw12028861678818859456 tw12047686637202572153 tw12049402996624612610 tw12093233898172386078 tw12255815163822296536 tw1236401875649586517 tw12399260006979581403 tw12413284891389034192 tw12428041828335950111 tw12435403275320510848 tw1243943655435216329 tw12465892066682853717 tw12541286587401798277 tw12696868029291337598 tw12755581381458090770 tw12768101707202317374 tw12929153799018809905 tw12950964940226558900 tw12975556491018727282 tw13062982763572081365 tw13085659093612030255 tw13189188530887325669 tw13206516818162935617 tw13216205823847197594 tw1322040688056220665 tw13347490422633929529 tw1335578385006588185 tw13381831332864121018 tw13459742631359019361 tw13559491207055920821 tw13629102799724175650 tw13711280353975653857 tw1372956963321243419 tw13793317771159318509 tw13808201563177815074 tw13808284019343968383 tw13854034066227298836 tw14036415942748976943 tw14053843585013396643 tw14168374689795301138 tw14208386573832977113 tw14221126226848223696 tw14316811678236907511 tw14443158081155247165 tw14446513539817890196 tw14479539257677106317 tw14536271348152435857 tw14575542620398569352 tw14575589563857380590 tw14690825233929220322 tw14810479304086001076 tw14820475476619683367 tw14823706260865929719 tw14865329242971734276 tw14899814812821679759 tw14908055002061371722 tw15098627300894927165 tw15232245399690768616 tw15237932470631760705 tw15270246698357856419 tw15347317043129667697 tw1538380699865754163 tw15432096827072110632 tw15458337417382547239 tw15474033807503430281 tw15546421278300740073 tw15725566885882902560 tw15729911458925952742 tw15766816115250331336 tw15777735504464174027 tw15804328948109122855 tw15916593920119070119 tw15992297379977854080 tw16042871640612429425 tw16110751279068354448 tw16161146644188696972 tw16183277109666074224 tw16231860461525798175 tw16304860556558315990 tw16421517838152490501 tw16625771615485206992 tw16760340802618857108 tw16782452194607241440 tw16787227721553496841 tw16813206868165491795 tw17074452555198111680 tw17092300795160963182 tw17098184798755392850 tw17114969085449613622 tw17141928384686842485 tw17173270396830031872 tw17215929074441603540 tw17240785776756855895 tw17462695318448535673 tw17498977210574234267 tw17503934387193257651 tw17556637133092356941 tw17650536130503088023 tw17650722526931037073 tw17700810127030781376 tw17709610348875555184 tw17764770291553081086 tw17820294499622255980 tw17831727544802258566 tw17855281556940916718 tw17927376143295591922 tw17976302621054547470 tw18166826980183930928 tw18224458377121092171 tw18295046658525212797 tw18325352807535822616 tw18348183972785197670 tw18354871335650487426 tw18361195906248427379 tw18427776628828581210 tw1843034733573536886 tw1994283279673442617 tw225332599546985169 tw2402277629037565832 tw245331609672502808 tw2629965339634447157 tw2636965087757419913 tw2749451993080862240 tw2825359907147963707 tw2956403366450860429 tw2991198390507512480 tw3016311668160162740 tw3105460618079171738 tw3139507116488165332 tw3165322890048060060 tw3223784451058167849 tw3341354905254395978 tw3468456080949476444 tw3572720728829768731 tw3858744141272169061 tw4006862075979583679 tw4014591639839937328 tw4351371013520841585 tw4392283792145328788 tw4421012501140923423 tw4463403218735146824 tw4463973222942175403 tw4466269228496045742 tw4500650956270858414 tw4533447128742484573 tw4544307770524812429 tw4593181646098833607 tw4733363156375461168 tw4861503323414763773 tw4900506417372603040 tw4996351750042388851 tw5040331714694657460 tw5044959002344366099 tw5078108149571439834 tw5121350730842459335 tw5140046209367613789 tw5180891367424673716 tw5321841591139097730 tw5401584539670495813 tw559367076587069287 tw5638959136664810025 tw5643352909509770898 tw5750182286518444651 tw5950322925794922414 tw5977657219607359032 tw601540924729216122 tw6028654534829427211 tw6056407204249071333 tw6100901699481899397 tw6132344022953736113 tw6328171880535230000 tw6355977392166337910 tw6407511023302185018 tw6451808964203599132 tw6550029881458690762 tw6595080536684393214 tw6702563090157770439 tw6707634183760481207 tw6722099250522873662 tw6747931140641149048 tw6767083784061001159 tw6832217621461213479 tw6848324403623341705 tw6935623449279836453 tw7212943124340370539 tw7218725036673470707 tw7224915053779694018 tw7242542975169485600 tw7261006141055810777 tw7456798522442395490 tw7494899056997396457 tw7621449815371130952 tw7622499329597941044 tw7772627739867160179 tw7784127039167066624 tw7818408438577566474 tw7851183196498463114 tw7884528970422841739 tw7900254997355958711 tw800843122601119534 tw8068469729054939665 tw8078898227092563576 tw821413356906942142 tw822483948758731855 tw8314488338541205214 tw8369647879368063978 tw8486955015911558749 tw8489309388282112791 tw8569832450744487202 tw8600483162845534253 tw8651473001903764314 tw8698523585929376218 tw8701044888462733785 tw8751840763581343684 tw8820412432678653372 tw8833117239120015203 tw8836179999029782459 tw8844631744291826039 tw9087037147820151810 tw9238983463126507310 tw9266416826506861862 tw9483489524076613986 tw9511604171133877032 tw9529207342097877324 tw9580219981329192718 tw9606295257270308613 tw9850101733423894145 tw9901872047223486638 tw9926571584423034518:Nat)
open PySem PySem.W PyProof.Rows
set_option maxRecDepth 100000 in
set_option maxHeartbeats 0 in
theorem PySem.Challenge.cw_pursewright_k30_the_first_row_not_kept_holds : PySem.Challenge.rw_pursewright_k30_the_first_row_not_kept.Holds := by
 w_on;o_law;k_head;(case hw=>w_witness2)
 k_fill
 refine K30.walk (l:=PySem.Challenge.rw_pursewright_k30_the_first_row_not_kept) rfl rfl (fun w h Y=>PySem.W.kIn_of Y) ?F
 case F =>
  intro w mg fa h KX G hmg;refine' K30.all_mk KX G hmg ..
  all_goals try first|refine' L2.DY.of ?_ ?_ ?_ ?_|refine' L2.DM.of ?_ ?_ ?_ ?_ ?_
  all_goals try delta L2.NI L2.LK L2.CI L2.KI L2.NB L2.bR
  all_goals try first|k_is|kernel_rfl|repeat (first|exact .nil|refine .cons ⟨_,rfl⟩ ?_)