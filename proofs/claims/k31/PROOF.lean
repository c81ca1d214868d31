import PyProof.Rows.All
import Wide.All
import OpenK.AllK
import Wide.FinOn
import Lean
import PyProof.EqAt
import PyProof.EqKinds
import PyProof.TupleCall
import PyProof.InstStoreFacts
import PySem.Challenge.RW_pursewright_k31_asked_and_told
set_option Elab.async false
set_option linter.all false
set_option maxRecDepth 100000
local macro_rules|`(tactic|symm)=>`(tactic|exact ⟨rfl,rfl,rfl,by decide +kernel,rfl,by decide +kernel,by decide +kernel⟩)
open List renaming length_map→cO,getElem?_eq_getElem→dN,mem_singleton→d2,getElem?_map→fy,mem_of_getElem?→gV,getElem?_eq_some_iff→g5,length_append→i5,mem_append→i6,mem_map→j0,mem_cons_of_mem→j1,mem_cons_self→j2,map_append→j3,nodup_nil→kc,mem_cons→kO,mem_append_right→lY,take_length→mu,size_toArray→nP,length_cons→pq,mem_append_left→pL,take_add_one→pM,length_take→p7,append_nil→qg,getElem_of_mem→qp,map_cons→qS,map_map→rS,replicate→tr,getElem?_append_left→ui,nodup_cons→uj,length_eq_zero_iff→uC,getElem?_append_right→uD,nodup_append→uF,lookup_cons→u4,append_assoc→u6,filter_cons_of_pos→vq,length_singleton→vr,find?_cons→vF,not_mem_nil→x2,append_eq_nil_iff→yL,range→AK,filter_cons_of_neg→AL,sum_cons→CD,length→Ez,mem_of_mem_take→Fs,getElem?_zip_eq_some→GL,any_eq_true→Lm,getElem?_eq_none→Ln,map_congr_left→O0,length_pos_iff→O1,length_filter_le→O2,mem_filter→O4,length_zip→P5,getElem?_set_ne→QL,length_drop→QX,all_eq_true→RY,getElem_mem→SK,mem_range→SR,getElem?_set_self→SU,pairwise_map→UD,length_set→WE,length_nil→WJ,mem_flatMap→WO,take_sublist→WY,append_cancel_left→WZ,any_map→W4,cons_ne_nil→W6,mem_or_eq_of_mem_set→W9,mem_of_find?_eq_some→Xa,lookup→Xc,any_cons→Xd,length_reverse→Xe,ext_getElem→Xg,getElem_map→Xh,of_mem_zip→Xj,eq_nil_or_concat→Xm,getD_eq_getElem?_getD→Xn,drop_left→Xo,reverse_append→Xt,forIn_cons→Xu,filter_append→Xv,findIdx?_eq_some_iff_getElem→Xw,reverse_cons→Xx,foldl_append→Xy,length_replicate→XA,getElem?_toArray→XE,concat_eq_append→XF,cons_append→XG,map_take→XI,dropLast_concat→XJ,take_append_of_le_length→XN,foldl_cons→XQ,filterMap_cons→XR,replicate_succ→XT,filter_sublist→XU,nodup_iff_pairwise_ne→XZ,map_singleton→X1,sublist_append_right→X3,pairwise_iff_getElem→X4,drop_eq_getElem_cons→X5,any_eq_false→X6,length_range→X8,getElem?_take_of_lt→X9,map_drop→Ya,length_erase_of_mem→Yb,set_eq_of_length_le→Yc,getElem?_replicate→Yd,map_fst_zip→Yg,nil_sublist→Yh,sublist_nil→Yi,drop_length→Yj,length_pos_of_mem→Yk,find?_some→Yo,sum_append→Yp,range_succ→Yq,mem_erase_of_ne→Ys,zip→Yu,getElem_toArray→Yv,drop_zero→Yw,mem_of_mem_drop→Yx,reverse_reverse→Yy,flatMap_append→Yz,mem_filterMap→YC,find?_eq_none→YG,pairwise_cons→YJ,findIdx?_cons→YK,all_map→YN,ext_getElem?→YO,getElem?_inj→YR,map_set→YS,flatMap_cons→YT,flatten_cons→YU,getElem_inj→YV,nodup_range→YX,zipIdx_cons→YY,map_reverse→Y0,countP_cons→Y1
open PySem renaming wpAny_bind→dF,wpAny_pure→kb,sizeLine→kf,starEach→kg,wpAny_call_entry→yK,wpAny_holding→CF,wpAny_Call_Name_kw→GN,wpAny_typeOf→Lo,wpAny_specialOf→OZ,plainId_quiet→O3,codeAny_builtin→QG,wpAny_mono→QH,wpAny_rule→VQ,wpAny_isInstance→WT,wpAny_attempt→WX,wpAny_newObj_type→W0,wpAny_updateSeq→Xb,sizeLine_eq→Xp,wpAny_of_eq→Xq,DictEntry→Y2,PassesOwn→Y3
open PySem.Heap renaming get?_push_of_some→fC,lt_size→j5,get?_push_size→ke,size_push→wh,get?_update_other→EA,get?_update_self→Fq,SameBut→Xi,ExtBut→Yr,get?_push_cases→Yt
open Option renaming map_eq_some_iff→gs,isSome_iff_exists→Ll,isSome_map→TH,map_some→XO,bind_eq_some_iff→Yf,map_eq_none_iff→Ym,isSome_some→YD,getD_none→YW,getD_some→YZ
open Nat renaming le_refl→ka,le_trans→qR,ne_of_lt→ri,lt_of_lt_of_le→ro,le_of_lt→uE,zero_le→v5,ne_of_gt→C3,zero_add→Es,min_eq_left→OW,lt_irrefl→SQ,lt_of_le_of_lt→W8,lt_succ_self→Xf,le_max_left→Xk,lt_of_sub_eq_succ→Xl,lt_trans→Xr,le_of_lt_succ→Xz,add_le_add_left→XS,sub_self→XW,lt_succ_of_lt→X7,min_le_right→Ye,sub_succ→Yl,mod_lt→YE,mod_mod_of_dvd→YF,sub_le→Y4,lt_min→Y5
open Bool renaming false_ne_true→qr,and_eq_true→uB,eq_iff_iff→Wa,and_false→XY,false_eq_true→X0,false_or→YA,eq_false_iff→YM
open Int renaming le_refl→E3,toNat_natCast→Tn,toNat_of_nonneg→V5,zero_add→W5,natCast_nonneg→W7,add_zero→Xs,mul_le_mul_of_nonneg_right→XH,le_trans→XX,natCast_mul→Yn,add_assoc→YB,toNat_le→YL
open PySem.Obj renaming mapSeq→Lp,data_mapFields→YH
open Array renaming getElem?_eq_getElem→WL,length_toList→W2,getElem?_eq_none→W3,getElem?_toList→XC,forIn_toList→YI,size_append→YQ
open PySem.Around renaming under_plainId→XM
open Option renaming some→Z,none→Y
open Bool renaming true→O,false→ϊ
open PySem renaming Value→B,Addr→J,Shared→ϋ
def U:a=a:=rfl
open Lean in
def lp:Nat->Syntax->MacroM (TSyntax `rcasesPat)
|n+1,s=>match s with
 |`(($a,$b,*))=>do let c<-(#[a]++b.getElems).mapM λx=>lp n x;`(rcasesPat|⟨$[$c:rcasesPat],*⟩)
 |`(⟨$a,*⟩)=>do let c<-a.getElems.mapM λx=>lp n x;`(rcasesPat|⟨$[$c:rcasesPat],*⟩)
 |`($x:ident)=>let y:=if x.getId==`U then mkIdent `rfl else x;`(rcasesPat|$y:ident)
 |_=>`(rcasesPat|_)
|_,_=>`(rcasesPat|_)
local macro_rules|`(tactic|let $p:term:=$e)=>do`(tactic|obtain $(<-lp 9 p):rcasesPat:=$e)
local macro_rules|`(($a,$b,*))=>`(⟨$a,$b,*⟩)
open PySem.W renaming Frag→BT
open PySem renaming FuncData→Ch,World→Cl,Program→Da,Around→Db,Heap→Do,Expr→Ev,Stmt→EQ
open Lean in
local macro_rules|`(tactic|left)=>`(tactic|intro $(mkIdent `gd):ident $(mkIdent `s):ident $(mkIdent `σ):ident $(mkIdent `H):ident $(mkIdent `Q):ident $(mkIdent `I):ident $(mkIdent `h):ident)
open Lean in
local macro_rules|`(tactic|right)=>`(tactic|intro $(mkIdent `gd):ident $(mkIdent `s):ident $(mkIdent `σ):ident $(mkIdent `H):ident $(mkIdent `D):ident $(mkIdent `I):ident $(mkIdent `h):ident)
local macro_rules|`(tactic|omega)=>`(tactic|lia)
local macro_rules|`(nofun)=>`(fun _ z=>nomatch z)
local macro_rules|`(($e :))=>`(by simpa using $e)
local macro_rules|`(~~~$e)=>`({cls:=.type "list",data:=.seq $e})
local macro_rules|`($a^^^$b)=>`({cls:=.type "list",data:=.seq $a $b})
def ac{p:Prop}(h:p:=by decide):p:=h
def ad{p:Prop}(h:p:=by simp):p:=h
def al{p:Prop}(h:p:=by omega):p:=h
def ap{p:Prop}(h:p:=by rfl):p:=h
def be{p:Prop}(h:p:=by decide +kernel):p:=h
def bi{p:Prop}(h:p:=by kernel_rfl):p:=h
theorem zdc(h:True:=by decide):True:=h
theorem zrf(h:True=True:=by rfl):True=True:=h
local macro_rules|`(‹$t›)=>`(autoParam $t zrf._auto_1)
noncomputable section
set_option bootstrap.genMatcherCode false
set_option genSizeOf false
set_option genInjectivity false
namespace L2
open PySem PySem.Spec PyProof.Rows
inductive Z2{A' B':Type}(P:A'->B'->Prop):Prop
 |mk(a b:_)(_:P a b)
inductive Z9{A' B' C' D' E' F' G' H' I':Type}(P:A'->B'->C'->D'->E'->F'->G'->H'->I'->Prop):Prop
 |mk(a b c d e f g h i:_)(_:P a b c d e f g h i)
inductive P3{A' B' C':Type}(P:A'->B'->C'->Prop):Prop
 |mk(a b c:_)(_:P a b c)
inductive Q4{A' B' C' D':Type}(P:A'->B'->C'->D'->Prop):Prop
 |mk(a b c d:_)(_:P a b c d)
inductive Z5{A' B' C' D' E':Type}(P:A'->B'->C'->D'->E'->Prop):Prop
 |mk(a b c d e:_)(_:P a b c d e)
inductive Z6{A' B' C' D' E' F':Type}(P:A'->B'->C'->D'->E'->F'->Prop):Prop
 |mk(a b c d e f:_)(_:P a b c d e f)
inductive Z7{A' B' C' D' E' F' G':Type}(P:A'->B'->C'->D'->E'->F'->G'->Prop):Prop
 |mk(a b c d e f g:_)(_:P a b c d e f g)
inductive Z8{A' B' C' D' E' F' G' H':Type}(P:A'->B'->C'->D'->E'->F'->G'->H'->Prop):Prop
 |mk(a b c d e f g h:_)(_:P a b c d e f g h)
abbrev Key:=Sum Int Str
def v9:Key->B->Bool
 |.inl k,v=>B.isInt k v
 |.inr x,v=>B.isStrOf x v
def V1(w:Cl):Key->Int
 |.inl k=>hashInt k
 |.inr x=>hashStr w x
theorem b7:∀{k:Key}{v:B},v9 k v=O->(∃i t,k=Sum.inl i/\v=B.int i t)\/(∃x t,k=Sum.inr x/\v=B.str x t)
 |.inl i,v,h=>by
  let(t,e):=B.isInt_shape h;exact .inl (i,t,U,e)
 |.inr x,v,h=>by
  let(t,e):=B.isStrOf_shape h;exact .inr (x,t,U,e)
def Gf(i:Int)(t:Tok):v9 (.inl i) (.int i t)=true:=by simp[v9,B.isInt]
def Ge(x:Str)(t:Tok):v9 (.inr x) (.str x t)=true:=by simp[v9,B.isStrOf]
def RO(a b:Int):decide ((Sum.inl a:Key)=Sum.inl b)=(a==b):=by
 by_cases e:a=b
 ·subst e;simp
 ·have h:¬(Sum.inl a:Key)=Sum.inl b:=λq=>e (Sum.inl.inj q)
  rw[decide_eq_false h];exact(beq_eq_false_iff_ne.mpr e).symm
def RL(a b:Str):decide ((Sum.inr a:Key)=Sum.inr b)=decide (a=b):=by
 by_cases e:a=b
 ·simp
 ·have h:¬(Sum.inr a:Key)=Sum.inr b:=λq=>e (Sum.inr.inj q)
  rw[decide_eq_false h,decide_eq_false e]
def RN(a:Int)(b:Str):decide ((Sum.inl a:Key)=Sum.inr b)=false:=decide_eq_false (λq=>nomatch q)
def RM(a:Str)(b:Int):decide ((Sum.inr a:Key)=Sum.inl b)=false:=decide_eq_false (λq=>nomatch q)
def a6(prog:Da)(w:Cl):PySem.KeyKind prog w Key where
 is:=v9
 hash:=V1 w
 inj:=λv a b ha q=>by
  obtain⟨i,t,rfl,rfl⟩|⟨x,t,rfl,rfl⟩:=b7 ha
  ·obtain⟨j,u,rfl,e⟩|⟨y,u,rfl,e⟩:=b7 q
   ·injection e with g _;rw[g]
   ·exact nomatch e
  ·obtain⟨j,u,rfl,e⟩|⟨y,u,rfl,e⟩:=b7 q
   ·exact nomatch e
   ·injection e with g _;rw[g]
 byValue:=λk v h=>by
  obtain⟨i,t,rfl,rfl⟩|⟨x,t,rfl,rfl⟩:=b7 h <;> rfl
 pyHash:=λhv h=>by
  obtain⟨i,t,rfl,rfl⟩|⟨x,t,rfl,rfl⟩:=b7 hv
  ·exact wpAny_pyHash_int h
  ·exact wpAny_pyHash_str h
 eqBool:=λz hv h=>by
  obtain⟨i,t,rfl,rfl⟩|⟨x,t,rfl,rfl⟩:=b7 z
  ·obtain⟨j,u,rfl,rfl⟩|⟨y,u,rfl,rfl⟩:=b7 hv
   ·rw[RO]at h;exact wpAny_eqBool_int h
   ·rw[RN]at h;exact SeqAt.EqAt.int_str i t y u _ _ _ _ h
  ·obtain⟨j,u,rfl,rfl⟩|⟨y,u,rfl,rfl⟩:=b7 hv
   ·rw[RM]at h;exact SeqAt.EqAt.str_int x t j u _ _ _ _ h
   ·rw[RL]at h;exact wpAny_eqBool_str h
 «strs»:=λk x t v h=>by
  obtain⟨i,u,rfl,e⟩|⟨y,u,rfl,e⟩:=b7 h
  ·exact nomatch e
  ·injection e with g _
   subst g;cases v <;> rfl
def zS(prog:Da)(w:Cl)(i:Int)(t:Tok):(a6 prog w).is (.inl i) (.int i t)=true:=Gf i t
def zR(prog:Da)(w:Cl)(x:Str)(t:Tok):(a6 prog w).is (.inr x) (.str x t)=true:=Ge x t
set_option genInjectivity true in
inductive V where
 |non|bl (b:Bool)|int (i:Int)|str (x:Str)|byt (b:Array UInt8)|flt (b:UInt64)|ref (a:J)|ty (n:String)
 deriving DecidableEq
def RelV:V->B->Prop
 |.non,u=>u=B.none
 |.bl b,u=>u=B.bool b
 |.int i,u=>∃t,u=B.int i t
 |.str x,u=>∃t,u=B.str x t
 |.byt b,u=>∃t,u=B.bytes b t
 |.flt b,u=>∃t,u=B.float b t
 |.ref a,u=>u=B.ref a
 |.ty n,u=>u=B.type n
abbrev Vals:List V->List B->Prop:=Paired RelV
theorem Vals.length(r:Vals xs us):xs.length=us.length:=Paired.length r
theorem Vals.get:∀{xs:List V}{us:List B}{i:Nat}{x:V},Vals xs us->xs[i]?=Z x->∃u,us[i]?=Z u/\RelV x u
 |_,_,_,_,.nil,e=>by simp at e
 |_,_,0,_,.cons r _,e=>by simp at e;subst e;exact(_,U,r)
 |_,_,i+1,x,.cons _ t,e=>by
  let(u,h1,h2):=Vals.get t (e:)
  exact(u,(h1:),h2)
theorem Vals.set(r:RelV x u):∀{xs:List V}{us:List B}(i:Nat),Vals xs us->Vals (xs.set i x) (us.set i u)
 |_,_,_,.nil=>.nil
 |_,_,0,.cons _ t=>.cons r t
 |_,_,i+1,.cons q t=>.cons q (Vals.set r i t)
variable{us:List B}
def Vals.append(h:Vals xs us)(s:Vals ys ws):Vals (xs++ys) (us++ws):=by
 induction h with
 |nil=>exact s
 |cons r _ g=>exact .cons r g
theorem Vals.take:∀{xs:List V}{us:List B}(n:Nat),Vals xs us->Vals (xs.take n) (us.take n)
 |_,_,0,_=>.nil
 |_,_,_+1,.nil=>.nil
 |_,_,n+1,.cons r t=>.cons r (Vals.take n t)
theorem Vals.drop:∀{xs:List V}{us:List B}(n:Nat),Vals xs us->Vals (xs.drop n) (us.drop n)
 |_,_,0,r=>r
 |_,_,_+1,.nil=>.nil
 |_,_,n+1,.cons _ t=>Vals.drop n t
def j8:Option V->Option B->Prop
 |some v,Z u=>RelV v u
 |none,Y=>True
 |_,_=>False
def KV{κ:Type}:List (κ×V)->List (κ×B)->Prop:=Paired λ(p:κ×V)(q:κ×B)=>p.1=q.1/\RelV p.2 q.2
def kV:Key->V
 |.inl i=>.int i
 |.inr x=>.str x
inductive HO where
 |lst(xs:List V)
 |tup(xs:List V)
 |dK(kvs:List (Key×V))|dT (kvs:List (List Key×V))
 |set(S:Int->Bool)(n:Nat)
 |ins(C dx:J)(fs:List (Str×V))
 |own(x:J)
 |xd(fs:List (Str×V))
 |room(x:Int)
 |met(f x:J)
 |rng(lo hi:Int)
 |frz(o:Obj)(u:HO)
 |tbl(ps:Array B)
 |ext(φ:Do->Prop)
abbrev Hp:=J->Option HO
def upd(H:Hp)(a:J)(o:HO):Hp:=λb=>if b=a then Z o else H b
variable{H:Hp}{a:J}
def az:upd H a o a=Z o:=by unfold upd;rw[if_pos rfl]
def au(h:b≠a):upd H a o b=H b:=by unfold upd;rw[if_neg h]
def fE:upd (upd H a o) a u=upd H a u:=by
 funext b;unfold upd;split <;> rfl
def ja{o u:HO}(h:H a=Z o)(h':H b=Z u)(d:o≠u):a≠b:=by
 intro e;subst e;rw[h]at h';exact d (Option.some.inj h')
def bg{o:HO}(h:H a=Z o)(h':H b=Y):a≠b:=by
 intro e;subst e;rw[h]at h';cases h'
def lX(h:Do)(a:J)(items:Array B):Prop:=IsTup h a items/\∃o,h.get? a=Z o/\o.dict=Y
theorem lX.new(h:Do)(items:Array B):lX (h.push {cls:=.type "tuple",data:=.seq items}) h.objs.size items:=(IsTup.new _ _,_,ke _ U,U)
section
variable(P:Da)(w:Cl)
def c9(H:Hp)(h:Do)(a:J):HO->Prop
 |.lst xs=>xs.length<=kf/\∃(its:List B)(n:Nat),Vals xs its/\h.get? a=Z (its.toArray^^^n)
 |.tup xs=>xs.length<=kf/\∃its:List B,Vals xs its/\lX h a its.toArray
 |.dK kvs=>kvs.length<=kf/\(a==sysModules)=ϊ/\∃vs,KV kvs vs/\h.DictOf (a6 P w) a vs
 |.dT kvs=>kvs.length<=kf/\(a==sysModules)=ϊ/\∃xs:List (List Key×J×B),
   Paired (λ(p:List Key×V)(q:List Key×J×B)=>p.1=q.1/\H q.2.1=Z (.tup (p.1.map kV))/\RelV p.2 q.2.2) kvs xs /\
   ∃o es ep,h.get? a=Z o/\o.ExactDict/\o.data=.dict es ep/\es.toList=xs.map (entryOfKey (tupleKind (a6 P w)))/\(xs.map (·.1)).Nodup
 |.set S n=>h.SetOf (intKind P w) a S n
 |.ins C dx fs=>H dx=Z (.own a)/\fs.length<=1000/\dx≠a/\h.get? a=Z (W.instObj C dx) /\
   ∃mA,h.Ns1 dx mA/\(∀f,j8 (fs.lookup f) (mA f))/\PySem.Within mA (fs.map (·.1))
 |.own _=>∃o,h.get? a=Z o
 |.xd fs=>∃mA,h.Ns1 a mA/\∀f,j8 (fs.lookup f) (mA f)
 |.room x=>∃(its:List B)(n:Nat),Vals [.int x] its/\h.get? a=Z (its.toArray^^^n)
 |.rng lo hi=>∃t u v,h.get? a=Z {cls:=.type "range",data:=.fields #[.int lo t,.int hi u,.int 1 v]}
 |.frz o u=>h.get? a=Z o/\c9 H h a u
 |.tbl ps=>h.get? a=Z {cls:=.none,data:=.fields ps}
 |.met f x=>h.get? a=Z (W.methodObj (.ref f) (.ref x))
 |.ext φ=>φ h/\(∃o,h.get? a=Z o)/\∀h1 h2:Do,φ h1->(∀o,h1.get? a=Z o->h2.get? a=Z o)->φ h2
def HOk(H:Hp)(h:Do):Prop:=∀a o,H a=Z o->c9 P w H h a o
end
section
variable{P:Da}{w:Cl}{H':Hp}{h h':Do}{o:HO}
theorem c9.lt(x:c9 P w H h a o):a<h.objs.size:=by
 cases o with
 |lst xs=>let(_,_,_,_,e):=x;exact j5 e
 |tup xs=>let(_,_,_,p):=x;exact p.1.lt
 |dK kvs=>let(_,_,_,_,o,_,_,e,_):=x;exact j5 e
 |dT kvs=>let(_,_,_,_,o,_,_,e,_):=x;exact j5 e
 |set S n=>let(o,_,_,_,e,_):=x;exact j5 e
 |ins C dx fs=>let(_,_,_,e,_):=x;exact j5 e
 |own y=>let(_,e):=x;exact j5 e
 |xd fs=>let(_,(_,_,_,e,_),_):=x;exact j5 e
 |room g=>let(_,_,_,e):=x;exact j5 e
 |rng lo hi=>let(_,_,_,e):=x;exact j5 e
 |frz ob u=>let(e,_):=x;exact j5 e
 |tbl ps=>exact j5 (x)
 |met f y=>exact j5 (x)
 |ext φ=>let(_,(_,e),_):=x;exact j5 e
def Paired.Uw{F G:α->β->Prop}(r:Paired F q g)(f:∀a b,F a b->G a b):Paired G q g:=by
 induction r with
 |nil=>exact .nil
 |cons r _ z=>exact .cons (f _ _ r) z
def c9.dA(x:c9 P w H h a o)(k:∀b u,(b=a\/H b=Z (.own a))->h.get? b=Z u->h'.get? b=Z u)
  (ho:∀b,H b=Z (.own a)->H' b=Z (.own a)) (Q:∀b xs,H b=Z (.tup xs)->H' b=Z (.tup xs)):c9 P w H' h' a o:=by
 induction o with
 |lst xs=>let(z,its,n,r,e):=x;exact(z,its,n,r,k _ _ (.inl U) e)
 |tup xs=>let(z,its,r,(ob,e,c),o2,g,V):=x;exact(z,its,r,(ob,k _ _ (.inl U) e,c),o2,k _ _ (.inl U) g,V)
 |dK kvs=>let(z,y,vs,r,ob,es,ep,e,c):=x;exact(z,y,vs,r,ob,es,ep,k _ _ (.inl U) e,c)
 |dT kvs =>
  let(z,y,xs,r,ob,es,ep,e,c):=x;exact(z,y,xs,Paired.Uw r λp q z=>(z.1,Q _ _ z.2.1,z.2.2),ob,es,ep,k _ _ (.inl U) e,c)
 |set S n=>let(ob,es,ep,t,e,c):=x;exact(ob,es,ep,t,k _ _ (.inl U) e,c)
 |ins C dx fs =>
  let(d,z,ne,e,mA,(od,es,ep,g,c),r):=x;exact(ho _ d,z,ne,k _ _ (.inl U) e,mA,(od,es,ep,k _ _ (.inr d) g,c),r)
 |own y=>let(ob,e):=x;exact(ob,k _ _ (.inl U) e)
 |xd fs=>let(mA,(od,es,ep,e,c),r):=x;exact(mA,(od,es,ep,k _ _ (.inl U) e,c),r)
 |room x'=>let(t,u,v,e):=x;exact(t,u,v,k _ _ (.inl U) e)
 |rng lo hi=>let(t,u,v,e):=x;exact(t,u,v,k _ _ (.inl U) e)
 |frz ob u K=>let(e,q):=x;exact(k _ _ (.inl U) e,K q)
 |tbl ps =>
  have e:=x;exact k a _ (.inl U) e
 |met f y =>
  have e:=x;exact k a _ (.inl U) e
 |ext φ=>let(p,(o,e),st):=x;exact(st _ _ p λo q=>k _ _ (.inl U) q,(o,k _ _ (.inl U) e),st)
theorem HOk.lt(x:HOk P w H h)(e:H a=Z o):a<h.objs.size:=(x a o e).lt
def HOk.fresh(x:HOk P w H h)(e:h.objs.size<=a):H a=none:=by
 cases q:H a with
 |none=>rfl
 |some u=>exact absurd (ro (x.lt q) e) (SQ _)
def HOk.kept(x:HOk P w H h)(k:∀b u,h.get? b=Z u->h'.get? b=Z u):HOk P w H h':=λa o e =>
 (x a o e).dA (λb u _ q=>k b u q) (λ_ q=>q) λ_ _ q=>q
def HOk.laid(x:HOk P w H h)(k:∀b u,h.get? b=Z u->h'.get? b=Z u)(hp:h.objs.size<=a)(new:c9 P w (upd H a o) h' a o):HOk P w (upd H a o) h':=λb u e=>by
 have hn:=x.fresh hp;by_cases g:b=a
 ·subst g;rw[az]at e;cases e;exact new
 ·rw[au g]at e;exact(x b u e).dA (λc v _ q=>k c v q) (λc q=>by rw[au (bg q hn)];exact q) λc xs q=>by rw[au (bg q hn)];exact q
end
def Rd(H:Hp)(a:J)(u:HO):Prop:=H a=Z u\/∃o,H a=Z (.frz o u)
def Rd.of(h:H a=Z u):Rd H a u:=.inl h
variable{P:Da}
def Rd.ok(r:Rd H a u)(x:HOk P w H h):c9 P w H h a u:=by
 obtain r |⟨o,r⟩:=r
 ·exact x a u r
 ·let(_,q):=x a _ r;exact q
def Mut:Option HO->Prop
 |some (.lst _)=>True
 |some (.dK _)=>True
 |some (.dT _)=>True
 |some (.set _ _)=>True
 |some (.ins _ _ _)=>True
 |some (.ext _)=>True
 |some (.room _)=>True
 |_=>False
section
variable{w:Cl}{h h':Do}{x e:J}{o':HO}
def HOk.write(ok:HOk P w H h)(K:Mut (H x))(he:e=x\/H e=Z (.own x))(k:∀b u,b≠e->h.get? b=Z u->h'.get? b=Z u)(ak:∃u,h'.get? e=Z u)
  (new:c9 P w (upd H x o') h' x o'):HOk P w (upd H x o') h':=λb u q=>by
 have Ut:∀c y,H c=Z (.own y)->c≠x:=λc y r z=>by subst z;rw[r]at K;exact K
 have VM:∀c xs,H c=Z (.tup xs)->c≠x:=λc xs r z=>by subst z;rw[r]at K;exact K
 by_cases V:b=x
 ·subst V;rw[az]at q;cases q;exact new
 ·rw[au V]at q;by_cases g:b=e
  ·have q':H b=Z (.own x):=by
    obtain z|z:=he
    ·exact absurd (g.trans z) V
    ·rw[g];exact z
   rw[q]at q';cases q';let(v,hv):=ak;exact(v,by rw[g];exact hv)
  ·refine(ok b u q).dA (λc v Q r=>k c v ?_ r) (λc r=>by rw[au (Ut c b r)];exact r) λc xs r=>by rw[au (VM c xs r)];exact r
   obtain rfl|Q:=Q
   ·exact g
   ·rintro rfl
    obtain z|z:=he
    ·exact Ut c b Q z
    ·rw[Q]at z;cases z;exact V U
end
structure Un(fs ex:List J)(H H':Hp)(h h':Do):Prop where
 keep:∀b o,h.get? b=Z o->H b=Y->b ∉ fs->b ∉ ex->h'.get? b=Z o
 slot:∀b o,h.get? b=Z o->H b=Y->b∈fs->b ∉ ex->∃sl,h'.get? b=Z {o with slots:=sl}
 free:∀b o,h.get? b=Z o->H b=Y->b ∉ ex->H' b=Y
 there:∀b o,h.get? b=Z o->b ∉ ex->∃o',h'.get? b=Z o'
 sd:∀b xs,H b=Z (.tup xs)->H' b=Z (.tup xs)
 kJ:∀b o u,H b=Z (.frz o u)->H' b=Z (.frz o u)
 sf:∀b ps,H b=Z (.tbl ps)->∃more,H' b=Z (.tbl (ps++more))
variable{ob:Obj}
section
variable{fs ex:List J}{H1:Hp}{h h1 h':Do}{x e:J}{o:HO}
def Un.any(u:Un fs ex H H1 h h1)(q:h.get? b=Z ob)(n:H b=Y)(hx:b ∉ ex):∃sl,h1.get? b=Z {ob with slots:=sl}:=by
 by_cases g:b∈fs
 ·exact u.slot b ob q n g hx
 ·exact(ob.slots,u.keep b ob q n g hx)
def Un.kept(k:∀b u,h.get? b=Z u->h'.get? b=Z u):Un fs ex H H h h':=
 (λb ob q _ _ _=>k b ob q,λb ob q _ _ _=>(ob.slots,k b ob q),λ_ _ _ n _=>n,λb ob q _=>(ob,k b ob q),λ_ _ q=>q,λ_ _ _ q=>q,λ_ ps q=>(#[],by rw[q];simp))
def Un.refl:Un fs ex H H h h:=Un.kept λ_ _ q=>q
def Un.laid(k:∀b u,h.get? b=Z u->h'.get? b=Z u)(hp:h.objs.size<=a)(hn:H a=Y):Un fs ex H (upd H a o) h h' where
 keep:=λb u q _ _ _=>k b u q
 slot:=λb u q _ _ _=>(u.slots,k b u q)
 free:=λb u q n _=>by rw[au (ri (ro (j5 q) hp))];exact n
 there:=λb u q _=>(u,k b u q)
 sd:=λb xs q=>by rw[au (bg q hn)];exact q
 kJ:=λb u xs q=>by rw[au (bg q hn)];exact q
 sf:=λb ps q=>(#[],by rw[au (bg q hn),q];simp)
def Un.write(K:Mut (H x))(he:e=x\/H e=Z (.own x))(k:∀b u,b≠e->h.get? b=Z u->h'.get? b=Z u)(P:∃u,h'.get? e=Z u):Un fs ex H (upd H x o) h h':=by
 have hx:∀b,H b=Y->b≠x:=λb n z=>by subst z;rw[n]at K;exact K
 have Q:∀b,H b=Y->b≠e:=λb n z=>by
  subst z;obtain r|r:=he
  ·exact hx b n r
  ·rw[n]at r;cases r
 have hm:∀b u,H b=Z u->¬ Mut (Z u)->b≠x:=λb u q nm z=>by subst z;rw[q]at K;exact nm K
 refine(λb u q n _ _=>k b u (Q b n) q,λb u q n _ _=>(u.slots,k b u (Q b n) q),λb u q n _=>by rw[au (hx b n)];exact n,λb u q _=>?_,
  λb xs q=>by rw[au (hm b _ q λz=>z)];exact q,λb u xs q=>by rw[au (hm b _ q λz=>z)];exact q,λb ps q=>(#[],by rw[au (hm b _ q λz=>z),q];simp))
 by_cases g:b=e
 ·subst g;exact P
 ·exact(u,k b u g q)
end
def trk(h:Do)(H:Hp):List Addr:=(AK h.objs.size).filter λa=>(H a).isSome
def Aa(h:Do)(H:Hp):Do:=W.hideAll h (trk h H)
theorem Gj(h:Do)(H:Hp):(Aa h H).objs.size=h.objs.size:=W.hideAll_size _ _
theorem Kr{b:J}{o:Obj}(e:h.get? b=Z o)(n:H b=Y):(Aa h H).get? b=Z o:=
 W.hideAll_get _ e λhm=>by
  have q:=(O4.mp hm).2;rw[n]at q;simp at q
theorem NQ(e:(Aa h H).get? b=Z o):h.get? b=Z o/\H b=none:=by
 have g:=W.of_hideAll (trk h H) e;refine(g,?_);cases q:H b with
 |none=>rfl
 |some x =>
  have hm:b∈trk h H:=O4.mpr (SR.mpr (j5 g),by simp[q])
  have z:(Aa h H).get? b=none:=W.hideAll_none (trk h H) hm;rw[z]at e;cases e
structure Mod(K:BT)(mg:Str->Option B)(base:Do):Prop where
 kin:K.In base
 glob:base.Ns mainGlobals mg
 blt:∃mb,base.Ns builtinsNs mb/\∀x:Str,x ≠ "__name__"->mb x=bootBuiltins x
 nolimit:base.NoLimit
structure Cx where
 prog:Da
 w:Cl
 K:BT
 mg:Str->Option B
 base:Do
 A:Db
 N:List Str
 s₀:ϋ
 ba:Hp
 env:Env
 outer:List Env
 stack:List Env
 ex:List J
 fn:Str->Bool
 calm:Bool
 pn:List (J×Obj)
 xe:B->ϋ->Prop
abbrev Ze(X:Cx){α:Type}:=@wpAny α (model X.prog X.w) X.A
def frs(l:List Env):List Addr:=l.filterMap (·.frame)
abbrev Cx.fs(X:Cx):List Addr:=frs X.outer
def Vis(sc:Scope)(x:Str):Prop:=sc.names.lookup x=Z .local\/sc.names.lookup x=Z .cell\/sc.names.lookup x=Z .free
def Loc(sc:Scope)(x:Str):Prop:=sc.names.lookup x=Z .local\/sc.names.lookup x=Z .cell
def Look(env:Env)(h:Do)(m:Str->Option B)(x:Str)(u:B):Prop:=
 (env.kindOf x=Z .local/\m x=Z u)\/((env.kindOf x=Z .cell\/env.kindOf x=Z .free)/\∃c,env.cells.lookup x=Z c/\h.IsCell c (Z u))
structure Cx.Ok(X:Cx):Prop where
 mod:Mod X.K X.mg X.base
 kind:X.env.scope.kind=.function
 glob:X.env.globals=mainGlobals
 blt:X.env.builtins=builtinsNs
 above:X.s₀.heap.objs.size<=X.env.locals
 inj:∀x y c,X.env.cells.lookup x=Z c->X.env.cells.lookup y=Z c->x=y
 has:∀x,(X.env.kindOf x=Z .cell\/X.env.kindOf x=Z .free)->∃c,X.env.cells.lookup x=Z c
 cab:∀x c,X.fn x=O->X.env.cells.lookup x=Z c->X.s₀.heap.objs.size<=c
 hd:X.calm=O->X.A.handled=Y
 frames:X.A.frames=Z X.stack
 stk:X.stack=X.outer\/(X.stack=X.env::X.outer/\X.env.frame=Z X.env.locals)
 exf:∀b∈X.ex,b≠X.env.locals/\∀x c,X.env.cells.lookup x=Z c->c≠b
 bs:∀b o,X.base.get? b=Z o->X.s₀.heap.get? b=Z o/\X.ba b=Y
 bsz:X.base.objs.size<=X.s₀.heap.objs.size
 JM:∀b o,X.base.get? b=Z o->b ∉ X.ex
 Ov:∀b∈X.ex,b ∉ X.fs
 qJ:X.s₀.heap.FunFrames X.base X.outer
 frf:∀b∈X.fs,X.ba b=Y
structure Inv(X:Cx)(gd:List (J×Obj))(σ:List (Option V))(H:Hp)(s:ϋ):Prop where
 ok:X.Ok
 os:s.os=X.s₀.os
 bare:AllBare s.gens
 base:Un X.fs X.ex X.ba H X.s₀.heap s.heap
 loc:∃m,s.heap.Ns X.env.locals m/\∀(i:Nat)(x:Str)(v:V),X.N[i]?=Z x->σ[i]?=Z (Z v)->Vis X.env.scope x->∃u,RelV v u/\Look X.env s.heap m x u
 cell:∀x c,X.env.cells.lookup x=Z c->∃v,s.heap.IsCell c v
 free:H X.env.locals=Y
 gg:∀x c,X.env.cells.lookup x=Z c->H c=Y
 pin:∀p∈X.pn++gd,s.heap.get? p.1=Z p.2/\H p.1=Y/\p.1≠X.env.locals/\p.1 ∉ X.fs/\∀v,p.2.data ≠ .cell v
 hok:HOk X.prog X.w H s.heap
 len:σ.length=X.N.length
variable{ch:List J}{t':Nat}{it:J}{N:List Str}{j:Nat}{x:Str}{u:B}{s':ϋ}
section
variable{X:Cx}{gd:List (J×Obj)}{σ:List (Option V)}{H':Hp}{s:ϋ}{h':Do}
def Cx.Ok.VP(ok:X.Ok)(e:X.base.get? b=Z o):b ∉ X.fs:=λg=>by
 have:=(ok.qJ.mem g).1
 rw[e]at this;cases this
theorem Inv.bs(I:Inv X gd σ H s):∀b o,X.base.get? b=Z o->s.heap.get? b=Z o/\H b=none:=λb o e =>
 (I.base.keep b o (I.ok.bs b o e).1 (I.ok.bs b o e).2 (I.ok.VP e) (I.ok.JM b o e),I.base.free b o (I.ok.bs b o e).1 (I.ok.bs b o e).2 (I.ok.JM b o e))
def Inv.bk(I:Inv X gd σ H s):∀b o,X.base.get? b=Z o->s.heap.get? b=Z o:=λb o e=>(I.bs b o e).1
theorem Inv.mod(I:Inv X gd σ H s):Mod X.K X.mg X.base:=I.ok.mod
def Inv.kIn(I:Inv X gd σ H s):X.K.In s.heap:=I.ok.mod.kin.keeps I.bk
theorem Inv.lt(I:Inv X gd σ H s):X.env.locals<s.heap.objs.size:=let(_,hn,_):=I.loc;hn.lt
def Inv.sz(I:Inv X gd σ H s):X.s₀.heap.objs.size<=s.heap.objs.size:=qR I.ok.above (uE I.lt)
def Inv.Uu(I:Inv X gd σ H s)(h:s.heap.objs.size<=a):a ∉ X.fs:=λg=>by
 let(_,o,ho,_):=I.ok.qJ.mem g;exact absurd (ro (j5 ho) (qR I.sz h)) (SQ _)
def Inv.cne(I:Inv X gd σ H s):∀x c,X.env.cells.lookup x=Z c->c≠X.env.locals:=λx c e z=>by
 let(v,o,ho,hd):=I.cell x c e;let(m,(o',es,ep,g,q,_),_):=I.loc;rw[z,g]at ho;cases ho;rw[q]at hd;cases hd
theorem Inv.qJ(I:Inv X gd σ H s):s.heap.FunFrames X.base X.outer:=by
 have all:∀l,(∀b∈frs l,b∈X.fs)->X.s₀.heap.FunFrames X.base l->s.heap.FunFrames X.base l:=by
  intro l
  induction l with
  |nil=>intro _ _;trivial
  |cons env r K =>
   intro hs hl;let(hk,(L,o,hf,hn,ho,hd),hr):=hl;have q:=hs L (by unfold frs;rw[XR,hf];exact j2)
   let(sl,e):=I.base.slot L o ho (I.ok.frf L q) q λz=>I.ok.Ov L z q
   exact(hk,(L,_,hf,hn,e,hd),K (λb g=>hs b (by unfold frs;rw[XR,hf];exact j1 _ g)) hr)
 exact all X.outer (λ_ g=>g) I.ok.qJ
theorem Inv.stack(I:Inv X gd σ H s):s.heap.FunFrames X.base X.stack:=by
 obtain e |⟨e,hf⟩:=I.ok.stk
 ·rw[e];exact I.qJ
 ·rw[e];let(m,hn,_):=I.loc;exact .cons (by rw[I.ok.kind];decide) hf hn (Heap.get?_none_of_le (qR I.ok.bsz I.ok.above)) I.qJ
def Inv.wV(I:Inv X gd σ H s):∀b∈frs X.stack,b∈X.env.locals::X.fs:=λb g=>by
 obtain e |⟨e,hf⟩:=I.ok.stk
 ·rw[e]at g;exact j1 _ g
 ·rw[e]at g;unfold frs at g;rw[XR,hf]at g;exact g
def Inv.C2(I:Inv X gd σ H s):∀b∈frs X.stack,H b=none:=λb g=>by
 obtain e|g:=kO.mp (I.wV b g)
 ·rw[e];exact I.free
 ·let(_,o,ho,_):=I.ok.qJ.mem g;exact I.base.free b o ho (I.ok.frf b g) λz=>I.ok.Ov b z g
def Inv.step(I:Inv X gd σ H s)
  (K:∀b∈ch,(b∈X.ex\/X.s₀.heap.objs.size<=b)/\b≠X.env.locals/\(∀x c,X.env.cells.lookup x=Z c->c≠b)/\∀p∈X.pn++gd,p.1≠b)
  (keep:∀b o,b≠X.env.locals->b ∉ X.fs->b ∉ ch->s.heap.get? b=Z o->H b=Y->h'.get? b=Z o)
  (slot:∀b o,b≠X.env.locals->b∈X.fs->b ∉ ch->s.heap.get? b=Z o->H b=Y->∃sl,h'.get? b=Z {o with slots:=sl}) (free:∀b o,b ∉ ch->s.heap.get? b=Z o->H b=Y->H' b=Y)
  (there:∀b o,b ∉ ch->s.heap.get? b=Z o->∃o',h'.get? b=Z o')
  (sd:∀b xs,H b=Z (.tup xs)->H' b=Z (.tup xs)) (kJ:∀b o u,H b=Z (.frz o u)->H' b=Z (.frz o u)) (sf:∀b ps,H b=Z (.tbl ps)->∃more,H' b=Z (.tbl (ps++more)))
  (ns:∀m,s.heap.Ns X.env.locals m->h'.Ns X.env.locals m) (hok:HOk X.prog X.w H' h') (hg:AllBare g'):
  Inv X gd σ H' {s with heap:=h',gens:=g',drawn:=d',toks:=t'}:=by
 have ak:∀b o,X.s₀.heap.get? b=Z o->b≠X.env.locals:=λb o e=>ri (ro (j5 e) I.ok.above)
 have P:∀b o,X.s₀.heap.get? b=Z o->b ∉ X.ex->b ∉ ch:=λb o e hx V=>by
  obtain z|z:=(K b V).1
  ·exact hx z
  ·exact absurd (ro (j5 e) z) (SQ _)
 have cellK:∀x c,X.env.cells.lookup x=Z c->∀v,s.heap.IsCell c v->h'.IsCell c v:=λx c e v (o,ho,hd)=>by
  have g:=λz=>(K c z).2.2.1 x c e U
  by_cases hc:c∈X.fs
  ·let(sl,q):=slot c o (I.cne x c e) hc g ho (I.gg x c e);exact(_,q,hd)
  ·exact(o,keep c o (I.cne x c e) hc g ho (I.gg x c e),hd)
 refine(I.ok,I.os,hg,(λb o e n V hx=>?_,λb o e n V hx=>?_,λb o e n hx=>?_,λb o e hx=>?_,λb xs e=>sd b xs (I.base.sd b xs e),λb o xs e=>kJ b o xs (I.base.kJ b o xs e),λb ps e=>?_),?_,λx c e=>?_,?_,λx c e=>?_,λp hp=>?_,hok,I.len)
 ·exact keep b o (ak b o e) V (P b o e hx) (I.base.keep b o e n V hx) (I.base.free b o e n hx)
 ·let(sl,Q):=I.base.slot b o e n V hx;let(ar,e2):=slot b _ (ak b o e) V (P b o e hx) Q (I.base.free b o e n hx);exact(ar,e2)
 ·let(o',Q):=I.base.there b o e hx;exact free b o' (P b o e hx) Q (I.base.free b o e n hx)
 ·let(o',Q):=I.base.there b o e hx;exact there b o' (P b o e hx) Q
 ·let(m1,Q):=I.base.sf b ps e;let(m2,e2):=sf b _ Q;exact(m1++m2,by rw[e2,Array.append_assoc])
 ·let(m,hn,hl):=I.loc;refine(m,ns m hn,λi x v Q e2 e3=>?_)
  let(u,r,l):=hl i x v Q e2 e3;refine(u,r,?_);obtain l |⟨k,c,e,z⟩:=l
  ·exact .inl l
  ·exact .inr (k,c,e,cellK x c e _ z)
 ·let(v,z):=I.cell x c e;exact(v,cellK x c e v z)
 ·let(m,(o,_,_,ho,_),_):=I.loc;exact free _ o (λz=>(K _ z).2.1 U) ho I.free
 ·let(v,o,ho,hd):=I.cell x c e;exact free c o (λz=>(K c z).2.2.1 x c e U) ho (I.gg x c e)
 ·let(e,n,ne,nf,d):=I.pin p hp;have g:=λz=>(K p.1 z).2.2.2 p hp U
  exact(keep p.1 p.2 ne nf g e n,free p.1 p.2 g e n,ne,nf,d)
def Inv.un(I:Inv X gd σ H s)(u:Un X.fs [] H H' s.heap h')(hok:HOk X.prog X.w H' h'):Inv X gd σ H' {s with heap:=h',toks:=t'}:=by
 let(m,(o,es,ep,ho,r),_):=id I.loc;let(sl,V):=u.any ho I.free ad
 exact I.step (ch:=[]) nofun (λb o _ q _ e n=>u.keep b o e n q ad) (λb o _ q _ e n=>u.slot b o e n q ad) (λb o _ e n=>u.free b o e n ad) (λb o _ e=>u.there b o e ad) u.sd u.kJ u.sf (λm' hm=>by
  let(o',K,P,g,Q):=hm;rw[ho]at g;cases g;exact(_,K,P,V,Q)) hok I.bare
def Inv.call(I:Inv X gd σ H s)(u:Un (frs X.stack) ch H H' s.heap h')(hok:HOk X.prog X.w H' h')(hg:AllBare g')
  (K:∀b∈ch,(b∈X.ex\/X.s₀.heap.objs.size<=b)/\b≠X.env.locals/\(∀x c,X.env.cells.lookup x=Z c->c≠b)/\∀p∈X.pn++gd,p.1≠b):
  Inv X gd σ H' {s with heap:=h',gens:=g',drawn:=d',toks:=t'}:=by
 let(m,(o,es,ep,ho,r),_):=id I.loc;let(sl,P):=u.any ho I.free λz=>(K _ z).2.1 U
 exact I.step K (λb o P hb g e n=>u.keep b o e n (λz=>(kO.mp (I.wV b z)).elim P hb) g) (λb o _ _ g e n=>u.any e n g) (λb o g e n=>u.free b o e n g) (λb o g e=>u.there b o e g) u.sd u.kJ u.sf (λm' hm=>by
  let(o',Q,V,q,r'):=hm;rw[ho]at q;cases q;exact(_,Q,V,P,r')) hok hg
def Inv.turned(I:Inv X gd σ H s)(k:∀b o,b≠it->s.heap.get? b=Z o->h'.get? b=Z o)(hn:H it=Y)(P:it≠X.env.locals)
  (h1:it∈X.ex\/X.s₀.heap.objs.size<=it) (h2:∀x c,X.env.cells.lookup x=Z c->c≠it) (h3:∀p∈X.pn++gd,p.1≠it):Inv X gd σ H {s with heap:=h',toks:=t'}:=by
 have K:∀b u,H b=Z u->b≠it:=λb u e z=>by rw[z,hn]at e;cases e
 refine I.step (ch:=[it]) (λb Q=>?_) (λb o _ _ g e _=>k b o (λz=>g (by simp[z])) e) (λb o _ _ g e _=>(o.slots,k b o (λz=>g (by simp[z])) e)) (λ_ _ _ _ n=>n)
  (λb o g e=>(o,k b o (λz=>g (by simp[z])) e)) (λ_ _ e=>e) (λ_ _ _ e=>e) (λb ps e=>(#[],by rw[e];simp)) (λm hm=>?_) (λb u e=>?_) I.bare
 ·have e:=(Q:)
  subst e;exact(h1,P,h2,h3)
 ·let(o,es,ep,ho,r):=hm;exact(o,es,ep,k _ o (Ne.symm P) ho,r)
 ·refine(I.hok b u e).dA (λc v g q=>k c v ?_ q) (λ_ q=>q) λ_ _ q=>q
  obtain z|z:=g
  ·rw[z];exact K b u e
  ·exact K c _ z
def Inv.tok(I:Inv X gd σ H s)(t:Nat):Inv X gd σ H {s with toks:=t}:=I.un Un.refl I.hok
theorem Inv.kept(I:Inv X gd σ H s)(k:∀b u,s.heap.get? b=Z u->h'.get? b=Z u):Inv X gd σ H {s with heap:=h',toks:=t'}:=I.un (Un.kept k) (I.hok.kept k)
theorem Inv.laid(I:Inv X gd σ H s)(k:∀b u,s.heap.get? b=Z u->h'.get? b=Z u)(hp:s.heap.objs.size<=a)(new:c9 X.prog X.w (upd H a o) h' a o):
  Inv X gd σ (upd H a o) {s with heap:=h',toks:=t'}:=I.un (Un.laid k hp (I.hok.fresh hp)) (I.hok.laid k hp new)
theorem Inv.write{x e:J}(I:Inv X gd σ H s)(q:Mut (H x))(he:e=x\/H e=Z (.own x))(k:∀b u,b≠e->s.heap.get? b=Z u->h'.get? b=Z u)(g:∃u,h'.get? e=Z u)
  (new:c9 X.prog X.w (upd H x o) h' x o):Inv X gd σ (upd H x o) {s with heap:=h',toks:=t'}:=I.un (Un.write q he k g) (I.hok.write q he k g new)
def Inv.mF(I:Inv X gd σ H s)(h:∀p∈pins',s.heap.get? p.1=Z p.2/\H p.1=Y/\p.1≠X.env.locals/\p.1 ∉ X.fs/\∀v,p.2.data ≠ .cell v):Inv X pins' σ H s:=
 (I.ok,I.os,I.bare,I.base,I.loc,I.cell,I.free,I.gg,λp hp=>(i6.mp hp).elim (λz=>I.pin p (pL _ z)) (h p),I.hok,I.len)
def zO(g:N.Nodup)(a:N[i]?=Z x)(b:N[j]?=Z x):i=j:=by
 let(h1,z):=g5.mp a;let(h2,q):=g5.mp b;exact(YV g).mp (z.trans q.symm)
abbrev AT(X:Cx)(x:Str):Prop:=X.fn x=true\/X.env.scope.names.lookup x=some .local
def E8{A:Db}{E:B->ϋ->Prop}{i:Nat}{v:V}{Q:Unit->ϋ->Prop}(I:Inv X gd σ H s)(hN:X.N.Nodup)(hi:X.N[i]?=Z x)(hx:Loc X.env.scope x)(r:RelV v u)
  (h:∀s',Inv X gd (σ.set i (Z v)) H s'->(∃a,Xi a s.heap s'.heap/\(a=X.env.locals\/X.env.cells.lookup x=Z a))->Q () s') (hf:AT X x:=by first|exact .inl rfl|exact .inr rfl|assumption):wpAny M A (storeName X.env x u) Q E s:=by
 let(m,hn,hl):=id I.loc;have Wm:(X.env.scope.kind == .class ||(X.env.scope.kind == .module&&X.env.locals != X.env.globals))=false:=by rw[I.ok.kind];rfl
 have ak:i < σ.length:=by rw[I.len];exact(g5.mp hi).1
 have cne:=I.cne;have tracked:∀{a:J}{h':Do},(∃o,s.heap.get? a=Z o/\H a=Y)->Xi a s.heap h'->HOk X.prog X.w H h':=λ{a h'} ha hs b ob e=>by
  let(_,_,jc):=ha;refine(I.hok b ob e).dA (λc w' K q=>(hs.2 c ?_).trans q) (λ_ q=>q) λ_ _ q=>q
  rintro rfl
  obtain rfl|K:=K
  ·rw[jc]at e;cases e
  ·rw[jc]at K;cases K
 obtain hk|hk:=hx
 ·refine wpAny_storeName_local hk hn (λh' aR hs=>?_) Wm
  let(oL,_,_,aQ,_):=id hn;refine h _ (I.ok,I.os,I.bare,(λb o e n hb hx=>?_,λb o e n hb hx=>?_,I.base.free,λb o e hx=>?_,I.base.sd,I.base.kJ,I.base.sf),(_,aR,λj y v' g P e3=>?_),λy c e=>?_,I.free,I.gg,λp hp=>?_,tracked (oL,aQ,I.free) hs,(I.len:)) (_,hs,.inl U)
  ·exact(hs.2 b (ri (ro (j5 e) I.ok.above))).trans (I.base.keep b o e n hb hx)
  ·let(sl,g):=I.base.slot b o e n hb hx;exact(sl,(hs.2 b (ri (ro (j5 e) I.ok.above))).trans g)
  ·let(o',g):=I.base.there b o e hx;exact(o',(hs.2 b (ri (ro (j5 e) I.ok.above))).trans g)
  ·by_cases hj:j=i
   ·subst hj;rw[hi]at g;cases g;rw[SU ak]at P;cases P;exact(u,r,.inl (hk,ad))
   ·rw[QL (Ne.symm hj)]at P;let(u',r',q):=hl j y v' g P e3;refine(u',r',?_);obtain⟨k,e⟩|⟨k,c,e,z⟩:=q
    ·refine .inl (k,?_)
     have:y≠x:=λe=>hj (zO hN g (e▸hi))
     simp[this,e]
    ·exact .inr (k,c,e,z.sameBut hs (cne y c e))
  ·let(w',z):=I.cell y c e;exact(w',z.sameBut hs (cne y c e))
  ·let(e,n,ne,nf,d):=I.pin p hp;exact((hs.2 p.1 ne).trans e,n,ne,nf,d)
 ·have ar:X.fn x=true:=by
   obtain z|z:=hf
   ·exact z
   ·rw[z]at hk;cases hk
  let(c,K):=I.ok.has x (.inl hk);let(w',z):=I.cell x c K;refine wpAny_storeName_cell I.ok.kind hk K z (λh' aP hs=>?_)
  let(oc,av,Wd):=id z;refine h {s with heap:=h'} (I.ok,I.os,I.bare,(λb o e n hb hx=>?_,λb o e n hb hx=>?_,I.base.free,λb o e hx=>?_,I.base.sd,I.base.kJ,I.base.sf),(m,hn.sameBut hs (Ne.symm (cne x c K)),λj y v' g P e3=>?_),λy c' e=>?_,I.free,I.gg,λp hp=>?_,tracked (oc,av,I.gg x c K) hs,(I.len:)) (c,hs,.inr K)
  ·exact(hs.2 b (ri (ro (j5 e) (I.ok.cab x c ar K)))).trans (I.base.keep b o e n hb hx)
  ·let(sl,g):=I.base.slot b o e n hb hx;exact(sl,(hs.2 b (ri (ro (j5 e) (I.ok.cab x c ar K)))).trans g)
  ·let(o',g):=I.base.there b o e hx;exact(o',(hs.2 b (ri (ro (j5 e) (I.ok.cab x c ar K)))).trans g)
  ·by_cases hj:j=i
   ·subst hj;rw[hi]at g;cases g;rw[SU ak]at P;cases P;exact(u,r,.inr (.inl hk,c,K,aP))
   ·rw[QL (Ne.symm hj)]at P;let(u',r',q):=hl j y v' g P e3;refine(u',r',?_);obtain q |⟨k,c',e,z'⟩:=q
    ·exact .inl q
    ·refine .inr (k,c',e,z'.sameBut hs ?_)
     rintro rfl
     exact hj (zO hN g (I.ok.inj _ _ _ e K▸hi))
  ·by_cases ay:c'=c
   ·subst ay;exact(_,aP)
   ·let(w2,z2):=I.cell y c' e;exact(w2,z2.sameBut hs ay)
  ·let(e,n,ne,nf,d):=I.pin p hp;refine((hs.2 p.1 ?_).trans e,n,ne,nf,d);intro q;rw[q,av]at e;have q':=Option.some.inj e;exact d w' (by rw[<- q'];exact Wd)
def gX{A:Db}{E:B->ϋ->Prop}{i:Nat}{v:V}{Q:Unit->ϋ->Prop}(I:Inv X gd σ H s)(g:X.N.Nodup)(hi:X.N[i]?=Z x)(hx:Loc X.env.scope x)(r:RelV v u)
  (h:∀s',Inv X gd (σ.set i (Z v)) H s'->Q () s') (hf:AT X x:=by first|exact .inl rfl|exact .inr rfl|assumption):wpAny M A (storeName X.env x u) Q E s:=
 E8 I g hi hx r (λs' q _=>h s' q) hf
def Inv.Va(I:Inv X gd σ H s)(ho:s'.os=s.os)(u:Un (frs X.stack) ch H H' s.heap s'.heap)(hok:HOk X.prog X.w H' s'.heap)(hg:AllBare s'.gens)
  (g:∀b∈ch,(b∈X.ex\/X.s₀.heap.objs.size<=b)/\b≠X.env.locals/\(∀x c,X.env.cells.lookup x=Z c->c≠b)/\∀p∈X.pn++gd,p.1≠b):Inv X gd σ H' s':=by
 let(h',g',q,t',o'):=s';have e:=ho;subst e;exact I.call u hok hg g
end
abbrev XK:=B->Option J->Hp->Prop
abbrev St:=List (Option V)
abbrev VK:=V->Hp->Prop
abbrev TE:=St->Hp->VK->Prop
abbrev TT:=St->Hp->(Bool->Hp->Prop)->Prop
abbrev TA:=St->Hp->(List V->Hp->Prop)->Prop
structure Ends where
 nx:St->Hp->Prop
 rt:VK
 bk:St->Hp->Prop:=λ_ _=>False
 ct:St->Hp->Prop:=λ_ _=>False
abbrev TS:=Ends->St->Hp->Prop
inductive EP(X:Cx)(gd:List (J×Obj))(σ:St)(Q:VK)(u:B)(s':ϋ):Prop
 |mk(v H':_)(h1:Inv X gd σ H' s')(h2:RelV v u)(h3:Q v H')
inductive TP(X:Cx)(gd:List (J×Obj))(σ:St)(Q:Bool->Hp->Prop)(b:Bool)(s':ϋ):Prop
 |mk(H':_)(h1:Inv X gd σ H' s')(h2:Q b H')
inductive AP(X:Cx)(gd:List (J×Obj))(σ:St)(Q:List V->Hp->Prop)(us:List B)(s':ϋ):Prop
 |mk(vs H':_)(h1:Inv X gd σ H' s')(h2:Vals vs us)(h3:Q vs H')
def SP(X:Cx)(gd:List (J×Obj))(D:Ends)(f:Flow)(s':ϋ):Prop:=
 match f with
 |.next=>∃g H',Inv X gd g H' s'/\D.nx g H'
 |.brk=>∃g H',Inv X gd g H' s'/\D.bk g H'
 |.cont=>∃g H',Inv X gd g H' s'/\D.ct g H'
 |.ret u=>∃v g H',Inv X gd g H' s'/\RelV v u/\D.rt v H'
def PE(X:Cx)(e:Ev)(t:TE):Prop:=
 ∀(gd:List (J×Obj))(s:ϋ)(σ:St)(H:Hp)(Q:VK),Inv X gd σ H s->t σ H Q->Ze X (eval e X.env) (EP X gd σ Q) X.xe s
def PT(X:Cx)(e:Ev)(t:TT):Prop:=
 ∀(gd:List (J×Obj))(s:ϋ)(σ:St)(H:Hp)(Q:Bool->Hp->Prop),Inv X gd σ H s->t σ H Q->Ze X (isTrue e X.env (eval e X.env)) (TP X gd σ Q) X.xe s
def PW(X:Cx)(e:Ev)(t:TT):Prop:=
 ∀(whole:Sem B)(gd:List (J×Obj))(s:ϋ)(σ:St)(H:Hp)(Q:Bool->Hp->Prop),Inv X gd σ H s->t σ H Q->Ze X (isTrue e X.env whole) (TP X gd σ Q) X.xe s
variable{X:Cx}{e:Ev}
def PW.pt(h:PW X e t):PT X e t:=h _
def PA(X:Cx)(es:List Ev)(t:TA):Prop:=
 ∀(pos:Pos)(gd:List (J×Obj))(s:ϋ)(σ:St)(H:Hp)(Q:List V->Hp->Prop),Inv X gd σ H s->t σ H Q->Ze X (spliced (backTo pos (kg es X.env))) (AP X gd σ Q) X.xe s
def PS(X:Cx)(st:EQ)(t:TS):Prop:=
 ∀(gd:List (J×Obj))(s:ϋ)(σ:St)(H:Hp)(D:Ends),Inv X gd σ H s->t D σ H->Ze X (exec st X.env) (SP X gd D) X.xe s
def PSs(X:Cx)(st:List EQ)(t:TS):Prop:=
 ∀(gd:List (J×Obj))(s:ϋ)(σ:St)(H:Hp)(D:Ends),Inv X gd σ H s->t D σ H->Ze X (execs st X.env) (SP X gd D) X.xe s
variable{M:Model}{A:Db}{E:B->ϋ->Prop}
def thn{t:Sem α}{Q Q':α->ϋ->Prop}(h:wpAny M A t Q E s)(g:∀a s,Q a s->Q' a s):wpAny M A t Q' E s:=QH h g λ_ _ x=>x
variable{gd:List (J×Obj)}{Q:B->ϋ->Prop}{op:CmpOp}
section
inductive b8(i:Nat)(σ:St)(H:Hp)(Q:VK):Prop
 |mk(v:_)(h1:σ[i]?=Z (Z v))(h2:Q v H)
def tC(v:V):TE:=λ_ H Q=>Q v H
abbrev AS(x:Str):Prop:=(x ==("__debug__":Str))=false
def Jn{pos:Pos}(K:X.N[i]?=Z x)(hv:Vis X.env.scope x)(hd:autoParam (AS x) zdc._auto_1)(g:autoParam ((x ==("__classdict__":Str))=false) zdc._auto_1):PE X (.Name x pos) (b8 i):=by
 left;let(v,e,h):=h;let(m,hn,hl):=I.loc;let(u,r,l):=hl i x v K e hv;have fin:EP X gd σ Q u s:=(v,H,I,r,h);obtain⟨hk,hm⟩|⟨hk,c,q,z⟩:=l
 ·exact wpAny_Name (wpAny_loadName_local I.ok.kind hk hn hm fin) hd
 ·obtain hk|hk:=hk
  ·exact wpAny_Name (wpAny_loadName_cell I.ok.kind hk q z fin) hd
  ·exact wpAny_Name (wpAny_loadName_free I.ok.kind hk q z fin g) hd
def bV:PE X (.Constant (.int i) j pos) (tC (.int i)):=λ_ _ _ H _ I h=>wpAny_Constant_int (.int i,H,I.tok _,(_,U),h)
def Up:PE X (.Constant (.bool b) j pos) (tC (.bl b)):=λ_ _ _ H _ I h=>Constant_bool (.bl b,H,I,U,h)
def Rq:PE X (.Constant .none j pos) (tC .non):=λ_ _ _ H _ I h=>Constant_none (.non,H,I,U,h)
def dB:PE X (.Constant (.str x) j pos) (tC (.str x)):=λ_ _ _ H _ I h=>Calls.Constant_str (.str x,H,I.tok _,(_,U),h)
def Gl(X:Cx)(x:Str):Prop:=X.env.kindOf x=Z .globalImplicit
def x5{E:B->ϋ->Prop}{s:ϋ}{σ:St}{pos:Pos}(I:Inv X gd σ H s)(hg:Gl X x)(hm:X.mg x=Z u)(h:Q u s)
  (hd:autoParam (AS x) zdc._auto_1):Ze X (eval (.Name x pos) X.env) Q E s:=
 Calls.Name_function_global I.ok.kind hg (Calls.loadGlobal_global (by rw[I.ok.glob];exact I.mod.glob.keeps I.bk) hm h) hd
def dE{E:B->ϋ->Prop}{s:ϋ}{σ:St}{pos:Pos}(I:Inv X gd σ H s)(hg:Gl X x)(hm:X.mg x=Y)(hv:bootBuiltins x=Z u)(h:Q u s)
  (hn:autoParam (x ≠ "__name__") zdc._auto_1) (hd:autoParam (AS x) zdc._auto_1):Ze X (eval (.Name x pos) X.env) Q E s:=by
 let(mb,h1,h2):=I.mod.blt;exact Calls.Name_function_global I.ok.kind hg (Calls.loadGlobal_builtin (by rw[I.ok.glob];exact I.mod.glob.keeps I.bk) hm (by rw[I.ok.blt];exact h1.keeps I.bk) ((h2 x hn).trans hv) h) hd
def Nj(hg:Gl X x)(hm:X.mg x=Z u)(r:RelV v u)(hd:autoParam (AS x) zdc._auto_1):PE X (.Name x pos) (tC v):=
 λ_ _ _ H _ I h=>x5 I hg hm (v,H,I,r,h) hd
def Np{pos:Pos}(hg:Gl X x)(hm:X.mg x=Y)(hv:bootBuiltins x=Z u)(r:RelV v u)(hn:autoParam (x ≠ "__name__") zdc._auto_1)(hd:autoParam (AS x) zdc._auto_1):PE X (.Name x pos) (tC v):=
 λ_ _ _ H _ I h=>dE I hg hm hv (v,H,I,r,h) hn hd
variable{a b:Ev}{ta tb:TE}{pos:Pos}
def JN(b:Ev)(h:op ≠ .In)(h2:op ≠ .NotIn):behindInMarks op b=false:=by
 have q:(op==CmpOp.In)=false:=by cases op <;> first|rfl|exact absurd U h
 have g:(op==CmpOp.NotIn)=false:=by cases op <;> first|rfl|exact absurd U h2
 cases b with
 |Set elts k pos =>
  show(k==0&&(op==CmpOp.In||op==CmpOp.NotIn)&&_)=ϊ
  rw[q,g]
  cases(k==0) <;> rfl
 |_=>rfl
variable{tA tB':TT}{rest:List Ev}
def Qc(t u:TT):TT:=λσ H Q=>t σ H λc H1=>if c=O then u σ H1 Q else Q ϊ H1
def tOr(t u:TT):TT:=λσ H Q=>t σ H λc H1=>if c=O then Q O H1 else u σ H1 Q
def P9(t:TT):TT:=λσ H Q=>t σ H λc H1=>Q (!c) H1
def Dt(ha:PT X a tA):PW X (.BoolOp .And [a] pos) tA:=by
 intro g gd s σ H Q I h;refine isTrue_and (thn (ha gd s σ H Q I h) λc s1 e=>?_)
 cases c with
 |true=>exact isTrue_and_nil e
 |false=>exact e
def QV(ha:PT X a tA):PW X (.BoolOp .Or [a] pos) tA:=by
 intro g gd s σ H Q I h;refine isTrue_or (thn (ha gd s σ H Q I h) λc s1 e=>?_)
 cases c with
 |false=>exact isTrue_or_nil e
 |true=>exact e
def IP(ha:PT X a tA)(P:PW X (.BoolOp .And (b::rest) pos) tB'):PW X (.BoolOp .And (a::b::rest) pos) (Qc tA tB'):=by
 intro K gd s σ H Q I h;refine isTrue_and (thn (ha gd s σ H _ I h) λc s1 g=>?_)
 let(H1,z,q):=g;cases c with
 |true=>exact P K gd s1 σ H1 Q z q
 |false=>exact(H1,z,q)
def Uc(ha:PT X a tA)(P:PW X (.BoolOp .Or (b::rest) pos) tB'):PW X (.BoolOp .Or (a::b::rest) pos) (tOr tA tB'):=by
 intro K gd s σ H Q I h;refine isTrue_or (thn (ha gd s σ H _ I h) λc s1 g=>?_)
 let(H1,z,q):=g;cases c with
 |true=>exact(H1,z,q)
 |false=>exact P K gd s1 σ H1 Q z q
def Q5(ha:PT X a tA):PT X (.UnaryOp .Not a pos) (P9 tA):=by
 left;refine isTrue_not (thn (ha gd s σ H (λc H1=>Q (!c) H1) I h) λc s' z=>?_)
 let(H',g,q):=z;exact(H',g,q)
def Hk(ta tb:TE):TE:=λσ H Q=>ta σ H λx H1=>∃c,x=.bl c/\if c=O then tb σ H1 Q else Q (.bl ϊ) H1
def He(ta:TE):TE:=λσ H Q=>ta σ H λx H1=>∃c,x=.bl c/\Q (.bl (!c)) H1
def Rn{op}(h:PE X a t):PE X (.BoolOp op [a] pos) t:=λgd s σ H Q I hw=>BoolOp_one (h gd s σ H Q I hw)
def Rr(ha:PE X a ta)(P:PE X (.BoolOp .And (b::rest) pos) tb):PE X (.BoolOp .And (a::b::rest) pos) (Hk ta tb):=by
 left;refine BoolOp_and (thn (ha gd s σ H _ I h) λv s1 q=>?_)
 let(x,H1,z,K,g):=q;let(c,U,g):=g;cases K;refine wpAny_truthy_bool ?_;cases c with
 |true=>exact P gd s1 σ H1 Q z g
 |false=>exact(.bl ϊ,H1,z,U,g)
def Ro(ha:PE X a ta):PE X (.UnaryOp .Not a pos) (He ta):=by
 left;refine UnaryOp_ (thn (ha gd s σ H _ I h) λv s1 q=>?_)
 let(x,H1,K,z,g):=q;let(c,U,g):=g;cases z;exact not_of (wpAny_truthy_bool (.bl (!c),H1,K,U,g))
end
def SqL(K:BT)(H:Hp)(a:J)(xs:List V):Prop:=
 Rd H a (.lst xs) \/
  ∃(o:Obj)(its:Array B)(n:Nat),K.lookup a=Z o/\o.cls=.type "list" /\ o.dict=Y/\o.data=.seq its n/\its.size<=kf/\Vals xs its.toList
def SqT(K:BT)(H:Hp)(a:J)(xs:List V):Prop:=
 Rd H a (.tup xs) \/
  ∃(o:Obj)(its:Array B)(n:Nat),K.lookup a=Z o/\o.cls=.type "tuple" /\ o.data=.seq its n/\its.size<=kf/\Vals xs its.toList
def Wz:B->Option V
 |.none=>Z .non
 |.bool b=>Z (.bl b)
 |.int i _=>Z (.int i)
 |.str x _=>Z (.str x)
 |.bytes b _=>Z (.byt b)
 |.float b _=>Z (.flt b)
 |.ref a=>Z (.ref a)
 |.type n=>Z (.ty n)
 |_=>Y
def RelV.abs{x:V}(r:RelV x u):Wz u=Z x:=by
 cases x with
 |non=>cases r;rfl
 |bl _=>cases r;rfl
 |int _=>let(t,U):=r;rfl
 |str _=>let(t,U):=r;rfl
 |byt _=>let(t,U):=r;rfl
 |flt _=>let(t,U):=r;rfl
 |ref _=>cases r;rfl
 |ty _=>cases r;rfl
theorem RelV.inj{x y:V}(r:RelV x u)(q:RelV y u):x=y:=Option.some.inj (r.abs.symm.trans q.abs)
theorem Vals.inj:∀{xs ys:List V}{us:List B},Vals xs us->Vals ys us->xs=ys:=by
 intro xs ys us h
 induction h generalizing ys with
 |nil=>intro h';cases h';rfl
 |cons r t q=>intro h';cases h' with|cons g t'=>rw[r.inj g,q t']
section
variable{σ:St}{s:ϋ}{xs ys:List V}
theorem SqL.of{K:BT}(h:H a=Z (.lst xs)):SqL K H a xs:=.inl (.inl h)
theorem SqT.of{K:BT}(h:H a=Z (.tup xs)):SqT K H a xs:=.inl (.inl h)
def Inv.list(I:Inv X gd σ H s)(h:SqL X.K H a xs):∃its:List B,Vals xs its/\PlainL s.heap a its.toArray/\xs.length<=kf:=by
 obtain h |⟨o,its,n,hk,g,hd,hs,q,r⟩:=h
 ·let(z,its,n,r,e):=h.ok I.hok;exact(its,r,(_,n,e,U,U,U),z)
 ·refine(its.toList,r,(o,n,I.kIn a o hk,g,hd,(hs:)),?_)
  have e:=r.length;simp only[W2]at e
  lia
def Inv.tuple(I:Inv X gd σ H s)(h:SqT X.K H a xs):∃its:List B,Vals xs its/\IsTup s.heap a its.toArray/\xs.length<=kf:=by
 obtain h |⟨o,its,n,hk,g,hs,q,r⟩:=h
 ·let(z,its,r,p):=h.ok I.hok;exact(its,r,p.1,z)
 ·refine(its.toList,r,(o,I.kIn a o hk,g,n,(hs:)),?_)
  have e:=r.length;simp only[W2]at e;omega
def Inv.zV(I:Inv X gd σ H s)(h:SqL X.K H a xs)(h':SqL X.K H a ys):xs=ys:=by
 let(its,r,(o,n,e,_,_,d),_):=I.list h;let(P,z,(o',Q,g,_,_,q),_):=I.list h';rw[e]at g;cases g;rw[d]at q;injection q with d1 _
 have:=(congrArg Array.toList d1:)
 subst this;exact r.inj z
def Inv.vK(I:Inv X gd σ H s)(h:SqT X.K H a xs)(h':SqT X.K H a ys):xs=ys:=by
 let(its,r,(o,e,_,n,d),_):=I.tuple h;let(P,z,(o',g,_,Q,q),_):=I.tuple h';rw[e]at g;cases g;rw[d]at q;injection q with d1 _
 have:=(congrArg Array.toList d1:)
 subst this;exact r.inj z
end
abbrev Cx.uT(X:Cx)(E:B->ϋ->Prop):Cx:={X with xe:=E}
abbrev Cx.nox(X:Cx):Cx:=X.uT λ_ _=>False
theorem Cx.Ok.uT(ok:X.Ok)(E:B->ϋ->Prop):(X.uT E).Ok:=
 (ok.mod,ok.kind,ok.glob,ok.blt,ok.above,ok.inj,ok.has,ok.cab,ok.hd,ok.frames,ok.stk,ok.exf,ok.bs,ok.bsz,ok.JM,ok.Ov,ok.qJ,ok.frf)
def Cx.Ok.jq(ok:(X.uT E).Ok):X.Ok:=
 (ok.mod,ok.kind,ok.glob,ok.blt,ok.above,ok.inj,ok.has,ok.cab,ok.hd,ok.frames,ok.stk,ok.exf,ok.bs,ok.bsz,ok.JM,ok.Ov,ok.qJ,ok.frf)
section
variable{σ:St}{s:ϋ}
theorem Inv.uT(I:Inv X gd σ H s)(E:B->ϋ->Prop):Inv (X.uT E) gd σ H s:=(I.ok.uT E,I.os,I.bare,I.base,I.loc,I.cell,I.free,I.gg,I.pin,I.hok,I.len)
theorem Inv.jq(I:Inv (X.uT E) gd σ H s):Inv X gd σ H s:=(I.ok.jq,I.os,I.bare,I.base,I.loc,I.cell,I.free,I.gg,I.pin,I.hok,I.len)
theorem SP.jq(h:SP (X.uT E) gd D f s'):SP X gd D f s':=by
 cases f with
 |next=>let(g,H',I,q):=h;exact(g,H',I.jq,q)
 |brk=>let(g,H',I,q):=h;exact(g,H',I.jq,q)
 |cont=>let(g,H',I,q):=h;exact(g,H',I.jq,q)
 |ret u=>let(v,g,H',I,r,q):=h;exact(v,g,H',I.jq,r,q)
theorem PSs.nox{st:List EQ}(h:PSs X.nox st t):PSs X st t:=λgd s σ H D I hw =>
 QH (h gd s σ H D (I.uT _) hw) (λ_ _ q=>q.jq) λ_ _ z=>False.elim z
end
section
variable{st:EQ}{rest:List EQ}{t u:TS}{te:TE}{pos:Pos}
def O7:TS:=λD σ H=>D.nx σ H
def Td(t u:TS):TS:=λD σ H=>t {D with nx:=u D} σ H
def Dw:PSs X [] O7:=λ_ _ σ H _ I h=>wpAny_execs_nil (σ,H,I,h)
def bI(h1:PS X st t)(h2:PSs X rest u):PSs X (st::rest) (Td t u):=by
 right;refine wpAny_execs_cons (thn (h1 gd s σ H {D with nx:=u D} I h) λf s1 q=>?_)
 cases f with
 |next =>
  let(g,H',z,q):=q;exact h2 gd s1 g H' D z q
 |ret v=>exact q
 |brk=>exact q
 |cont=>exact q
def gx(h1:PS X st t):PSs X [st] t:=by
 right;refine wpAny_execs_cons (thn (h1 gd s σ H D I h) λf s1 q=>?_)
 cases f with
 |next=>exact wpAny_execs_nil q
 |ret v=>exact q
 |brk=>exact q
 |cont=>exact q
def Inv.quiet{σ:St}(I:Inv X gd σ H s):interactive X.env=false:=by simp[interactive,I.ok.kind]
def pO(te:TE):TS:=λD σ H=>te σ H λ_ H1=>D.nx σ H1
def rl(he:PE X e te)(hs:‹swapsWith e Y pos.line X.env=pure false›):PS X (.Expr e pos) (pO te):=by
 right;exact wpAny_Expr_any (thn (he gd s σ H _ I h) λv s1 (x,H1,q,z,g)=>(σ,H1,q,g)) I.quiet hs
def P7(te:TE):TS:=λD σ H=>te σ H D.rt
def sQ(he:PE X e te):PS X (.Return (Z e) pos) (P7 te):=by
 right;exact wpAny_Return_some (thn (he gd s σ H _ I h) λv s1 (x,H1,z,g,q)=>(x,σ,H1,z,g,q))
def Te(c:TT)(t u:TS):TS:=λD σ H=>c σ H λb H1=>if b=O then t D σ H1 else u D σ H1
def Po{a b:List EQ}(K:PT X c tc)(ha:PSs X a t)(P:PSs X b u):PS X (.If c a b pos) (Te tc t u):=by
 right;refine wpAny_If (thn (K gd s σ H _ I h) λd s1 g=>?_)
 let(H1,z,q):=g;cases d with
 |true=>exact ha gd s1 σ H1 D z q
 |false=>exact P gd s1 σ H1 D z q
end
abbrev TG:=V->St->Hp->(St->Hp->Prop)->Prop
abbrev TGs:=List V->St->Hp->(St->Hp->Prop)->Prop
def PG(X:Cx)(target:Ev)(t:TG):Prop:=
 ∀(gd:List (J×Obj))(s:ϋ)(σ:St)(H:Hp)(v:V)(u:B)(Q:St->Hp->Prop),Inv X gd σ H s->RelV v u->t v σ H Q ->
  Ze X (assign target X.env u) (λ_ s'=>∃g H',Inv X gd g H' s'/\Q g H') X.xe s
def PGs(X:Cx)(ts:List Ev)(t:TGs):Prop:=
 ∀(gd:List (J×Obj))(s:ϋ)(σ:St)(H:Hp)(vs:List V)(us:List B)(Q:St->Hp->Prop),Inv X gd σ H s->Vals vs us->t vs σ H Q ->
  Ze X (assignInOrder ((assignEach ts X.env).map (·.2)) us) (λ_ s'=>∃g H',Inv X gd g H' s'/\Q g H') X.xe s
abbrev SJ:=V->V->V->Hp->(Hp->Prop)->Prop
def SM(X:Cx)(t:SJ):Prop:=
 ∀(gd:List (J×Obj))(s:ϋ)(σ:St)(H:Hp)(o i v:V)(g iv u:B)(Q:Hp->Prop),Inv X gd σ H s->RelV o g->RelV i iv->RelV v u->t o i v H Q ->
  Ze X (setItem g iv u) (λ_ s'=>∃H',Inv X gd σ H' s'/\Q H') X.xe s
abbrev TIp:=V->V->Hp->VK->Prop
def PIp(X:Cx)(op:Operator)(t:TIp):Prop:=
 ∀(gd:List (J×Obj))(s:ϋ)(σ:St)(H:Hp)(x y:V)(v u:B)(Q:VK),Inv X gd σ H s->RelV x v->RelV y u->t x y H Q ->
  Ze X (inplaceOp op v u) (EP X gd σ Q) X.xe s
variable{es:List Ev}{n:Nat}{o:Ev}{to:TE}{tg:Ev}{te:TE}{pos':Pos}{b:Ev}{py:Pos}
section
variable{pos:Pos}
def gD(i:Nat):TG:=λv σ H Q=>Q (σ.set i (Z v)) H
def mH(g:X.N.Nodup)(hi:X.N[i]?=Z x)(hx:Loc X.env.scope x)(hf:AT X x:=by first|exact .inl rfl|exact .inr rfl|assumption):PG X (.Name x pos) (gD i):=by
 intro gd s σ H v u Q I r h;exact wpAny_assign_Name (gX I g hi hx r (λs' q=>(_,H,q,h)) hf)
def Sf:TGs:=λvs σ H Q=>vs=[]/\Q σ H
def D4(t:TG)(u:TGs):TGs:=λvs σ H Q=>∃v r,vs=v::r/\t v σ H λg H'=>u r g H' Q
def iK:PGs X [] Sf:=by
 intro gd s σ H vs us Q I r h;let(e,h):=h;subst e;exact assignInOrder_nil (σ,H,I,h)
def bB{u:TGs}(h1:PG X e t)(h2:PGs X es u)
  (hs:‹(assignEach (e::es) X.env).map (·.2)=assign e X.env ::(assignEach es X.env).map (·.2)›):PGs X (e::es) (D4 t u):=by
 intro gd s σ H vs us Q I r h;let(v,V,K,h):=h;subst K;cases r with
 |cons r q =>
  rw[hs];exact assignInOrder_cons (thn (h1 gd s σ H _ _ _ I r h) λ_ s1 (g,H1,P,z)=>(h2 gd s1 g H1 _ _ Q P q z))
inductive Oq(K:BT)(n:Nat)(t:TGs)(v:V)(σ:St)(H:Hp)(Q:(St->Hp->Prop)):Prop
 |mk(a xs:_)(h1:v=.ref a)(h2:SqT K H a xs)(h3:xs.length=n)(h4:t xs σ H Q)
def Rm{k:Nat}(z:X.calm=O)(h:PGs X es t)
  (hn:‹(assignEach es X.env).length=n›) (g:‹(assignEach es X.env).findIdx? (·.1)=none›):PG X (.Tuple es k pos) (Oq X.K n t):=by
 intro gd s σ H v u Q I r hw;let(a,xs,P,hq,hl,hw):=hw;subst P;cases r;let(its,rv,q,hz):=I.tuple hq;refine assign_Tuple_tuple (I.ok.hd z) q (by simp[hn,<- hl,rv.length]) g λh' hx=>?_
 have V:=I.kept (t':=s.toks) λb o e=>hx b o (ri (j5 e)) e
 exact h gd _ σ H xs _ Q V (rv:) hw
def Kv(to ti:TE)(t:SJ):TG:=λv σ H Q=>to σ H λo H1=>ti σ H1 λi H2=>t o i v H2 λg=>Q σ g
def Jm(ho:PE X o to)(hi:PE X i ti)(hs:SM X t)
  (ha:∀v,assign (.Subscript o i pos) X.env v=(do
   let g <- holding [v] (eval o X.env)
   let iv <- holding [v,g] (eval i X.env)
   standAt pos
   holding [v,g,iv] (setItem g iv v)
   release [v,g,iv] []):=by intro _;rfl):PG X (.Subscript o i pos) (Kv to ti t):=by
 intro gd s σ H v u Q I r h;exact dF (CF (thn (ho gd s σ H _ I h) λg s1 (x,H1,I1,z,V)=>(dF (CF (thn (hi gd s1 σ H1 _ I1 V) λiv s2 (y,H2,I2,q,P)=>(dF (wpAny_standAt (dF (CF (thn (hs gd s2 σ H2 x y v g iv u _ I2 z q r P) λ_ s3 (H3,I3,K)=>(wpAny_release (σ,H3,I3,K))))))))))))
def jm(te:TE)(g:TG):TS:=λD σ H=>te σ H λx H1=>g x σ H1 D.nx
def sR(he:PE X e te)(hg:PG X tg g)(hs:‹swapsWithSole [tg] e pos.line X.env=pure false›)(hw:‹swappedStores [tg] e X.env=pure none›)
  (h1:‹(assignEach [tg] X.env).map (·.2)=[assign tg X.env]›):PS X (.Assign [tg] e pos) (jm te g):=by
 right;refine wpAny_Assign_stores (thn (he gd s σ H _ I h) λv s1 z=>?_) hs hw
 let(x,H1,Q,K,P):=z;rw[h1];exact thn (hg gd s1 σ H1 x v _ Q K P) λ_ s2 q=>q
def jG(z:X.N.Nodup)(hi:X.N[i]?=Z x)(hx:Loc X.env.scope x)(he:PE X e te)(hs:‹swapsWith e (Z (.Name x pos')) pos.line X.env=pure false›)(hf:AT X x:=by first|exact .inl rfl|exact .inr rfl|assumption):
  PS X (.Assign [.Name x pos'] e pos) (jm te (gD i)):=by
 right;exact wpAny_Assign_Name (thn (he gd s σ H _ I h) λv s1 (y,H1,P,g,q)=>(gX P z hi hx g (λs2 K=>(_,H1,K,q)) hf)) hs
def P8(i j:Nat)(ta:TA):TS:=λD σ H=>ta σ H λvs H1=>∃v w,vs=[v,w]/\D.nx ((σ.set i (Z v)).set j (Z w)) H1
abbrev BC(X:Cx)(x:Str):Prop:=X.env.scope.names.lookup x=some .local
def Q6{a:Ev}{P pt:Pos}(hc:X.calm=O)(hN:X.N.Nodup)(hi:X.N[i]?=Z x)(hj:X.N[j]?=Z y)(V:i≠j)
  (hx:BC X x) (hy:BC X y) (ha:PA X [a,b] ta)
  (hw:swappedStores [.Tuple [.Name x P,.Name y py] kt pt] (.Tuple [a,b] k2 g) X.env=pure (Z [x,y]))
  (hs:‹swapsWithSole [.Tuple [.Name x P,.Name y py] kt pt] (.Tuple [a,b] k2 g) pos.line X.env=pure false›):
  PS X (.Assign [.Tuple [.Name x P,.Name y py] kt pt] (.Tuple [a,b] k2 g) pos) (P8 i j ta):=by
 right;refine dF (wpAny_standAt ?_);refine dF (kb ?_);refine dF (Tuple_ (thn (ha _ gd s σ H _ I h) λus s1 ak=>?_))
 let(vs,H1,I1,r1,K):=ak;let(v,w,e1,K):=K;subst e1;obtain⟨u1,u2,rfl,rv,z⟩:∃u1 u2,us=[u1,u2]/\RelV v u1/\RelV w u2:=by
  cases r1 with
  |cons p q =>
   cases q with
   |cons p' q' =>
    cases q';exact(_,_,U,p,p')
 refine W0 ?_ (by show 2<=kf;decide)
 have I2:Inv X gd σ H1 {s1 with heap:=s1.heap.push {cls:=.type "tuple",data:=.seq [u1,u2].toArray}}:=I1.kept λb o e=>fC _ e
 rw[hw];refine dF (kb ?_);refine dF (VQ (dF (unpackItems_tuple (items:=#[u1,u2]) (I.ok.hd hc) (IsTup.new s1.heap _) λh' Q=>?_)))
 have I3:=I2.kept (t':=s1.toks) λb o e=>Q b o (ri (j5 e)) e
 refine dF (assignInOrder_cons (wpAny_bindName (gX I3 hN hj (.inl hy) z (λs2 I4=>(assignInOrder_cons (wpAny_bindName (gX I4 hN hi (.inl hx) rv (λs3 I5=>assignInOrder_nil (kb ?_)) (.inr hx))))) (.inr hy))))
 rw[List.set_comm _ _ (Ne.symm V)]at I5;exact(_,H1,I5,K)
def Ti(i:Nat)(te:TE)(ti:TIp):TS:=λD σ H=>∃x,σ[i]?=Z (Z x)/\te σ H λy H1=>ti x y H1 λz H2=>D.nx (σ.set i (Z z)) H2
def Q8{op:Operator}(hN:X.N.Nodup)(hi:X.N[i]?=Z x)(hx:Loc X.env.scope x)(he:PE X e te)(ho:PIp X op ti)(hf:AT X x:=by first|exact .inl rfl|exact .inr rfl|assumption):
  PS X (.AugAssign (.Name x pos') op e pos) (Ti i te ti):=by
 right;let(v,e1,h):=h;let(m,hn,hl):=I.loc;have q:Vis X.env.scope x:=by obtain k|k:=hx;exact .inl k;exact .inr (.inl k)
 let(u,r,l):=hl i x v hi e1 q;refine wpAny_AugAssign_Name ?_;have go:Ze X (eval e X.env) (λw s₂=>Ze X (inplaceOp op u w) (λr g=>Ze X (storeName X.env x r) (λ_=>SP X gd D .next) X.xe g) X.xe s₂) X.xe s:=by
  exact thn (he gd s σ H _ I h) λw s1 (y,H1,I1,P,V)=>(thn (ho gd s1 σ H1 v y u w _ I1 r P V) λz s2 (zv,H2,I2,K,Q)=>(gX I2 hN hi hx K (λs3 I3=>(_,H2,I3,Q)) hf))
 obtain⟨hk,hm⟩|⟨hk,c,hc,gc⟩:=l
 ·exact wpAny_loadName_local I.ok.kind hk hn hm go
 ·obtain hk|hk:=hk
  ·exact wpAny_loadName_cell I.ok.kind hk hc gc go
  ·obtain k|k:=hx
   ·have:X.env.scope.names.lookup x=Z .free:=hk
    rw[k]at this;cases this
   ·have:X.env.scope.names.lookup x=Z .free:=hk
    rw[k]at this;cases this
inductive ipI(f:Int->Int->Int)(x:V)(y:V)(H:Hp)(Q:VK):Prop
 |mk(i j:_)(h1:x=.int i)(h2:y=.int j)(h3:Q (.int (f i j)) H)
def RX:PIp X .Add (ipI λi j=>i+j):=by
 intro gd s σ H x y v u Q I z g h;let(i,j,P,K,q):=h;subst P;subst K;let(t,U):=z;let(t',U):=g;exact iadd_int (.int _,H,I.tok _,(_,U),q)
end
variable{body:List EQ}
section
variable{pos:Pos}
def Bf(c:TT)(tb:TS):TS:=λD σ H=>∃W:Nat->St->Hp->Prop,(∃m,W m σ H)/\∀m σ H,W m σ H ->
 c σ H λb H1=>if b=O then ∃N:St->Hp->Prop,(∀g H',N g H'->∃m',m'<m/\W m' g H')/\tb {D with nx:=N,ct:=N,bk:=D.nx} σ H1 else D.nx σ H1
def zp(hp:Y3 (model X.prog X.w) X.A X.env X.xe)(hc:PT X c tc)(hb:PSs X body tb):PS X (.While c body [] pos) (Bf tc tb):=by
 right;let(W,(m0,w0),turn):=h;refine wpAny_While (codeAny_whileLoop (λn s'=>∃z H',Inv X gd z H' s'/\W n z H') ?_ m0 (σ,H,I,w0))
 rintro n s1 ⟨q,H1,I1,w1⟩
 refine wpAny_passesOwn hp (thn (hc gd s1 q H1 _ I1 (turn n q H1 w1)) λb s2 ak=>?_)
 let(H2,I2,Q):=ak;cases b with
 |true =>
  let(N,hN,Q):=Q;refine wpAny_passesOwn hp (thn (hb gd s2 q H2 _ I2 Q) λf s3 P=>?_)
  cases f with
  |next =>
   let(g,K,I3,n3):=P;let(m',hm,V):=hN g K n3;exact(m',hm,g,K,I3,V)
  |cont =>
   let(g,K,I3,n3):=P;let(m',hm,V):=hN g K n3;exact(m',hm,g,K,I3,V)
  |brk=>exact P
  |ret v=>exact P
 |false =>
  exact wpAny_execs_nil (q,H2,I2,Q)
end
structure It where
 go:Nat->Hp->Prop
 yld:Nat->Hp->V->Hp->Prop
 stop:Nat->Hp->Prop
def uG(X:Cx)(gd:List (J×Obj))(H:Hp)(b:J):Prop:=
 H b=Y/\b≠X.env.locals/\b ∉ X.fs/\(b∈X.ex\/X.s₀.heap.objs.size<=b)/\(∀x c,X.env.cells.lookup x=Z c->c≠b)/\∀p∈X.pn++gd,p.1≠b
variable{H':Hp}
def Inv.Gm{σ:St}{s:ϋ}{b:J}(I:Inv X gd σ H s)(g:s.heap.objs.size<=b)(hn:H' b=Y):uG X gd H' b:=by
 refine(hn,C3 (ro I.lt g),I.Uu g,.inr (qR I.sz g),λx c e z=>?_,λp hp z=>?_)
 ·let(v,q):=I.cell x c e;exact absurd (ro q.lt (by rw[z];exact g)) (SQ _)
 ·exact absurd (ro (j5 (I.pin p hp).1) (by rw[z];exact g)) (SQ _)
structure Turn(P:Da)(w:Cl)(K:BT)(tg:Ev)(Zb:It)(fp:List J)(it:J)(tn:Nat->Do->Prop):Prop where
 mem:it∈fp
 obj:∀i h,tn i h->∀b∈fp,∃o,h.get? b=Z o/\∀v,o.data ≠ .cell v
 keep:∀i h h',tn i h->(∀b∈fp,∀o,h.get? b=Z o->h'.get? b=Z o)->tn i h'
 item:∀(X:Cx),X.prog=P->X.w=w->X.K=K->X.calm=O->∀(i:Nat)(gd:List (J×Obj))(s:ϋ)(σ:St)(H:Hp)(E:B->ϋ->Prop),Inv X gd σ H s->(∀b∈fp,uG X gd H b)->tn i s.heap->Zb.go i H ->
  wpAny (model P w) X.A (pyNext (.ref it)) (λr s1=>∃u,r=Z u /\
   wpAny (model P w) X.A (letOwnedTupleGo tg (.ref it) u) (λ_ s2=>∃x H',Inv X gd σ H' s2/\RelV x u/\Zb.yld i H x H'/\tn (i+1) s2.heap/\∀b∈fp,H' b=Y) E s1) E s
 done:∀(X:Cx),X.prog=P->X.w=w->X.K=K->X.calm=O->∀(i:Nat)(gd:List (J×Obj))(s:ϋ)(σ:St)(H:Hp)(E:B->ϋ->Prop),Inv X gd σ H s->(∀b∈fp,uG X gd H b)->tn i s.heap->Zb.stop i H ->
  wpAny (model P w) X.A (pyNext (.ref it)) (λr s1=>r=Y/\Inv X gd σ H s1) E s
 self:∀(A:Db)(i:Nat)(s:ϋ)(Q:B->ϋ->Prop)(E:B->ϋ->Prop),tn i s.heap->Q (.ref it) s->wpAny (model P w) A (pyIter (.ref it)) Q E s
abbrev TI:=St->Hp->(It->Hp->Prop)->Prop
def PIE(X:Cx)(gd:List (J×Obj))(σ:St)(tg:Ev)(R:It->Hp->Prop)(g:B)(s2:ϋ):Prop:=
 ∃(it:J)(fp:List J)(tn:Nat->Do->Prop)(Zb:It)(H':Hp),g=.ref it/\Inv X gd σ H' s2/\Turn X.prog X.w X.K tg Zb fp it tn/\tn 0 s2.heap/\(∀b∈fp,uG X gd H' b)/\R Zb H'
def PI(X:Cx)(tg iter:Ev)(wi:TI):Prop:=
 ∀(gd:List (J×Obj))(s:ϋ)(σ:St)(H:Hp)(R:It->Hp->Prop),Inv X gd σ H s->wi σ H R ->
  Ze X (eval iter X.env) (λv s1=>Ze X (pyIter v) (PIE X gd σ tg R) X.xe s1) X.xe s
def D3{o:Obj}{n:String}{vs:Array B}{Q:Unit->ϋ->Prop}(ho:s.heap.get? it=Z o)(q:o.cls=.type n)(hd:o.data=.fields vs)
  (hn:["enumerate","zip","dict_itemiterator","dict_reverseitemiterator","odict_iterator","itertools.zip_longest","itertools.pairwise"].contains n=ϊ) (g:Q () s):wpAny M A (letOwnedTupleGo tg (.ref it) u) Q E s:=by
 cases tg <;> first
  |exact kb g
  | (cases u <;> first
    |exact kb g
    | (refine dF (wpAny_load ho ?_)
       rw[q,hd];show wpAny M A (if(["enumerate","zip","dict_itemiterator","dict_reverseitemiterator","odict_iterator","itertools.zip_longest","itertools.pairwise"].contains n&&vs[0]? == Z (rawInt _))=O then _ else _) Q E s
       rw[if_neg (by intro h;rw[hn]at h;cases h)]
       exact kb g))
def Itl(K:BT)(a:J):It:=
 (λi H=>∃xs x,SqL K H a xs/\xs[i]?=Z x,λi H x H'=>H'=H/\∀xs,SqL K H a xs->xs[i]?=Z x,λi H=>∃xs,SqL K H a xs/\xs.length<=i)
def Itt(K:BT)(a:J):It:=
 (λi H=>∃xs x,SqT K H a xs/\xs[i]?=Z x,λi H x H'=>H'=H/\∀xs,SqT K H a xs->xs[i]?=Z x,λi H=>∃xs,SqT K H a xs/\xs.length<=i)
def Itr(lo:Int)(n:Nat):It:=(λi _=>i<n,λi H x H'=>H'=H/\x=.int (lo+i),λi _=>n<=i)
theorem E4{K:BT}(a it:J):Turn P w K tg (Itl K a) [it] it (λi h=>h.IsListIter it a i) where
 mem:=by simp
 obj:=λi h st b g=>by
  have e:=(g:)
  subst e;let(o,e,c,d):=st;exact(o,e,λv z=>by rw[d]at z;cases z)
 keep:=λi h h' st k=>st.at λo e=>k it ad o e
 item:=by
  intro X Q hw V hc i gd s σ H E I hf st hg;subst Q hw V;let(xs,x,hq,hx):=hg;let(its,rv,p,hz):=I.list hq;let(u,hu,ru):=rv.get hx;let(f0,f1,f2,f3,f4,f5):=hf it ad
  refine wpAny_pyNext_list_item st p.isList (hu:) λh' q sb=>?_
  have I1:=I.turned (t':=s.toks) (λb o g e=>(sb.2 b g).trans e) f0 f1 f3 f4 f5
  let(o,e,c,d):=id q;exact(u,U,D3 e c d ac (x,H,I1,ru,(U,λys hy=>by rw[I.zV hy hq];exact hx),q,λb g=>(hf b g).1))
 done:=by
  intro X Q hw V hc i gd s σ H E I hf st hg;subst Q hw V;let(xs,hq,hx):=hg;let(its,rv,p,hz):=I.list hq;let(f0,f1,f2,f3,f4,f5):=hf it ad
  have hl:=rv.length;exact wpAny_pyNext_list_end (I.ok.hd hc) st p.isList (by simp;lia) λh' eb=>(U,I.turned (λb o g e=>eb b o g e) f0 f1 f3 f4 f5)
 self:=λ_ _ _ _ _ st h=>wpAny_pyIter_listiter st h
theorem Ba{K:BT}(a it:J):Turn P w K tg (Itt K a) [it] it (λi h=>h.IsTupleIter it a i) where
 mem:=by simp
 obj:=λi h st b g=>by
  have e:=(g:)
  subst e;let(o,e,c,d):=st;exact(o,e,λv z=>by rw[d]at z;cases z)
 keep:=λi h h' st k=>st.at λo e=>k it ad o e
 item:=by
  intro X Q hw V hc i gd s σ H E I hf st hg;subst Q hw V;let(xs,x,hq,hx):=hg;let(its,rv,p,hz):=I.tuple hq;let(u,hu,ru):=rv.get hx;let(f0,f1,f2,f3,f4,f5):=hf it ad
  refine wpAny_pyNext_tuple_item st (p) (hu:) λh' q sb=>?_
  have I1:=I.turned (t':=s.toks) (λb o g e=>(sb.2 b g).trans e) f0 f1 f3 f4 f5
  let(o,e,c,d):=id q;exact(u,U,D3 e c d ac (x,H,I1,ru,(U,λys hy=>by rw[I.vK hy hq];exact hx),q,λb g=>(hf b g).1))
 done:=by
  intro X Q hw V hc i gd s σ H E I hf st hg;subst Q hw V;let(xs,hq,hx):=hg;let(its,rv,p,hz):=I.tuple hq;let(f0,f1,f2,f3,f4,f5):=hf it ad
  have hl:=rv.length;exact wpAny_pyNext_tuple_end (I.ok.hd hc) st (p) (by simp;omega) λh' eb=>(U,I.turned (λb o g e=>eb b o g e) f0 f1 f3 f4 f5)
 self:=λ_ _ _ _ _ st h=>wpAny_pyIter_tupleiter st h
theorem Bb{K:BT}(it:J)(lo:Int)(n:Nat):Turn P w K tg (Itr lo n) [it] it (λi h=>IsRangeIter h it (lo+(i:Nat)*1) ((n:Int)-(i:Nat)) 1) where
 mem:=by simp
 obj:=λi h st b g=>by
  have e:=(g:)
  subst e;exact(_,st,λv z=>by
   have z':=z;cases z')
 keep:=λi h h' st k=>k it ad _ st
 item:=by
  intro X hP hw hK Q i gd s σ H E I hf st hg;subst hP hw hK;let(f0,f1,f2,f3,f4,V):=hf it ad
  have W:=Walks.range (prog:=X.prog) (w:=X.w) (I.ok.hd Q) it lo 1 n;refine W.item i s _ _ hg st λv h' tk hv q kk=>?_
  let(t,U):=hv;have I1:Inv X gd σ H {s with heap:=h',toks:=tk}:=I.turned (λb o g e=>kk b o (g:) e) f0 f1 f3 f4 V
  refine(_,U,D3 q U U ac (.int (lo+i),H,I1,(t,?_),(U,U),q,λb g=>(hf b g).1))
  rw[Int.mul_one]
 done:=by
  intro X hP hw hK Q i gd s σ H E I hf st hg;let(f0,f1,f2,f3,f4,V):=hf it ad
  exact wpAny_pyNext_range_end (I.ok.hd Q) st (by have:n<=i:=hg;lia) λh' eb=>(U,I.turned (λb o g e=>eb b o g e) f0 f1 f3 f4 V)
 self:=λ_ _ _ _ _ st h=>wpAny_pyIter_rangeiter st h
variable{lo:Int}{fp:List J}{iter:Ev}
section
def wc(K:BT)(tl:TE):TI:=λσ H R=>tl σ H λx H1=>∃a,x=.ref a/\(∃xs,SqL K H1 a xs)/\R (Itl K a) H1
def Ki(K:BT)(tl:TE):TI:=λσ H R=>tl σ H λx H1=>∃a,x=.ref a/\(∃xs,SqT K H1 a xs)/\R (Itt K a) H1
def rB(hl:PE X l tl):PI X tg l (wc X.K tl):=by
 intro gd s σ H R I h;refine thn (hl gd s σ H _ I h) λv s1 z=>?_
 let(x,H1,g,P,Q):=z;let(a,e,(xs,hq),q):=Q;subst e;cases P;let(its,rv,p,hz):=g.list hq;refine wpAny_pyIter_list p.isList ?_;refine(s1.heap.objs.size,[s1.heap.objs.size],_,_,H1,U,g.kept λb o e=>fC _ e,E4 a _,(_,ke _ U,U,U),λb V=>?_,q)
 have e:=(V:)
 subst e;exact g.Gm (ka _) (g.hok.fresh (ka _))
def Rl(hl:PE X l tl):PI X tg l (Ki X.K tl):=by
 intro gd s σ H R I h;refine thn (hl gd s σ H _ I h) λv s1 z=>?_
 let(x,H1,g,P,Q):=z;let(a,e,(xs,hq),q):=Q;subst e;cases P;let(its,rv,p,hz):=g.tuple hq;refine wpAny_pyIter_tuple (p) ?_;refine(s1.heap.objs.size,[s1.heap.objs.size],_,_,H1,U,g.kept λb o e=>fC _ e,Ba a _,(_,ke _ U,U,U),λb V=>?_,q)
 have e:=(V:)
 subst e;exact g.Gm (ka _) (g.hok.fresh (ka _))
def HX{σ:St}{s:ϋ}{R:It->Hp->Prop}{hi:Int}{t u v:Tok}{tk:Nat}(I:Inv X gd σ H s)(h1:-(2 ^ 62)<=lo)(h2:lo<2 ^ 62)(h3:-(2 ^ 62)<=hi)(h4:hi<2 ^ 62)
  (q:R (Itr lo (hi-lo).toNat) H):Ze X (pyIter (.ref s.heap.objs.size)) (PIE X gd σ tg R) E {s with heap:=s.heap.push {cls:=.type "range",data:=.fields #[.int lo t,.int hi u,.int 1 v]},toks:=tk}:=by
 refine wpAny_pyIter_range (IsRange.new ..) (small_one h1 h2 h3 h4) ?_;have g:Inv X gd σ H {s with heap:=s.heap.push {cls:=.type "range",data:=.fields #[.int lo t,.int hi u,.int 1 v]},toks:=tk}:=I.kept λb o e=>fC _ e
 refine((s.heap.push {cls:=.type "range",data:=.fields #[.int lo t,.int hi u,.int 1 v]}).objs.size,[(s.heap.push {cls:=.type "range",data:=.fields #[.int lo t,.int hi u,.int 1 v]}).objs.size],_,_,H,U,
  g.kept λb o e=>fC _ e,Bb _ lo (hi-lo).toNat,?_,λb z=>?_,q)
 ·have P:lo+((0:Nat))*1=lo:=by simp
  have K:(((hi-lo).toNat))-((0:Nat))=Builtin.Range.rangeSize lo hi 1:=by rw[rangeSize_one];split <;> lia
  rw[P,K];exact ke _ U
 ·have e:b=(s.heap.push {cls:=.type "range",data:=.fields #[.int lo t,.int hi u,.int 1 v]}).objs.size:=(z:)
  subst e;exact g.Gm (ka _) (g.hok.fresh (ka _))
def Kj(ta:TA):TI:=λσ H R=>ta σ H λvs H1=>∃j:Int,vs=[.int j] /\ -(2 ^ 62)<=j/\j<2 ^ 62/\R (Itr 0 j.toNat) H1
abbrev AD(X:Cx)(e:Ev):Prop:=kg [e] X.env=[(false,eval e X.env)]
def vS{a:Ev}(hg:Gl X "range")(hm:X.mg "range"=Y)(ha:PA X [a] ta)(hs:‹AD X a›):PI X tg (.Call (.Name "range" p) [a] [] pos) (Kj ta):=by
 intro gd s σ H R I h;refine Call_ (dE I hg hm boot_range (PyProof.Rows.callWith_type1 (thn (ha pos gd s σ H _ I h) λus s1 (vs,H1,Q,K,g)=>?_) hs U))
 let(j,e,g,P,q):=g;subst e;cases K with
 |cons r z =>
  cases z;let(t,U):=r;exact call_range_1 (HX Q al al g P (q:))
def Tf(wi:TI)(g:TG)(tb:TS):TS:=λD σ H=>wi σ H λZb H1=>∃W:Nat->Nat->St->Hp->Prop,(∃m,W 0 m σ H1)/\∀i m σ H,W i m σ H ->
 (Zb.stop i H/\D.nx σ H)\/(Zb.go i H/\∃N:St->Hp->Prop,(∀q H',N q H'->∃m',m'<m/\W (i+1) m' q H')/\∀x H',Zb.yld i H x H'->g x σ H' λz H2=>tb {D with nx:=N,ct:=N,bk:=D.nx} z H2)
def sS(fp:List J)(h:Do):List (J×Obj):=fp.filterMap λb=>(h.get? b).map λo=>(b,o)
def fY{b:J}{o:Obj}(g:b∈fp)(e:h.get? b=Z o):(b,o)∈sS fp h:=YC.mpr (b,g,by rw[e];rfl)
def FX(hp:p∈sS fp h):p.1∈fp/\h.get? p.1=Z p.2:=by
 let(b,g,e):=YC.mp hp;cases q:h.get? b with
 |none=>rw[q]at e;cases e
 |some o =>
  rw[q]at e;have z:=Option.some.inj e;subst z;exact(g,q)
def Inv.pinned{σ:St}(I:Inv X gd σ H s)(hf:∀b∈fp,uG X gd H b)(ho:∀b∈fp,∃o,s.heap.get? b=Z o/\∀v,o.data ≠ .cell v):Inv X (gd++sS fp s.heap) σ H s:=
 I.mF λp hp=>(i6.mp hp).elim (λz=>I.pin p (lY _ z)) λz=>by
  let(g,e):=FX z;let(f0,f1,f2,_):=hf p.1 g;let(o,q,d):=ho p.1 g;rw[e]at q;cases q;exact(e,f0,f1,f2,d)
def Inv.md{σ:St}(I:Inv X (gd++g) σ H s):Inv X gd σ H s:=I.mF λp hp=>I.pin p (lY _ (pL _ hp))
def IZ(hp:Y3 (model X.prog X.w) X.A X.env X.xe)(hc:X.calm=O)(hi:PI X tg iter wi)(hg:PG X tg g)(P:PSs X body tb)
  (hs:∀x,foldedSetIterable iter X.env x=pure x:=by intro _;rfl):PS X (.For tg iter body [] pos) (Tf wi g tb):=by
 right;refine wpAny_For (thn (hi gd s σ H _ I h) λv s1 h1=>thn h1 λaV s2 h2=>?_) hs
 let(it,fp,tn,Zb,H2,e,I2,T,aP,f2,W,(m0,w0),turn):=h2;subst e;have Qe:∀{H':Hp},(∀b∈fp,H' b=Y)->∀b∈fp,uG X gd H' b:=λhn b P=>(hn b P,(f2 b P).2)
 refine codeAny_forLoop_any (λn s'=>∃i K H',Inv X gd K H' s'/\tn i s'.heap/\(∀b∈fp,H' b=Y)/\W i n K H') ?_ m0 (0,σ,H2,I2,aP,λb P=>(f2 b P).1,w0)
 rintro n s3 ⟨i,z,H3,I3,ar,av,w3⟩
 obtain⟨stop,qn⟩|⟨go,N,hN,step⟩:=turn i n z H3 w3
 ·refine wpAny_passesOwn hp (thn (T.done X U U U hc i gd s3 z H3 X.xe I3 (Qe av) ar stop) λr s4 Q=>?_)
  let(hr,I4):=Q;subst hr;exact wpAny_execs_nil (z,H3,I4,qn)
 ·refine wpAny_passesOwn hp (thn (T.item X U U U hc i gd s3 z H3 X.xe I3 (Qe av) ar go) λr s4 Q=>?_)
  let(u,hr,h4):=Q;subst hr;refine wpAny_passesOwn hp (thn h4 λ_ s5 Q=>?_)
  let(x,H5,I5,r5,y5,ak,aQ):=Q;have aR:=I5.pinned (Qe aQ) (T.obj _ _ ak);refine wpAny_passesOwn hp (thn (hg _ s5 z H5 x u _ aR r5 (step x H5 y5)) λ_ s6 (ay,H6,I6,q6)=>(wpAny_passesOwn hp (thn (P _ s6 ay H6 _ I6 q6) λf s7 q7=>?_)))
  have again:∀{q:St}{H7:Hp},Inv X (gd++sS fp s5.heap) q H7 s7->N q H7->∃m,m<n/\∃i K H',Inv X gd K H' s7/\tn i s7.heap/\(∀b∈fp,H' b=Y)/\W i m K H':=λ{q H7} V n7=>by
   let(m',hm,w7):=hN q H7 n7;refine(m',hm,i+1,q,H7,V.md,T.keep _ _ _ ak λb P o e=>(V.pin (b,o) (lY _ (lY _ (fY P e)))).1,λb P=>?_,w7)
   let(o,e,d):=T.obj _ _ ak b P;exact(V.pin (b,o) (lY _ (lY _ (fY P e)))).2.1
  cases f with
  |next=>let(q,H7,V,n7):=q7;exact again V n7
  |cont=>let(q,H7,V,n7):=q7;exact again V n7
  |brk=>let(q,H7,V,q7):=q7;exact(q,H7,V.md,q7)
  |ret v=>let(x7,q,H7,V,r7,q7):=q7;exact(x7,q,H7,V.md,r7,q7)
end
variable{D:Ends}
theorem Kw{K:BT}{xs:List V}{g:TG}{tb:TS}{σ:St}(Pv:Nat->St->Hp->Prop)(h0:Pv 0 σ H)(hl:∀i σ H,i<=xs.length->Pv i σ H->SqL K H a xs)
  (hs:∀i x σ H,xs[i]?=Z x->Pv i σ H->g x σ H λz H2=>tb {D with nx:=Pv (i+1),ct:=Pv (i+1),bk:=D.nx} z H2) (hd:∀σ H,Pv xs.length σ H->D.nx σ H):
  ∃W:Nat->Nat->St->Hp->Prop,(∃m,W 0 m σ H)/\∀i m σ H,W i m σ H ->
   ((Itl K a).stop i H/\D.nx σ H)\/((Itl K a).go i H/\∃N:St->Hp->Prop,(∀P H',N P H'->∃m',m'<m/\W (i+1) m' P H')/\∀x H',(Itl K a).yld i H x H'->g x σ H' λz H2=>tb {D with nx:=N,ct:=N,bk:=D.nx} z H2):=by
 refine(λi m σ H=>m=xs.length-i/\i<=xs.length/\Pv i σ H,(xs.length,ad,v5 _,h0),?_)
 rintro i m σ H ⟨rfl,hi,p⟩
 have q:=hl i σ H hi p;by_cases Q:i<xs.length
 ·refine .inr ((xs,xs[i],q,by simp[Q]),Pv (i+1),λP H' p'=>(xs.length-(i+1),al,U,Q,p'),λx H' y=>?_)
  let(e,y):=y;subst e;exact hs i x σ _ (y xs q) p
 ·have e:i=xs.length:=al
  subst e;exact .inl ((xs,q,ka _),hd σ H p)
abbrev R2:=V->V->Hp->VK->Prop
def OpR(X:Cx)(f:B->B->Sem B)(r:R2):Prop:=
 ∀(gd:List (J×Obj))(s:ϋ)(σ:St)(H:Hp)(x y:V)(v u:B)(Q:VK),Inv X gd σ H s->RelV x v->RelV y u->r x y H Q ->
  Ze X (f v u) (EP X gd σ Q) X.xe s
def UnR(X:Cx)(f:B->Sem B)(r:V->Hp->VK->Prop):Prop:=
 ∀(gd:List (J×Obj))(s:ϋ)(σ:St)(H:Hp)(x:V)(v:B)(Q:VK),Inv X gd σ H s->RelV x v->r x H Q ->
  Ze X (f v) (EP X gd σ Q) X.xe s
def cx(X:Cx)(f:B)(r:List V->Hp->VK->Prop):Prop:=
 ∀(gd:List (J×Obj))(s:ϋ)(σ:St)(H:Hp)(xs:List V)(us:List B)(Q:VK),Inv X gd σ H s->Vals xs us->r xs H Q ->
  Ze X (call f us) (EP X gd σ Q) X.xe s
def WA(X:Cx)(r:V->Hp->(Bool->Hp->Prop)->Prop):Prop:=
 ∀(gd:List (J×Obj))(s:ϋ)(σ:St)(H:Hp)(x:V)(v:B)(Q:Bool->Hp->Prop),Inv X gd σ H s->RelV x v->r x H Q ->
  Ze X (truthy v) (TP X gd σ Q) X.xe s
def tOp(r:R2)(ta tb:TE):TE:=λσ H Q=>ta σ H λx H1=>tb σ H1 λy H2=>r x y H2 Q
def tUn(r:V->Hp->VK->Prop)(ta:TE):TE:=λσ H Q=>ta σ H λx H1=>r x H1 Q
inductive rI(C:Int->Int->Prop)(g:Int->Int->V)(x:V)(y:V)(H:Hp)(Q:VK):Prop
 |mk(i j:_)(h1:x=.int i)(h2:y=.int j)(h3:C i j)(h4:Q (g i j) H)
inductive rI0(g:Int->Int->V)(x:V)(y:V)(H:Hp)(Q:VK):Prop
 |mk(i j:_)(h1:x=.int i)(h2:y=.int j)(h3:Q (g i j) H)
inductive rU(g:Int->V)(x:V)(H:Hp)(Q:VK):Prop
 |mk(i:_)(h1:x=.int i)(h2:Q (g i) H)
section
variable{a:Ev}{ta tb:TE}{pos:Pos}
def Sn(ha:PE X a ta)(hb:PE X b tb){σ:St}{R:V->V->Hp->Prop}(I:Inv X gd σ H s)
  (h:ta σ H λx H1=>tb σ H1 λy H2=>R x y H2) {f:B->B->Sem B}
  (hf:∀v u s2 x y H2,Inv X gd σ H2 s2->RelV x v->RelV y u->R x y H2->Ze X (f v u) Q X.xe s2):
  Ze X (eval a X.env) (λv g=>Ze X (eval b X.env) (λu s₂=>Ze X (f v u) Q X.xe s₂) X.xe g) X.xe s:=by
 exact thn (ha gd s σ H _ I h) λv s1 (x,H1,I1,z,P)=>(thn (hb gd s1 σ H1 _ I1 P) λu s2 (y,H2,I2,q,K)=>(hf v u s2 x y H2 I2 z q K))
def cR{op:Operator}(ho:OpR X (binaryOp op) r)(ha:PE X a ta)(K:PE X b tb):PE X (.BinOp a op b pos) (tOp r ta tb):=by
 left;exact wpAny_BinOp (Sn ha K I h λv u s2 x y H2 P z g q=>ho gd s2 σ H2 x y v u Q P z g q)
def Uo{op:UnaryOp}(ho:UnR X (unaryOp op) r)(ha:PE X a ta):PE X (.UnaryOp op a pos) (tUn r ta):=by
 left;exact UnaryOp_ (thn (ha gd s σ H _ I h) λv s1 (x,H1,z,g,q)=>ho gd s1 σ H1 x v Q z g q)
def opI{C:Int->Int->Prop}{g:Int->Int->Int}
  (rule:∀(i j:Int)(t u:Tok)(s:ϋ)(Q:B->ϋ->Prop)(E:B->ϋ->Prop),C i j->Q (.int (g i j) s.toks) {s with toks:=s.toks+1}->Ze X (f (.int i t) (.int j u)) Q E s):
  OpR X f (rI C λi j=>.int (g i j)):=by
 intro gd s σ H x y v u Q I K z h;let(i,j,U,U,P,q):=h;let(t,U):=K;let(t',U):=z;exact rule i j t t' s _ _ P (.int (g i j),H,I.tok _,(_,U),q)
def Us{g:Int->Int->Int}
  (rule:∀(i j:Int)(t u:Tok)(s:ϋ)(Q:B->ϋ->Prop)(E:B->ϋ->Prop),Q (.int (g i j) s.toks) {s with toks:=s.toks+1}->Ze X (f (.int i t) (.int j u)) Q E s):
  OpR X f (rI0 λi j=>.int (g i j)):=by
 intro gd s σ H x y v u Q I K z h;let(i,j,U,U,q):=h;let(t,U):=K;let(t',U):=z;exact rule i j t t' s _ _ (.int (g i j),H,I.tok _,(_,U),q)
def NH{g:Int->Int->Bool}
  (rule:∀(i j:Int)(t u:Tok)(s:ϋ)(Q:B->ϋ->Prop)(E:B->ϋ->Prop),Q (.bool (g i j)) s->Ze X (f (.int i t) (.int j u)) Q E s):
  OpR X f (rI0 λi j=>.bl (g i j)):=by
 intro gd s σ H x y v u Q I K z h;let(i,j,U,U,q):=h;let(t,U):=K;let(t',U):=z;exact rule i j t t' s _ _ (.bl (g i j),H,I,U,q)
def SX(i j:Int):Prop:=0<=j/\j<=1000000/\i.natAbs<2 ^ 64
def LF(i j:Int):Prop:=(-(2 ^ 64)<i/\i<2 ^ 64)\/(-(2 ^ 64)<j/\j<2 ^ 64)
def LF.ok{i j:Int}(h:LF i j):IntMulOk i j:=by
 obtain⟨h1,h2⟩|⟨h1,h2⟩:=h
 ·exact .of_left (intBits_le_64 h1 h2)
 ·exact .of_right (intBits_le_64 h1 h2)
def oV:OpR X (binaryOp .Add) (rI0 λi j=>.int (i+j)):=Us λ_ _ _ _ _ _ _ q=>add_int q
def BU:OpR X (binaryOp .Sub) (rI0 λi j=>.int (i-j)):=Us λ_ _ _ _ _ _ _ q=>sub_int q
def lJ:OpR X (binaryOp .Mult) (rI LF λi j=>.int (i*j)):=opI λ_ _ _ _ _ _ _ g q=>mul_int q g.ok
def iM:OpR X (binaryOp .Mod) (rI (λ_ j=>0<j) λi j=>.int (i % j)):=opI λi j _ _ _ _ _ g q=>by
 exact mod_int' al (by rw[Int.fmod_eq_emod_of_nonneg i al];exact q)
def JD:OpR X (binaryOp .Pow) (rI SX λi j=>.int (i ^ j.toNat)):=opI λ_ _ _ _ _ _ _ g q=>pow_int_small g.1 g.2.1 g.2.2 q
def unI{g:Int->Int}
  (rule:∀(i:Int)(t:Tok)(s:ϋ)(Q:B->ϋ->Prop)(E:B->ϋ->Prop),Q (.int (g i) s.toks) {s with toks:=s.toks+1}->Ze X (f (.int i t)) Q E s):
  UnR X f (rU λi=>.int (g i)):=by
 intro gd s σ H x v Q I z h;let(i,U,q):=h;let(t,U):=z;exact rule i t s _ _ (.int (g i),H,I.tok _,(_,U),q)
def P1:UnR X (unaryOp .USub) (rU λi=>.int (-i)):=unI λ_ _ _ _ _ q=>neg_int q
end
def Mt:V->V->Bool
 |.non,.non=>O|.non,.int _=>O|.int _,.non=>O|.non,.bl _=>O|.bl _,.non=>O|.non,.str _=>O|.str _,.non=>O
 |.int _,.int _=>O|.bl _,.bl _=>O|.str _,.str _=>O|.byt _,.byt _=>O
 |.int _,.str _=>O|.str _,.int _=>O|.bl _,.str _=>O|.str _,.bl _=>O
 |_,_=>ϊ
def rEq:R2:=λx y H Q=>Mt x y=O/\Q (.bl (decide (x=y))) H
def rNe:R2:=λx y H Q=>Mt x y=O/\Q (.bl (!decide (x=y))) H
def Ed{i j:Int}:decide (V.int i=V.int j)=(i==j):=by
 rw[Wa];simp
def KJ{i j:Bool}:decide (V.bl i=V.bl j)=(i==j):=by
 rw[Wa];simp
def Ec{i j:Str}:decide (V.str i=V.str j)=(i==j):=by
 rw[Wa];simp
def Ee{i j:Array UInt8}:decide (V.byt i=V.byt j)=(i.toList==j.toList):=by
 rw[Wa];cases i;cases j;simp
variable{its:List B}{y:V}
section
variable{a c:Ev}{ta tb:TE}{pos:Pos}
def bt{σ:St}{s:ϋ}{Q:VK}{k k':Bool}(I:Inv X gd σ H s)(q:Q (.bl k) H)(e:k=k'):EP X gd σ Q (.bool k') s:=by
 subst e;exact(.bl k,H,I,U,q)
theorem Pu:OpR X (compareOp .Eq) rEq:=by
 intro gd s σ H x y v u Q I z g h;let(hs,q):=h;cases x with
 |non =>
  cases z;cases y with
  |non=>cases g;exact PySem.EqNone.eq_none_none (bt I q ad)
  |bl j=>cases g;exact PySem.EqNone.eq_none_bool (bt I q ad)
  |int j=>let(t',U):=g;exact PySem.EqNone.eq_none_int (bt I q ad)
  |str j=>let(t',U):=g;exact PySem.EqNone.eq_none_str (bt I q ad)
  |_=>exact absurd (show ϊ=O from hs) qr
 |bl i =>
  cases z;cases y with
  |non=>cases g;exact PySem.EqNone.eq_bool_none (bt I q ad)
  |bl j=>cases g;exact eq_bool (bt I q KJ)
  |str j=>let(t',U):=g;exact PySem.EqMixed.eq_bool_str (bt I q ad)
  |_=>exact absurd (show ϊ=O from hs) qr
 |int i =>
  let(t,U):=z;cases y with
  |non=>cases g;exact PySem.EqNone.eq_int_none (bt I q ad)
  |int j=>let(t',U):=g;exact eq_int (bt I q Ed)
  |str j=>let(t',U):=g;exact PySem.EqMixed.eq_int_str (bt I q ad)
  |_=>exact absurd (show ϊ=O from hs) qr
 |str i =>
  let(t,U):=z;cases y with
  |non=>cases g;exact PySem.EqNone.eq_str_none (bt I q ad)
  |bl j=>cases g;exact PySem.EqMixed.eq_str_bool (bt I q ad)
  |int j=>let(t',U):=g;exact PySem.EqMixed.eq_str_int (bt I q ad)
  |str j=>let(t',U):=g;exact eq_str (bt I q Ec)
  |_=>exact absurd (show ϊ=O from hs) qr
 |byt i =>
  let(t,U):=z;cases y with
  |byt j=>let(t',U):=g;exact W.eq_bytes (bt I q Ee)
  |_=>exact absurd (show ϊ=O from hs) qr
 |_=>cases y <;> exact absurd (show ϊ=O from hs) qr
theorem DH:OpR X (compareOp .NotEq) rNe:=by
 intro gd s σ H x y v u Q I z g h;let(hs,q):=h;cases x with
 |non =>
  cases z;cases y with
  |non=>cases g;exact PySem.EqNone.ne_none_none (bt I q ad)
  |bl j=>cases g;exact PySem.EqNone.ne_none_bool (bt I q ad)
  |int j=>let(t',U):=g;exact PySem.EqNone.ne_none_int (bt I q ad)
  |str j=>let(t',U):=g;exact PySem.EqNone.ne_none_str (bt I q ad)
  |_=>exact absurd (show ϊ=O from hs) qr
 |bl i =>
  cases z;cases y with
  |non=>cases g;exact PySem.EqNone.ne_bool_none (bt I q ad)
  |bl j=>cases g;exact ne_bool (bt I q (congrArg not KJ))
  |str j=>let(t',U):=g;exact PySem.EqMixed.ne_bool_str (bt I q ad)
  |_=>exact absurd (show ϊ=O from hs) qr
 |int i =>
  let(t,U):=z;cases y with
  |non=>cases g;exact PySem.EqNone.ne_int_none (bt I q ad)
  |int j=>let(t',U):=g;exact ne_int (bt I q (congrArg not Ed))
  |str j=>let(t',U):=g;exact PySem.EqMixed.ne_int_str (bt I q ad)
  |_=>exact absurd (show ϊ=O from hs) qr
 |str i =>
  let(t,U):=z;cases y with
  |non=>cases g;exact PySem.EqNone.ne_str_none (bt I q ad)
  |bl j=>cases g;exact PySem.EqMixed.ne_str_bool (bt I q ad)
  |int j=>let(t',U):=g;exact PySem.EqMixed.ne_str_int (bt I q ad)
  |str j=>let(t',U):=g;exact ne_str (bt I q (congrArg not Ec))
  |_=>exact absurd (show ϊ=O from hs) qr
 |byt i =>
  let(t,U):=z;cases y with
  |byt j=>let(t',U):=g;exact W.ne_bytes (bt I q (congrArg not Ee))
  |_=>exact absurd (show ϊ=O from hs) qr
 |_=>cases y <;> exact absurd (show ϊ=O from hs) qr
def Pt:OpR X (compareOp .Lt) (rI0 λi j=>.bl (decide (i<j))):=NH λ_ _ _ _ _ _ _ q=>lt_int q
def Uq:OpR X (compareOp .LtE) (rI0 λi j=>.bl (decide (i<=j))):=NH λ_ _ _ _ _ _ _ q=>le_int q
def DI:OpR X (compareOp .Gt) (rI0 λi j=>.bl (decide (j<i))):=NH λ_ _ _ _ _ _ _ q=>gt_int q
def Ur:OpR X (compareOp .GtE) (rI0 λi j=>.bl (decide (j<=i))):=NH λ_ _ _ _ _ _ _ q=>ge_int q
def FQ:OpR X (compareOp .In) (λx y H Q=>∃i j,x=.str i/\y=.str j/\Q (.bl (!(Builtin.Str.occurrences j i 0 j.length 1).isEmpty)) H):=by
 intro gd s σ H x y v u Q I z g h;let(i,j,U,U,q):=h;let(t,U):=z;let(t',U):=g;exact in_str (bt I q U)
def sY:OpR X (compareOp .Is) (λx y H Q=>y=.non/\Q (.bl (decide (x=.non))) H):=by
 intro gd s σ H x y v u Q I z g h;let(U,q):=h;cases g;refine is_none_gen (bt I q ?_);cases x <;>(let(t,U):=z;rfl)
def mL:OpR X (compareOp .IsNot) (λx y H Q=>y=.non/\Q (.bl (!decide (x=.non))) H):=by
 intro gd s σ H x y v u Q I z g h;let(U,q):=h;cases g;refine isnot_none_gen (bt I q ?_);cases x <;>(let(t,U):=z;rfl)
def xO:OpR X (compareOp .NotIn) (λx y H Q=>∃i j,x=.str i/\y=.str j/\Q (.bl (!(!(Builtin.Str.occurrences j i 0 j.length 1).isEmpty))) H):=by
 intro gd s σ H x y v u Q I z g h;let(i,j,U,U,q):=h;let(t,U):=z;let(t',U):=g;exact notIn_str (bt I q U)
def OpR.or{r K:R2}(h:OpR X f r)(h':OpR X f K):OpR X f (λx y H Q=>r x y H Q\/K x y H Q):=by
 intro gd s σ H x y v u Q I z g q;obtain q|q:=q
 ·exact h gd s σ H x y v u Q I z g q
 ·exact h' gd s σ H x y v u Q I z g q
def bF(b:Ev)(h:autoParam (op ≠ .In) zdc._auto_1)(h2:autoParam (op ≠ .NotIn) zdc._auto_1):behindInMarks op b=false:=JN b h h2
def Nn(ho:OpR X (compareOp op) r)(ha:PE X a ta)(K:PE X b tb)(hm:behindInMarks op b=ϊ):PE X (.Compare a [op] [b] pos) (tOp r ta tb):=by
 left;exact wpAny_Compare1 (Sn ha K I h λv u s2 x y H2 P z g q=>ho gd s2 σ H2 x y v u Q P z g q) hm
def CU(t:TE):TT:=λσ H Q=>t σ H λx H'=>∃k,x=.bl k/\Q k H'
def mB(ho:OpR X (compareOp op) r)(ha:PE X a ta)(hb:PE X b tb)(hm:behindInMarks op b=ϊ):PT X (.Compare a [op] [b] pos) (CU (tOp r ta tb)):=by
 left;refine wpAny_isTrue_Compare1 (thn (ha gd s σ H _ I h) λv s1 (x,H1,I1,K,q1)=>thn (hb gd s1 σ H1 _ I1 q1) λu s2 (y,H2,I2,q,V) =>
  thn (ho gd s2 σ H2 x y v u _ I2 K q V) λc s3 (z,H3,I3,g,k,e,P)=>?_) hm
 subst e;cases g;exact wpAny_truthy_bool (H3,I3,P)
def OS(K:BT)(x:V)(H:Hp)(k:Bool):Prop:=
 match x with
 |.non=>k=ϊ
 |.bl b=>k=b
 |.int i=>k=(i != 0)
 |.str y=>y.length<=kf/\k=((y.length:Int) != 0)
 |.byt y=>y.size<=kf/\k=((y.size:Int) != 0)
 |.ref p=>(∃xs,SqL K H p xs/\k = !xs.isEmpty)\/(∃xs,SqT K H p xs/\k = !xs.isEmpty)\/∃kvs,H p=Z (.dK kvs)/\k = !kvs.isEmpty
 |_=>False
def tS{kvs:List (κ×V)}{vs:List (κ×B)}(r:KV kvs vs):(!vs.isEmpty) = !kvs.isEmpty:=by
 cases r <;> rfl
def tR(r:Vals xs its):(!its.toArray.isEmpty) = !xs.isEmpty:=by
 cases r <;> simp
def iQ:(kf:Nat)<2 ^ 63:=ac
def we(h:n<=kf):(n:Int)<2 ^ 63:=by
 have:=Xp
 omega
theorem P4:WA X (λx H Q=>∃k,OS X.K x H k/\Q k H):=by
 intro gd s σ H x v Q I z h;let(k,e,q):=h;have hl:=iQ;have hs:kf=16777216:=Xp;cases x with
 |non =>
  cases z;have g:k=false:=e;subst g;exact truthy_none (H,I,q)
 |bl b =>
  cases z;have g:k=b:=e;subst g;exact wpAny_truthy_bool (H,I,q)
 |int i =>
  let(t,U):=z;have g:k=(i != 0):=e;subst g;exact PySem.P.truthy_int (H,I,q)
 |str y =>
  let(t,U):=z;let(hy,g):=e;subst g;exact PySem.P.truthy_str al (H,I.tok _,q)
 |byt y =>
  let(t,U):=z;let(hy,g):=e;subst g;exact W.truthy_bytes al (H,I.tok _,q)
 |ref p =>
  cases z;have g:=e;obtain⟨xs,hx,g⟩|⟨xs,hx,g⟩|⟨kvs,hx,g⟩:=g
  ·subst g;let(its,r,V,hz):=I.list hx;have hlen:=r.length;exact wpAny_truthy_list V.isList (by rw[nP,<- hlen];exact we (by assumption)) (H,I.tok _,by rw[tR r];exact q)
  ·subst g;let(its,r,V,hz):=I.tuple hx;have hlen:=r.length;exact truthy_tuple V (by rw[nP,<- hlen];exact we (by assumption)) (H,I.tok _,by rw[tR r];exact q)
  ·subst g;let(hz,hS,vs,r,m):=I.hok p _ hx;have hlen:kvs.length=vs.length:=Paired.length r;exact wpAny_truthy_dict hS m (by rw[<- hlen];exact we hz) (H,I.tok _,by rw[tS r];exact q)
 |_=>exact(show False from e).elim
def IY(ha:PE X a ta)(he:∀whole,isTrue a X.env whole=(do let v <- whole;standAt a.pos;holding [v] (truthy v))):
  PT X a (λσ H Q=>ta σ H λx H'=>∃k,OS X.K x H' k/\Q k H'):=by
 left;exact isTrue_plain (thn (ha gd s σ H _ I h) λv s1 (x,H1,z,g,q)=>P4 gd s1 σ H1 x v Q z g q) (he _)
def BW:OpR X (binaryOp .Add) (λx y H Q=>∃i j,x=.str i/\y=.str j/\i.length+j.length<=kf/\Q (.str (i++j)) H):=by
 intro gd s σ H x y v u Q I z g h;let(i,j,U,U,K,q):=h;let(t,U):=z;let(t',U):=g;exact add_str (λt' tk=>(.str (i++j),H,I.tok _,(_,U),q)) K
def vals1{x:V}(r:Vals [x] us):∃u,us=[u]/\RelV x u:=by
 cases r with
 |cons q g=>cases g;exact(_,U,q)
def vals2{x:V}(r:Vals [x,y] us):∃u g,us=[u,g]/\RelV x u/\RelV y g:=by
 cases r with
 |cons P K =>
  cases K with
  |cons z q=>cases q;exact(_,_,U,P,z)
def fU(z:X.calm=O):cx X (.builtin "max") (λxs H Q=>∃i j,xs=[.int i,.int j]/\Q (.int (if j > i then j else i)) H):=by
 intro gd s σ H xs us Q I r h;let(i,j,U,q):=h;let(u,K,U,(t,U),(t',U)):=vals2 r;refine max_two_ints (I.ok.hd z) λh' tk k=>(_,H,I.kept k,?_,q)
 by_cases g:j > i
 ·rw[if_pos g,if_pos g];exact(_,U)
 ·rw[if_neg g,if_neg g];exact(_,U)
def Gz(z:X.calm=O):cx X (.builtin "min") (λxs H Q=>∃i j,xs=[.int i,.int j]/\Q (.int (if j<i then j else i)) H):=by
 intro gd s σ H xs us Q I r h;let(i,j,U,q):=h;let(u,K,U,(t,U),(t',U)):=vals2 r;refine min_two_ints (I.ok.hd z) λh' tk k=>(_,H,I.kept k,?_,q)
 by_cases g:j<i
 ·rw[if_pos g,if_pos g];exact(_,U)
 ·rw[if_neg g,if_neg g];exact(_,U)
def kD:cx X (.type "int") (λxs H Q=>(∃i,xs=[.int i]/\Q (.int i) H)\/∃k,xs=[.bl k]/\Q (.int (if k then 1 else 0)) H):=by
 intro gd s σ H xs us Q I r h;obtain⟨i,rfl,q⟩|⟨k,rfl,q⟩:=h
 ·let(u,U,t,U):=vals1 r;exact call_int_int (.int i,H,I,(_,U),q)
 ·let(u,U,g):=vals1 r;cases g;exact call_int_bool (.int (if k then 1 else 0),H,I.tok _,(_,U),q)
end
structure GI(h:Do)(x dx C:J)(mA:Str->Option B):Prop where
 obj:h.get? x=Z (W.instObj C dx)
 ns:h.Ns1 dx mA
 ne:dx≠x
variable{dx:J}{mA:Str->Option B}
theorem F9{h:Do}(n:h.Ns1 dx mA):∃od,h.get? dx=Z od/\∀name,W.lookIn name od=Z (mA name):=by
 let(o,es,ep,ho,hd,hk,_,hm):=n;refine(o,ho,λname=>?_)
 have e:=hm name;unfold nsFind findBy at e;rw[<- Array.find?_toList]at e;unfold W.lookIn;rw[hd];dsimp only
 split
 ·rename_i y q;rw[q]at e;exact congrArg Z e
 ·rename_i q;rw[q]at e;have a:es.toList.any (·.refKey)=false:=by
   rw[X6];intro y K;let(z,t,g):=hk y (Array.mem_toList_iff.mp K);simp[DictEntry.refKey,g]
  have P:¬ es.toList.any (·.refKey)=true:=by rw[a];exact qr
  rw[if_neg P];exact congrArg Z e
variable{C:J}
theorem GI.look{x:J}(I:GI h x dx C mA):∃od,W.InstAt h x (W.instObj C dx) C (Z od)/\∀name,W.lookIn name od=Z (mA name):=
 let(od,ho,hl):=F9 I.ns
 (od,(I.obj,U,U,ho),hl)
variable{R:Result->ϋ->Prop}{kw:List (Str×B)}
section
variable{prog:Da}{w:Cl}{s:ϋ}{K:BT}{x f:J}{name:Str}{v:B}
theorem get_map(X:K.In s.heap)(I:GI s.heap x dx C mA)(hg:W.plainGet K C name=O)(q:W.hasDictIn K C=O)
  (ha:W.findIn K (.ref C) name=Z Y) (hv:mA name=Z v) (g:W.handedIn v=O) (h:Q v {s with toks:=s.toks+1}):
  wpAny (model prog w) A (getAttr (.ref x) name expr) Q E s:=by
 let(od,Zb,hl):=I.look;exact W.get_value X Zb (W.plainGet_of hg).1 (W.findObj_own q ha U (by rw[hl,hv])) g h
theorem Ms{Q:Unit->ϋ->Prop}(X:K.In s.heap)(I:GI s.heap x dx C mA)
  (hs:W.findIn K (.ref C) "__setattr__"=Z (Z (.builtin "object.__setattr__"))) (hp:W.plainOver K C=O) (ht:W.takerIn K C name=Z Y) (hh:W.hasDictIn K C=O)
  (hw:PySem.Within mA ns) (hsz:ns.length<=kf)
  (h:∀h',GI h' x dx C (λy=>if y=name then Z v else mA y)->Xi dx s.heap h'->Q () {s with heap:=h',toks:=s.toks+2}):
  wpAny (model prog w) A (setAttr (.ref x) name v) Q E s:=by
 let(od,Zb,hl):=I.look;refine W.set_plain X Zb hs (W.osa_open X Zb hp ht λb=>?_)
 let(cd,hc,V):=W.any_some hh;have hx:=I.obj;refine dF (kb (dF (dF (wpAny_loadPart hx (dF (W.Looks.here (W.looks_clsIn X hc) ?_))))));rw[V];refine kb (dF (kb (dF ?_)));refine wpAny_nsSet1 I.ns λh' q g=>?_
 let(oD,ar,av,z,P,ak):=q.count (PySem.Within.cons name v hw);exact dF (wpAny_lookBehind z (by rw[P];exact pastItsLine_dict (qR ak (by rw[pq];omega))) (kb (h _ ((g.2 _ (Ne.symm I.ne)).trans I.obj,q,I.ne) g)))
theorem JU(X:K.In s.heap)(hm:W.makesIn K C=O)
  (hi:W.findIn K (.ref C) "__init__"=Z (Z (.ref f))) (hf:W.typeIn K (.ref f)=Z (.type "function"))
  (h:codeAny (model prog w) (A.under (.builtin "type.__call__" (.ref C::vs,kw))) (.call (.ref f) (.ref (s.heap.objs.size+1)::vs,kw)) (W.InitBack (s.heap.objs.size+1) R)
   {s with heap:=(s.heap.push W.emptyDict).push (W.instObj C s.heap.objs.size)}):
  codeAny (model prog w) A (.call (.ref C) (vs,kw)) R s:=by
 exact W.make_core (W.makes_of X hm) (W.looks_findIn X hi) (λself=>W.bind_fn X self hf) (.inl U) h
end
def lG(f:Str)(v:V):List (Str×V)->List (Str×V)
 |[]=>[(f,v)]
 | (g,x)::r=>if g=f then(g,v)::r else(g,x)::lG f v r
theorem pT(f g:Str)(v:V):∀fs:List (Str×V),(lG f v fs).lookup g=if g=f then Z v else fs.lookup g
 |[]=>by
  show Xc g [(f,v)]=_;by_cases h:g=f
  ·have q:=beq_iff_eq.mpr h;simp only[Xc,q,if_pos h]
  ·have q:=beq_eq_false_iff_ne.mpr h;simp only[Xc,q,if_neg h]
 | (k,x)::r=>by
  have z:=pT f g v r;rw[show lG f v ((k,x)::r)=(if k=f then(k,v)::r else(k,x)::lG f v r)from rfl]
  by_cases hk:k=f
  ·rw[if_pos hk];by_cases h:g=k
   ·have q:=beq_iff_eq.mpr h;simp only[Xc,q,if_pos (h.trans hk)]
   ·have q:=beq_eq_false_iff_ne.mpr h;simp only[Xc,q,if_neg (λe:g=f=>h (e.trans hk.symm))]
  ·rw[if_neg hk];by_cases h:g=k
   ·have q:=beq_iff_eq.mpr h;simp only[Xc,q,if_neg (λe=>hk (h.symm.trans e))]
   ·have q:=beq_eq_false_iff_ne.mpr h;simp only[Xc,q];exact z
theorem pA(f:Str)(v:V):∀fs:List (Str×V),f∈(lG f v fs).map (·.1)/\∀g,g∈fs.map (·.1)->g∈(lG f v fs).map (·.1)
 |[]=>(by simp[lG],λg h=>by simp at h)
 | (k,x)::r=>by
  let(i1,i2):=pA f v r;rw[show lG f v ((k,x)::r)=(if k=f then(k,v)::r else(k,x)::lG f v r)from rfl]
  by_cases hk:k=f
  ·rw[if_pos hk];subst hk;exact(ad,λg h=>by simpa using h)
  ·rw[if_neg hk];refine(?_,λg h=>?_)
   ·exact j1 _ i1
   ·obtain e|e:=kO.mp h
    ·exact kO.mpr (.inl e)
    ·exact j1 _ (i2 g e)
theorem pU(f:Str)(v:V):∀fs:List (Str×V),(lG f v fs).length<=fs.length+1
 |[]=>by simp[lG]
 | (k,x)::r=>by
  have g:=pU f v r;rw[show lG f v ((k,x)::r)=(if k=f then(k,v)::r else(k,x)::lG f v r)from rfl]
  by_cases hk:k=f
  ·rw[if_pos hk,pq,pq];lia
  ·rw[if_neg hk,pq,pq];lia
def j8.some_of{o:Option B}(r:j8 (Z v) o):∃u,o=Z u/\RelV v u:=by
 cases o with
 |none=>exact(r).elim
 |some u=>exact(u,U,r)
theorem Gk(r:RelV v u):W.handedIn u=true:=by
 cases v with
 |non=>cases(r);rfl
 |bl b=>cases(r);rfl
 |int i=>let(t,e):=(r);cases e;rfl
 |str x=>let(t,e):=(r);cases e;rfl
 |byt b=>let(t,e):=(r);cases e;rfl
 |flt b=>let(t,e):=(r);cases e;rfl
 |ref a=>cases(r);rfl
 |ty n=>cases(r);rfl
section
variable{w:Cl}{h:Do}{fs:List (Str×V)}
def yb(hok:HOk P w H h)(e:H a=Z (.ins C dx fs)):∃mA,GI h a dx C mA/\(∀f,j8 (fs.lookup f) (mA f))/\PySem.Within mA (fs.map (·.1))/\fs.length<=1000/\H dx=Z (.own a):=by
 let(d,z,ne,ob,mA,n,r,q):=(hok a _ e);exact(mA,(ob,n,ne),r,q,z,d)
end
structure Cls(K:BT)(C:J):Prop where
 pg:W.plainGet K C Str.empty=O
 hd:W.hasDictIn K C=O
 po:W.plainOver K C=O
 sa:W.findIn K (.ref C) "__setattr__"=Z (Z (.builtin "object.__setattr__"))
theorem Cls.get{K:BT}(c:Cls K C)(f:Str):W.plainGet K C f=true:=c.pg
def bZ(K:BT)(C:J)(f:Str):Prop:=W.findIn K (.ref C) f=Z Y
theorem bZ.Tc{K:BT}(n:bZ K C f):W.takerIn K C f=Z none:=by
 unfold W.takerIn;rw[n];rfl
structure Meth(K:BT)(C:J)(m:Str)(f:J):Prop where
 at_:W.findIn K (.ref C) m=Z (Z (.ref f))
 fn:W.isFn K (.ref f)=O
 kp:W.keepIn K (.ref f)=O
variable{env:Env}
section
variable{σ:St}{s:ϋ}{fs:List (Str×V)}{f:Str}{v:V}
def Ck{b:Bool}(I:Inv X gd σ H s)(e:H a=Z (.ins C dx fs))(c:Cls X.K C)(n:bZ X.K C f)(l:fs.lookup f=Z v)
  (h:∀u s',Inv X gd σ H s'->RelV v u->Q u s'):wpAny (model X.prog X.w) A (getAttr (.ref a) f b) Q E s:=by
 let(mA,Y8,r,_,_,_):=yb I.hok e;let(u,g,ru):=j8.some_of (by rw[<- l];exact r f)
 exact get_map I.kIn Y8 (c.get f) c.hd n g (Gk ru) (h u _ (I.tok _) ru)
def Bo{Q:Unit->ϋ->Prop}(I:Inv X gd σ H s)(e:H a=Z (.ins C dx fs))(c:Cls X.K C)(n:bZ X.K C f)(hl:fs.length<1000)(V:RelV y u)
  (h:∀s',Inv X gd σ (upd H a (.ins C dx (lG f y fs))) s'->Q () s'):wpAny (model X.prog X.w) A (setAttr (.ref a) f u) Q E s:=by
 let(mA,Y8,r,wi,_,ho):=yb I.hok e;have hz:(fs.map (·.1)).length<=kf:=by rw[cO,Xp];lia
 refine Ms I.kIn Y8 c.sa c.po n.Tc c.hd wi hz λh' P sb=>h _ ?_
 have hd:∃o,h'.get? dx=Z o:=let(o,_,_,e',_):=P.ns;(o,e')
 refine I.write (x:=a) (e:=dx) (by rw[e];exact True.intro) (.inr ho) (λb q hb z=>(sb.2 b hb).trans z) hd (by rw[au Y8.ne];exact ho,?_,Y8.ne,P.obj,_,P.ns,λg=>?_,λg hg=>?_)
 ·have:=pU f y fs;lia
 ·rw[pT];by_cases q:g=f
  ·rw[if_pos q,if_pos q];exact V
  ·rw[if_neg q,if_neg q];exact r g
 ·by_cases q:g=f
  ·rw[q];exact(pA f y fs).1
  ·refine(pA f y fs).2 g (wi g λz=>hg ?_)
   show(if g=f then Z u else mA g)=Y
   rw[if_neg q];exact z
theorem Inv.made(I:Inv X gd σ H s):Inv X gd σ (upd (upd H s.heap.objs.size (.own (s.heap.objs.size+1))) (s.heap.objs.size+1) (.ins C s.heap.objs.size []))
  {s with heap:=(s.heap.push W.emptyDict).push (W.instObj C s.heap.objs.size)}:=by
 have g:(s.heap.push W.emptyDict).get? s.heap.objs.size=Z W.emptyDict:=ke s.heap U;have P:=by
  have:=ke (s.heap.push W.emptyDict) (o:=W.instObj C s.heap.objs.size) U
  rwa [wh]at this
 have K:(s.heap.push W.emptyDict).Ns s.heap.objs.size (λ_=>Y):=(W.emptyDict,#[],_,g,U,(λe he=>absurd he ad),λ_=>rfl)
 have Q:=I.laid (o:=.own (s.heap.objs.size+1)) (t':=s.toks) (λb u q=>fC _ q) (ka _) (_,g)
 refine Q.laid (λb u q=>fC _ q) (Nat.le_of_eq (wh _ _)) ?_
 have ne:s.heap.objs.size≠s.heap.objs.size+1:=ri (Xf _);refine(by rw[au ne,az],v5 _,ne,P,λ_=>Y,(Heap.Ns1.of_empty K).at λo q=>fC _ q,λ_=>True.intro,λy z=>absurd U z)
def OD(q:attributeBase e f env (eval e env)=eval e env)
  (h:wpAny (model prog w) A (eval e env) (λo g=>wpAny (model prog w) A (getAttr o f O) Q E g) E s):wpAny (model prog w) A (eval (.Attribute e f pos) env) Q E s:=
 Attribute_any_ h (by rw[arm_eval_Attribute,q])
end
def Vy(K:BT)(ta tv:TE)(f:Str):TS:=λD σ H=>tv σ H λy H1=>ta σ H1 λx H2=>∃a C dx fs,x=.ref a/\H2 a=Z (.ins C dx fs)/\Cls K C/\bZ K C f/\fs.length<1000 /\
 D.nx σ (upd H2 a (.ins C dx (lG f y fs)))
section
variable{value:Ev}{f:Str}{pos:Pos}{ta tv:TE}
def jH(ha:PE X o ta)(hv:PE X value tv)(hs:swapsWith value (Z (.Attribute o f pos')) pos.line X.env=pure ϊ):PS X (.Assign [.Attribute o f pos'] value pos) (Vy X.K ta tv f):=by
 right;refine plainObj_wpAny_Assign_Attribute (thn (hv gd s σ H _ I h) λu s1 (y,H1,I1,z,q)=>thn (ha gd s1 σ H1 _ I1 q) λov s2 g=>?_) hs
 let(x,H2,I2,P,a,C,dx,fs,ex,V,c,n,l,Q):=g;subst ex;obtain rfl:=P;exact Bo I2 V c n l z λs3 I3=>(σ,_,I3,Q)
end
section
variable{σ:St}{s:ϋ}{c:B}{b:Bool}
inductive kL(K:BT)(H:Hp):V->B->Prop where
 |non:kL K H .non (.type "NoneType")
 |bl(x:Bool):kL K H (.bl x) (.type "bool")
 |int(i:Int):kL K H (.int i) (.type "int")
 |str(x:Str):kL K H (.str x) (.type "str")
 |flt(x:UInt64):kL K H (.flt x) (.type "float")
 |lst{a:J}{xs:List V}(e:H a=Z (.lst xs)):kL K H (.ref a) (.type "list")
 |frz{a:J}{o:Obj}{xs:List V}(e:H a=Z (.frz o (.lst xs))):kL K H (.ref a) (.type "list")
 |tup{a:J}{xs:List V}(e:H a=Z (.tup xs)):kL K H (.ref a) (.type "tuple")
 |dK{a:J}{kvs:List (Key×V)}(e:H a=Z (.dK kvs)):kL K H (.ref a) (.type "dict")
 |dT{a:J}{kvs:List (List Key×V)}(e:H a=Z (.dT kvs)):kL K H (.ref a) (.type "dict")
 |ins{a C dx:J}{fs:List (Str×V)}(e:H a=Z (.ins C dx fs))(cl:Cls K C)(ha:W.findIn K (.ref C) "__class__"=Z (Z (.builtin "object.__class__")))
   (hn:W.specialIn K (.builtin "object.__class__") "__get__"=Z (Z (.builtin "getset_descriptor.__get__"))) (htk:W.takesIn K (.builtin "object.__class__")=Z O)
   (hm:W.mroIn K C (.type "object")=Z O):kL K H (.ref a) (.ref C)
theorem Gg{x:V}{t:B}(I:Inv X gd σ H s)(g:RelV x u)(ty:kL X.K H x t)(e:W.kitOne X.K t c=Z b)(h:∀tk,Q (.bool b) {s with toks:=tk}):
  wpAny (model X.prog X.w) A (call (.builtin "isinstance") [u,c]) Q E s:=by
 cases ty with
 |non=>cases(g);exact W.kia_one W.kitx_none I.kIn True.intro e (λz=>nomatch z) h
 |bl y=>cases(g);exact W.kia_one W.kitx_bool I.kIn True.intro e (λz=>nomatch z) h
 |int i=>let(t,q):=(g);cases q;exact W.kia_one W.kitx_int I.kIn True.intro e (λz=>nomatch z) h
 |str y=>let(t,q):=(g);cases q;exact W.kia_one W.kitx_str I.kIn True.intro e (λz=>nomatch z) h
 |flt y=>let(t,q):=(g);cases q;exact W.kia_one W.kitx_float I.kIn True.intro e (λz=>nomatch z) h
 |@lst a xs P =>
  cases(g)
  let(_,_,n,_,h1):=(I.hok a _ P);exact W.kia_one W.kitx_list I.kIn (_,h1,U) e (λz=>nomatch z) h
 |@frz a ob xs P =>
  cases(g)
  let(_,_,_,n,_,h1):=(I.hok a _ P);exact W.kia_one W.kitx_list I.kIn (_,h1,U) e (λz=>nomatch z) h
 |@tup a xs P =>
  cases(g)
  let(_,_,_,p):=(I.hok a _ P);let(o,h1,h2,_):=p.1;exact W.kia_one W.kitx_tuple I.kIn (o,h1,h2) e (λz=>nomatch z) h
 |@dK a kvs P =>
  cases(g)
  let(_,_,vs,_,p):=(I.hok a _ P);let(o,es,ep,h1,h2,_):=p;exact W.kia_one W.kitx_dict I.kIn (o,h1,h2.1) e (λz=>nomatch z) h
 |@dT a kvs P =>
  cases(g)
  let(_,_,xs,_,o,es,ep,h1,h2,_):=(I.hok a _ P);exact W.kia_one W.kitx_dict I.kIn (o,h1,h2.1) e (λz=>nomatch z) h
 |@ins a C dx fs P cl ha hn htk hm =>
  cases(g)
  let(mA,Y8,_):=yb I.hok P;let(od,Zb,_):=Y8.look;exact W.kia_one (W.kitx_own (cl.get _) cl.hd ha hn htk hm) I.kIn Zb e (λz=>nomatch z) h
end
structure eC(k:Nat)(A:Db):Prop where
 hd:A.handled=Y
 dp:A.depth+3*k+5<recursionLimit
 un:A.units+16*k+200<cLine
def eC.mono(r:eC k A)(h:j<=k):eC j A:=(r.hd,by have:=r.dp;lia,by have:=r.un;lia)
theorem eC.deeper(r:eC (k+1) A)(env:Env):eC k (A.deeper env):=
 (r.hd,by have:=r.dp;show A.depth+1+3*k+5<_;lia,by have:=r.un;show A.units+3+16*k+200<_;lia)
def B5:(A.under (.builtin "type.__call__" (.ref C::us,kw))).depth=A.depth+1:=by
 rfl
def B4:(A.under (.builtin "type.__call__" (.ref C::us,kw))).units=A.units+1:=by
 rfl
def eC.make(r:eC (k+1) A)(C:J)(us:List B)(kw:List (Str×B)):eC k (A.under (.builtin "type.__call__" (.ref C::us,kw))):=
 (r.hd,by have:=r.dp;rw[B5];lia,by have:=r.un;rw[B4];lia)
theorem eC.depth(r:eC k A):A.depth<recursionLimit:=by have:=r.dp;lia
theorem eC.units(r:eC k A):A.units+64<cLine:=by have:=r.un;lia
def ix:TA:=λ_ H Q=>Q [] H
def di(ta:TE)(g:TA):TA:=λσ H Q=>ta σ H λx H1=>g σ H1 λxs H2=>Q (x::xs) H2
section
variable{t:TA}{pos:Pos}
def dC:PA X [] ix:=λ_ _ _ _ H Q I h=>Calls.spliced_nil ([],H,I,.nil,h)
abbrev AC(X:Cx)(e:Ev)(f:List Ev):Prop:=kg (e::f) X.env=(false,eval e X.env)::kg f X.env
def bX(ha:PE X e te)(hr:PA X es t)(hs:‹AC X e es›):PA X (e::es) (di te t):=by
 intro pos gd s σ H Q I h;rw[hs];show wpAny _ _ (spliced ((ϊ,eval e X.env)::backTo pos (kg es X.env))) _ _ s;exact Calls.spliced_cons (thn (ha gd s σ H _ I h) λu s1 (x,H1,V,q,K)=>(thn (hr pos gd s1 σ H1 _ V K) λus s2 (xs,H2,P,g,z)=>(x::xs,H2,P,.cons q g,z)))
def P6(t:TA):TE:=λσ H Q=>t σ H λxs H1=>xs.length<=kf/\∀p,H1 p=Y->Q (.ref p) (upd H1 p (.tup xs))
def Qa(t:TA):TE:=λσ H Q=>t σ H λxs H1=>xs.length<=kf/\∀p,H1 p=Y->Q (.ref p) (upd H1 p (.lst xs))
def Jo{K}(h:PA X es t):PE X (.Tuple es K pos) (P6 t):=by
 intro gd s σ H Q I hq;refine wpAny_Tuple_spliced (thn (h pos gd s σ H _ I hq) λus s1 (xs,H1,g,r,z,q)=>(by rw[<- r.length];exact z,?_))
 have hf:=g.hok.fresh (ka _);refine(.ref s1.heap.objs.size,upd H1 s1.heap.objs.size (.tup xs),g.laid (λb u e=>fC _ e) (ka _) ?_,U,q _ hf)
 exact(z,us,r,((_,ke _ U,U,_,U),_,ke _ U,U))
def Jq(h:PA X es t):PE X (.List es pos) (Qa t):=by
 intro gd s σ H Q I hq;refine wpAny_List_spliced (thn (h pos gd s σ H _ I hq) λus s1 (xs,H1,g,r,z,q)=>(by rw[<- r.length];exact z,?_))
 have hf:=g.hok.fresh (ka _);refine(.ref s1.heap.objs.size,upd H1 s1.heap.objs.size (.lst xs),g.laid (λb u e=>fC _ e) (ka _) ?_,U,q _ hf)
 exact(z,us,0,r,ke _ U)
end
abbrev Sp:=List V->Hp->VK->XK->Prop
abbrev CXT:=List Env->Hp->ϋ->XK->B->ϋ->Prop
structure CG(P:Da)(w:Cl)(K:BT)(mg:Str->Option B)(base:Do)(A:Db)(outer:List Env)(s:ϋ)(H:Hp):Prop where
 frames:A.frames=Z outer
 mod:Mod K mg base
 bs:∀b o,base.get? b=Z o->s.heap.get? b=Z o/\H b=Y
 bsz:base.objs.size<=s.heap.objs.size
 qJ:s.heap.FunFrames base outer
 frf:∀b∈frs outer,H b=Y
 hok:HOk P w H s.heap
 bare:AllBare s.gens
def CE(outer:List Env)(P:Da)(w:Cl)(H:Hp)(s:ϋ)(Q:VK)(u:B)(s':ϋ):Prop:=
 ∃v H',s'.os=s.os/\AllBare s'.gens/\Un (frs outer) [] H H' s.heap s'.heap/\HOk P w H' s'.heap/\RelV v u/\Q v H'
def CR(CX:CXT)(outer:List Env)(P:Da)(w:Cl)(H:Hp)(s:ϋ)(Q:VK)(E:XK)(r:Result)(s':ϋ):Prop:=
 match r with
 |.ok (.ret u)=>CE outer P w H s Q u s'
 |.ok _=>False
 |.error e=>CX outer H s E e s'
structure bf(P:Da)(w:Cl)(K:BT)(mg:Str->Option B)(base:Do)(CX:CXT)(k:Nat)(f:J)(fd:Ch)(ps:List Str)(sp:Sp):Prop where
 len:∀vs H Q E,sp vs H Q E->vs.length=ps.length
 run:∀(A:Db)(outer:List Env)(s:ϋ)(H:Hp)(args:Args)(us:List B)(vs:List V)(Q:VK)(E:XK),eC k A->CG P w K mg base A outer s H->BindsTo s fd args (ps.zip us)->Vals vs us->sp vs H Q E ->
  codeAny (model P w) A (.call (.ref f) args) (CR CX outer P w H s Q E) s
variable{mg:Str->Option B}{base:Do}{CX:CXT}{fd:Ch}{ps:List Str}{sp:Sp}
theorem bf.imp{K:BT}(F:bf P w K mg base CX k f fd ps sp)
  (h:∀vs H Q E,g vs H Q E->sp vs H Q E):bf P w K mg base CX k f fd ps g:=
 (λvs H Q E q=>F.len vs H Q E (h _ _ _ _ q),λA outer s H args us vs Q E hr he z hv hs=>F.run A outer s H args us vs Q E hr he z hv (h _ _ _ _ hs))
theorem CG.make{K:BT}(e:CG P w K mg base A outer s H)(C:J)(us:List B)(kw:List (Str×B)):
  CG P w K mg base (A.under (.builtin "type.__call__" (.ref C::us,kw))) outer s H:=(by exact e.frames,e.mod,e.bs,e.bsz,e.qJ,e.frf,e.hok,e.bare)
section
variable{σ:St}{s:ϋ}
def Inv.U4(I:Inv X gd σ H s):CG X.prog X.w X.K X.mg X.base X.A X.stack s H:=
 (I.ok.frames,I.ok.mod,I.bs,qR I.ok.bsz I.sz,I.stack,I.C2,I.hok,I.bare)
def Inv.after{Q:VK}(I:Inv X gd σ H s)(h:CE X.stack X.prog X.w H s Q u s'):EP X gd σ Q u s':=by
 let(v,H',os,bare,un,hok,r,q):=h;let(P,g,d,t,K):=s';obtain rfl:=os;exact(v,H',I.call un hok bare (λb z=>absurd z ad),r,q)
end
def CW(sp:Sp)(dvs:List V)(E:XK)(t:TA):TE:=λσ H Q=>t σ H λvs H1=>sp (vs++dvs) H1 Q E
def Binds(K:BT)(fd:Ch)(ps:List Str)(ds:List B):Prop:=
 ∀(s:ϋ)(us:List B),K.In s.heap->(us++ds).length=ps.length->BindsTo s fd (us,[]) (ps.zip (us++ds))
theorem Binds.all{K:BT}(h:∀us:List B,us.length=ps.length->bindArgs fd (us,[])=pure (ps.zip us)):Binds K fd ps []:=λs us _ hl=>by
 rw[qg]at hl ⊢;exact .of_eq (h us hl)
def Passes(CX:CXT)(X:Cx)(E:XK):Prop:=∀(gd:List (J×Obj))(σ:St)(H:Hp)(s:ϋ)(e:B)(s':ϋ),Inv X gd σ H s->CX X.stack H s E e s'->X.xe e s'
section
variable{k:Nat}{f:J}{dvs:List V}{ds:List B}{E:XK}{p pos:Pos}{t:TA}
theorem Qm{σ:St}{Q:VK}(F:bf X.prog X.w X.K X.mg X.base CX k f fd ps sp)(hr:eC k X.A)(q:Binds X.K fd ps ds)(hd:Vals dvs ds)(hx:Passes CX X E)
  (I:Inv X gd σ H s) (r:Vals vs us) (h:sp (vs++dvs) H Q E):Ze X (call (.ref f) us) (EP X gd σ Q) X.xe s:=by
 have g:=r.append hd;have hl:(us++ds).length=ps.length:=by rw[<- g.length];exact F.len _ _ _ _ h
 refine wpAny_call (codeAny_mono (F.run X.A X.stack s H (us,[]) (us++ds) (vs++dvs) Q E hr I.U4 (q s us I.kIn hl) g h) λr s' hq=>?_)
 cases r with
 |error e=>exact hx gd σ H s e s' I hq
 |ok fl =>
  cases fl with
  |ret u=>exact I.after hq
  |next=>exact False.elim hq
  |brk=>exact False.elim hq
  |cont=>exact False.elim hq
abbrev AM(X:Cx)(p:Pos)(e:List Ev):Prop:=(backTo p (kg e X.env)).any (·.1)=false
theorem DF(F:bf X.prog X.w X.K X.mg X.base CX k f fd ps sp)(hr:eC k X.A)(hg:Gl X x)(hm:X.mg x=Z (.ref f))(hk:W.keepIn X.K (.ref f)=O)(V:Binds X.K fd ps ds)(hd:Vals dvs ds)(hx:Passes CX X E)
  (ha:PA X (e::es) t) (z:autoParam (AS x) zdc._auto_1) (he:‹AC X e es›) (g:‹AM X pos es›):
  PE X (.Call (.Name x p) (e::es) [] pos) (CW sp dvs E t):=by
 left;exact GN (x5 I hg hm (W.callWith_K (h₀:=X.base) I.ok.mod.kin hk (thn (ha pos gd s σ H _ I h) λus s1 (vs,H1,P,r,q)=>(P.kIn,(Qm F hr V hd hx P r q))) he g) z)
structure Mk(K:BT)(C f:J):Prop where
 makes:W.makesIn K C=O
 init:W.findIn K (.ref C) "__init__"=Z (Z (.ref f))
 fn:W.isFn K (.ref f)=O
 kp:W.keepIn K (.ref C)=O
theorem HS{σ:St}{s:ϋ}{Q:VK}{vs:List V}(M:Mk X.K C f)(F:bf X.prog X.w X.K X.mg X.base CX k f fd ps sp)(hr:eC (k+1) X.A)(hb:Binds X.K fd ps ds)(hd:Vals dvs ds)
  (hx:Passes CX X E) (I:Inv X gd σ H s) (r:Vals vs us)
  (h:∀x dx,H x=Y->H dx=Y->dx≠x->sp (.ref x ::(vs++dvs)) (upd (upd H dx (.own x)) x (.ins C dx [])) (λv H2=>v=.non/\Q (.ref x) H2) E):
  Ze X (call (.ref C) us) (EP X gd σ Q) X.xe s:=by
 have hq:=h (s.heap.objs.size+1) s.heap.objs.size (I.hok.fresh (Nat.le_succ _)) (I.hok.fresh (ka _)) (ri (Xf _));have q:=Inv.made (C:=C) I;have z:Vals (V.ref (s.heap.objs.size+1) ::(vs++dvs)) (B.ref (s.heap.objs.size+1) ::(us++ds)):=.cons U (r.append hd);have hl:=by
  have e:=z.length;rw[F.len _ _ _ _ hq]at e;exact e.symm
 refine wpAny_call (JU I.kIn M.makes M.init (beq_iff_eq.mp M.fn) (codeAny_mono (F.run _ X.stack _ _ (B.ref (s.heap.objs.size+1)::us,[]) (B.ref (s.heap.objs.size+1) ::(us++ds)) _ _ E (hr.make C us [])
  (q.U4.make C us []) (hb _ (B.ref (s.heap.objs.size+1)::us) q.kIn hl) z hq) λr s' g=>?_))
 cases r with
 |error e=>exact hx gd σ _ _ e s' q g
 |ok fl =>
  cases fl with
  |ret u =>
   let(v,H',I3,rv,ev,P):=q.after g;subst ev;exact(rv,(V.ref (s.heap.objs.size+1),H',I3,U,P))
  |next=>exact False.elim g
  |brk=>exact False.elim g
  |cont=>exact False.elim g
end
structure aG(N P:List Str)(sc:Scope):Prop where
 kind:sc.kind=.function
 co:sc.isCoroutine=ϊ
 gen:sc.isGenerator=ϊ
 nd:N.Nodup
 pre:N.take P.length=P
 par:∀x∈P,sc.names.lookup x=Z .local\/sc.names.lookup x=Z .cell
 Ry:∀y∈sc.names,y.2 ≠ .free
theorem wu{kindOf:Str->Option NameKind}:∀{binds:List (Str×B)}{m:Str->Option B},(∀v,(x,v) ∉ binds)->bindL kindOf binds m x=m x
 |[],_,_=>rfl
 | (n,v)::r,m,h=>by
  unfold bindL;rw[wu λw hw=>h w (j1 _ hw)]
  split
  ·have:x≠n:=by rintro rfl;exact h v j2
   simp[this]
  ·rfl
theorem wy{kindOf:Str->Option NameKind}:∀{binds:List (Str×B)}{m:Str->Option B},(∀v,(x,v) ∉ binds)->bindC kindOf binds m x=m x
 |[],_,_=>rfl
 | (n,v)::r,m,h=>by
  unfold bindC;rw[wy λw hw=>h w (j1 _ hw)]
  split
  ·rfl
  ·have:x≠n:=by rintro rfl;exact h v j2
   simp[this]
theorem wx{kindOf:Str->Option NameKind}{x:Str}{v:B}:∀{P:List Str}{vs:List B}{i:Nat}{m:Str->Option B},P.Nodup->P[i]?=Z x->vs[i]?=Z v->kindOf x=Z .local ->
  bindL kindOf (P.zip vs) m x=Z v
 |[],_,_,_,_,h,_,_=>by simp at h
 |_::_,[],_,_,_,_,h,_=>by simp at h
 |p::P,w::vs,0,m,nd,h1,h2,hk=>by
  simp at h1 h2;subst h1;subst h2;show bindL kindOf ((p,w)::P.zip vs) m p=_;unfold bindL;rw[wu λv hv=>(uj.mp nd).1 (Xj hv).1,if_pos hk]
  simp
 |p::P,w::vs,i+1,m,nd,h1,h2,hk=>by
  unfold bindL;exact wx (uj.mp nd).2 (h1:) (h2:) hk
theorem wz{kindOf:Str->Option NameKind}{x:Str}{v:B}:∀{P:List Str}{vs:List B}{i:Nat}{m:Str->Option B},P.Nodup->P[i]?=Z x->vs[i]?=Z v->kindOf x≠Z .local ->
  bindC kindOf (P.zip vs) m x=Z v
 |[],_,_,_,_,h,_,_=>by simp at h
 |_::_,[],_,_,_,_,h,_=>by simp at h
 |p::P,w::vs,0,m,nd,h1,h2,hk=>by
  simp at h1 h2;subst h1;subst h2;show bindC kindOf ((p,w)::P.zip vs) m p=_;unfold bindC;rw[wy λv hv=>(uj.mp nd).1 (Xj hv).1,if_neg hk]
  simp
 |p::P,w::vs,i+1,m,nd,h1,h2,hk=>by
  unfold bindC;exact wz (uj.mp nd).2 (h1:) (h2:) hk
def start(N:List Str)(vs:List V):St:=vs.map Z++tr (N.length-vs.length) Y
def yy(CX:CXT)(P:Da)(w:Cl)(K:BT)(mg:Str->Option B)(base:Do)(N:List Str)(qual:Str)(scope:Scope)(f:J)(cd:B)(A:Db)(outer:List Env)(s:ϋ)(H:Hp)(E:XK):Cx where
 prog:=P
 w:=w
 K:=K
 mg:=mg
 base:=base
 A:=A.deeper (envOfC qual scope s.heap.objs.size f cd)
 N:=N
 s₀:=s
 ba:=H
 env:=envOfC qual scope s.heap.objs.size f cd
 outer:=outer
 stack:=envOfC qual scope s.heap.objs.size f cd::outer
 ex:=[]
 calm:=O
 fn:=λ_=>O
 pn:=[]
 xe:=λe s'=>wpAny (model P w) (A.deeper (envOfC qual scope s.heap.objs.size f cd)) (leaving (envOfC qual scope s.heap.objs.size f cd) e) (λ_ g=>CX outer H s E e g) (λq g=>CX outer H s E q g) s'
variable{sc:Scope}
theorem Az(h:sc.names.lookup x=Z .cell):∃c,(cellsFrom n sc.names []).lookup x=Z c:=by
 have q:=W.cellsFrom_some sc.names n [] (.inl h);exact Ll.mp q
variable{qual:Str}{scope:Scope}
theorem Gh{K:BT}{E:XK}
  (S:aG N ps scope) (hd:A.handled=Y) (g:CG P w K mg base A outer s H) (hl:vs.length=ps.length) (r:Vals vs us)
  (x:InCallC s s.heap.objs.size (bindL (envOfC qual scope s.heap.objs.size f cd).kindOf (ps.zip us) λ_=>Y) (cellsFrom (s.heap.objs.size+1) scope.names []) (bindC (envOfC qual scope s.heap.objs.size f cd).kindOf (ps.zip us) λ_=>Y) s1):
  Inv (yy CX P w K mg base N qual scope f cd A outer s H E) [] (start N vs) H s1:=by
 have ar:ps.length<=N.length:=by have:=congrArg Ez S.pre;rw[p7]at this;lia
 let(h1,tk,U,hk):=x.done;have Q:∀b,b ∉ (yy CX P w K mg base N qual scope f cd A outer s H E).ex:=λb z=>absurd (show b∈([])from z) ad
 refine((g.mod,S.kind,U,U,ka _,λy z c h1 h2=>?_,λy hy=>?_,λy c _ h=>?_,λ_=>hd,Around.frames_deeper g.frames,.inr (U,U),λb z=>absurd z (Q b),g.bs,g.bsz,λb _ _=>Q b,λb z=>absurd z (Q b),g.qJ,g.frf),
  rfl,g.bare,Un.kept hk,(_,x.toInCall.ns,λi y v h1 h2 h3=>?_),λy c h=>(_,x.cell y c h),g.hok.fresh (ka _),λy c h=>?_,λp hp=>absurd (show p∈([])from hp) ad,g.hok.kept hk,?_)
 ·exact name_of_addr x.apart (PySem.mem_of_lookup h1) (PySem.mem_of_lookup h2)
 ·obtain hy|hy:=hy
  ·exact Az hy
  ·exact absurd U (S.Ry _ (PySem.mem_of_lookup hy))
 ·exact uE (x.above y c (PySem.mem_of_lookup h))
 ·have hi:i<vs.length:=by
   unfold start at h2;by_cases hi:i<vs.length
   ·exact hi
   ·rw[uD (hi:)]at h2
    rw[Yd]at h2
    split at h2 <;> cases h2
  have ha:vs[i]?=Z v:=by
   unfold start at h2;rw[ui (hi:),fy]at h2
   cases e:vs[i]? with
   |none=>rw[e]at h2;cases h2
   |some a=>rw[e]at h2;cases h2;rfl
  let(u,hu,rv):=r.get ha;have hp:ps[i]?=Z y:=by
   rw[<- S.pre,X9 al];exact h1
  have ak:ps.Nodup:=by rw[<- S.pre];exact S.nd.sublist (WY _ _)
  refine(u,rv,?_);obtain k|k:=S.par y (gV hp)
  ·exact .inl (k,wx ak hp hu k)
  ·let(c,e):=Az k;refine .inr (.inl k,c,e,?_);have q:=x.cell y c e;rw[wz ak hp hu (by show scope.names.lookup y≠_;rw[k];decide)]at q
   exact q
 ·exact g.hok.fresh (uE (x.above y c (PySem.mem_of_lookup h)))
 ·unfold start;show _=N.length;rw[i5,cO,XA]
  lia
variable{name:Str}{pm:B}{ct:B}{oc:B}{an:Option J}{od:Option J}
theorem U3{K:BT}{dV kV doc cdv:B}
  (lk:K.lookup f=Z (oc,od,.func (W.fnOf name qual params body scope dV kV doc pm an cdv ct),osl)) (ak:W.codeIn K cdv qual=O) (S:aG N ps scope)
  (len:∀vs H Q E,sp vs H Q E->vs.length=ps.length)
  (t7:∀(A:Db)(outer:List Env)(s:ϋ)(H:Hp)(vs:List V)(Q:VK)(E:XK),eC k (A.deeper (envOfC qual scope s.heap.objs.size f cdv))->sp vs H Q E ->
   ∃ t,PSs (yy CX P w K mg base N qual scope f cdv A outer s H E) body t/\t {nx:=λ_ H'=>Q .non H',rt:=Q} (start N vs) H):
  bf P w K mg base CX (k+1) f (W.fnOf name qual params body scope dV kV doc pm an cdv ct) ps sp:=by
 refine(len,λA outer s H args us vs Q E hr e0 hb r z=>?_)
 have hl:=len _ _ _ _ z;have KX:=e0.mod.kin.keeps λb o e=>(e0.bs b o e).1
 have lim:=e0.mod.nolimit.keeps λb o e=>(e0.bs b o e).1
 have hV:∀y∈ps.zip us,scope.names.lookup y.1=Z .local\/(scope.names.lookup y.1=Z .cell/\((cellsFrom (s.heap.objs.size+1) scope.names []).lookup y.1).isSome=O):=λ(n,v) hy=>by
  obtain q|q:=S.par n (Xj hy).1
  ·exact .inl q
  ·exact .inr (q,W.cellsFrom_some _ _ _ (.inl q))
 refine codeAny_call_function hr.depth (KX _ _ lk) U S.co S.gen U (W.codeRec_of KX ak) (hb _ _ _ _ (wpAny_newFunctionEnv_cells S.kind hV λenv he s1 x=>?_))
 subst he;refine(lim.keeps x.toInCall.keep,codeAny_func ?_);let(t,ht,hq):=t7 A outer s H vs Q E (hr.deeper _) z;have I:Inv (yy CX P w K mg base N qual scope f cdv A outer s H E) [] (start N vs) H s1:=Gh S hr.hd e0 hl r x;refine QH (ht [] s1 (start N vs) H _ I hq) (λfl s' hs=>?_) λe s' hs=>hs
 have fin:∀{g:St}{H':Hp}{v:V}{u:B},Inv (yy CX P w K mg base N qual scope f cdv A outer s H E) [] g H' s'->RelV v u->Q v H'->CE outer P w H s Q u s':=
  λ{g H' v u} Zb rv q=>(v,H',Zb.os,Zb.bare,Zb.base,Zb.hok,rv,q)
 cases fl with
 |ret u =>
  let(v,g,H',Zb,rv,q):=hs;exact fin Zb rv q
 |next =>
  let(g,H',Zb,q):=hs;exact fin (v:=V.non) Zb U q
 |brk =>
  let(_,_,_,q):=hs;exact False.elim q
 |cont =>
  let(_,_,_,q):=hs;exact False.elim q
section
variable{p pos:Pos}{t:TA}{id T:String}{r:List V->Hp->VK->Prop}
def tCB(r:List V->Hp->VK->Prop)(t:TA):TE:=λσ H Q=>t σ H λvs H1=>r vs H1 Q
def sW(P:cx X (.builtin id) r)(hg:Gl X x)(hm:X.mg x=Y)(hv:bootBuiltins x=Z (.builtin id))(ha:PA X (e::es) t)(hn:autoParam (x ≠ "__name__") zdc._auto_1)(q:autoParam (AS x) zdc._auto_1)
  (he:‹AC X e es›) (g:‹AM X pos es›):PE X (.Call (.Name x p) (e::es) [] pos) (tCB r t):=by
 left;exact GN (dE I hg hm hv (PyProof.Rows.callWith_builtin1 (thn (ha pos gd s σ H _ I h) λus s1 (vs,H1,V,z,K)=>P gd s1 σ H1 vs us Q V z K) he g) hn q)
def vU(P:cx X (.type T) r)(hg:Gl X x)(hm:X.mg x=Y)(hv:bootBuiltins x=Z (.type T))(ha:PA X (e::es) t)(hn:autoParam (x ≠ "__name__") zdc._auto_1)(q:autoParam (AS x) zdc._auto_1)
  (he:‹AC X e es›) (g:‹AM X pos es›):PE X (.Call (.Name x p) (e::es) [] pos) (tCB r t):=by
 left;exact GN (dE I hg hm hv (PyProof.Rows.callWith_type1 (thn (ha pos gd s σ H _ I h) λus s1 (vs,H1,V,z,K)=>P gd s1 σ H1 vs us Q V z K) he g) hn q)
end
end L2
namespace HT
open PySem PyProof.Rows
section
variable{prog:Da}{w:Cl}{A:Db}{E:B->ϋ->Prop}{s:ϋ}
def OB{vs ws:List B}{Q:B->ϋ->Prop}(ht:IsTup s.heap t vs.toArray)(hb:IsTup s.heap b ws.toArray)(hv:vs ≠ [])
  (h1:ws=[]->Q (.ref t) s) (h2:ws ≠ []->Q (.ref s.heap.objs.size) {s with heap:=s.heap.push {cls:=.type "tuple",data:=.seq (vs++ws).toArray}})
  (hsz:vs.length+ws.length<=kf):wpAny (model prog w) A (binaryOp .Add (.ref t) (.ref b)) Q E s:=by
 let((cls,dd,data,sl),ho,V,n,hd):=id ht;let((Ws,K,data2,q),g,z,P,hd2):=id hb;simp only at V hd z hd2;subst V hd z hd2;have e:vs.toArray++ws.toArray=(vs++ws).toArray:=by simp
 by_cases hw:ws=[]
 ·exact concat_meets (_,ho,U) (_,g,U) noFill_tuple_add seq_tuple_add PySem.F.slot_tuple_add PySem.F.entry_tuple_add (PySem.F.args_tuple_add_2 _ _)
   (tuple_addW1 t b vs.toArray ws.toArray n P dd K sl q (hv:) (by simp[hw])) (ho,g,h1 hw)
 ·refine concat_meets (_,ho,U) (_,g,U) noFill_tuple_add seq_tuple_add PySem.F.slot_tuple_add PySem.F.entry_tuple_add (PySem.F.args_tuple_add_2 _ _)
   (tuple_addW2 t b vs.toArray ws.toArray n P dd K sl q (hv:) (hw:) (by exact hsz)) (ho,g,?_)
  rw[e];exact h2 hw
def sIx(n d:Nat):Option Int->Nat
 |none=>d
 |some v=>if v<0 then(v+(n:Int)).toNat else min v.toNat n
def HK(n d:Nat):sIx n d Y=d:=rfl
def Mv(n d k:Nat):sIx n d (Z (k:Int))=min k n:=by
 show(if(k)<0 then((k)+(n:Int)).toNat else min (k:Int).toNat n)=min k n
 rw[if_neg al,Tn]
def U9(a:Int)(n:Nat)(h0:0<=a):min a (n:Int)=((min a.toNat n:Nat):Int):=by
 by_cases h:a<=n
 ·rw[Int.min_eq_left h,OW (YL.mpr h),V5 h0]
 ·have h':=Int.le_of_lt (Int.not_le.mp h);rw[Int.min_eq_right h',Nat.min_eq_right ((Int.le_toNat h0).mpr h')]
def Hr(n:Nat)(i:Int)(h:i<0):max 0 (min (i+(n:Int)) n)=((i+n).toNat:Int):=by
 rw[Int.min_eq_left (Int.add_le_of_le_sub_right (by rw[Int.sub_self];exact Int.le_of_lt h)),Int.max_comm,Int.ofNat_toNat]
def Hq(n:Nat)(i:Int)(h:¬ i<0):max 0 (min i (n:Int))=((min i.toNat n:Nat):Int):=by
 rw[U9 i n (Int.not_lt.mp h),Int.max_eq_right (W7 _)]
def Er(v:Int)(n d:Nat):(if v<0 then max (v+(n:Int)) 0 else min v (n:Int))=((sIx n d (Z v):Nat):Int):=by
 show(if v<0 then max (v+(n)) 0 else min v (n))=(((if v<0 then(v+(n)).toNat else min v.toNat n)))
 by_cases hv:v<0
 ·rw[if_pos hv,if_pos hv];exact(Int.ofNat_toNat _).symm
 ·rw[if_neg hv,if_neg hv];exact U9 v n (Int.not_lt.mp hv)
def Cy(lo hi:Option Int)(n:Nat):Builtin.Slice.sliceAdjust lo hi 1 (n:Int)=(((sIx n 0 lo:Nat):Int),((sIx n n hi:Nat):Int)):=by
 have h1:=by omega
 unfold Builtin.Slice.sliceAdjust;refine Prod.ext ?_ ?_
 ·cases lo with
  |none=>rfl
  |some v=>exact Er v n 0
 ·cases hi with
  |none=>rfl
  |some v=>exact Er v n n
def BO(i j:Nat):Builtin.Slice.slicePlaces (i:Int) (j:Int) 1=j-i:=by
 unfold Builtin.Slice.slicePlaces;have h1:(1:Int) > 0:=al
 simp only[h1,if_true,Int.ediv_one]
 split <;> lia
def sr{o:Option Int}{Q:Option Int->ϋ->Prop}(p:IsPart v o)(h:Q o s):wpAny (model prog w) A (Builtin.Slice.slicePartIndex v) Q E s:=by
 cases p with
 |none=>exact slicePart_none h
 |int i t=>exact slicePart_int h
def gY{K z:B}{lo hi:Option Int}{n:Nat}{Q:Int×Int×Nat->ϋ->Prop}(hs:s.heap.IsSliceOf sl K z .none)(P:IsPart K lo)(pu:IsPart z hi)
  (h:Q (((sIx n 0 lo:Nat):Int),1,sIx n n hi-sIx n 0 lo) s):wpAny (model prog w) A (Builtin.Slice.sliceApplied (.ref sl) (pure (n:Int))) Q E s:=by
 let(os,g,V,q):=id hs;refine dF (dF (wpAny_field g q (x:=K) U (dF (wpAny_field g q (x:=z) U (dF (wpAny_field g q U (kb ?_)))))));refine dF (slicePart_none ?_);refine dF (sr P (dF (sr pu (dF (kb ?_)))));show wpAny _ _ (match Builtin.Slice.sliceAdjust lo hi 1 (n)with|(lo,hi)=>pure (Prod.mk lo (Prod.mk (1:Int) (Builtin.Slice.slicePlaces lo hi 1)))) _ _ s
 rw[Cy lo hi n];show wpAny _ _ (pure (Prod.mk ((sIx n 0 lo):Int) (Prod.mk (1) (Builtin.Slice.slicePlaces ((sIx n 0 lo)) ((sIx n n hi)) 1)))) _ _ s;rw[BO];exact kb h
def Jk(xs:Array B)(i k:Nat):((AK k).filterMap λ(m:Nat)=>xs[((i:Int)+(m:Int)*1).toNat]?).toArray=((xs.toList.drop i).take k).toArray:=by
 have e:(λ(m:Nat)=>xs[((i)+(m:Int)*1).toNat]?)=λm=>xs[i+m]?:=by
  funext m
  have:((i)+(m:Int)*1).toNat=i+m:=al
  rw[this]
 rw[e]
 have:=pick_run xs i k
 rw[List.filterMap_map]at this;have g:((λx=>xs[x]?) ∘ λx=>i+x)=λm=>xs[i+m]?:=rfl
 rw[g]at this;rw[this]
def m5{items:Array B}{vl vu:B}{lo hi:Option Int}{Q:B->ϋ->Prop}(g:IsTup s.heap t items)(hs:s.heap.IsSliceOf sl vl vu .none)(pl:IsPart vl lo)(pu:IsPart vu hi)
  (hw:¬(sIx items.size 0 lo=0/\sIx items.size items.size hi=items.size))
  (h:Q (.ref s.heap.objs.size) {s with heap:=s.heap.push {cls:=.type "tuple",data:=.seq ((items.toList.drop (sIx items.size 0 lo)).take (sIx items.size items.size hi-sIx items.size 0 lo)).toArray}})
  (hsz:items.size<=kf):wpAny (model prog w) A (getItem (.ref t) (.ref sl)) Q E s:=by
 have UM:sizeOk (.seq ((items.toList.drop (sIx items.size 0 lo)).take (sIx items.size items.size hi-sIx items.size 0 lo)).toArray):=by
  show((items.toList.drop (sIx items.size 0 lo)).take (sIx items.size items.size hi-sIx items.size 0 lo)).toArray.size<=kf;rw[nP,p7,QX,W2];exact qR (qR (Ye _ _) (Y4 _ _)) hsz
 let(os,z,P,ak):=id hs;have V:s.TypeIs (.ref sl) "slice":=(os,z,P);unfold getItem
 try with_reducible refine CF ?_
 refine dF (wpAny_sequenceKey g.typeIs ac ?_)
 refine dF (wpAny_callSpecial?_slot g.typeIs PyProof.Rows.slot_tuple_getitem
  (yK PyProof.Rows.slot_tuple_getitem g.typeIs entry_tuple_getitem ?_ (args_tuple_getitem _ _)))
 show wpAny _ _ (Builtin.Tuple.tupleItemsOf (.ref t) >>= _) _ _ s;refine dF (tupleItemsOf_ g (dF (Lo V ?_)));refine dF (gY hs pl pu ?_);have K:¬((((sIx items.size 0 lo):Int)==0&&(1:Int)==1&&(sIx items.size items.size hi-sIx items.size 0 lo)==items.size)=O):=by
  intro q;rw[uB,uB]at q;have q1:=eq_of_beq q.1.1;have q2:=eq_of_beq q.2;exact hw (al,al)
 show wpAny _ _ (if(((sIx items.size 0 lo):Int)==0&&(1)==1&&(sIx items.size items.size hi-sIx items.size 0 lo)==items.size)=O then _ else _) _ _ s
 rw[if_neg K,Jk];exact dF (m:=Builtin.Tuple.tupleExact _) (W0 (kb (_,U,kb h)) UM)
end
end HT
namespace L2
open PySem PySem.Spec PyProof.Rows
abbrev TO:=St->Hp->(Option Int->Hp->Prop)->Prop
def PO(X:Cx)(e:Option Ev)(t:TO):Prop:=
 ∀(gd:List (J×Obj))(s:ϋ)(σ:St)(H:Hp)(Q:Option Int->Hp->Prop),Inv X gd σ H s->t σ H Q ->
  Ze X (evalPart e X.env) (λu s'=>∃o H',Inv X gd σ H' s'/\IsPart u o/\Q o H') X.xe s
def CV:TO:=λ_ H Q=>Q Y H
def O6(t:TE):TO:=λσ H Q=>t σ H λx H1=>∃i,x=.int i/\Q (Z i) H1
variable{us:List B}
section
variable{X:Cx}{e:Ev}{te:TE}{lo hi:Option Ev}{tl th:TO}{pos p2:Pos}
def Nf:PO X Y CV:=by
 left;exact kb (Y,H,I,.none,h)
def xI(h:PE X e te):PO X (Z e) (O6 te):=by
 intro gd s σ H Q I hw;refine thn (h gd s σ H _ I hw) λu s1 g=>?_
 let(x,H1,P,z,K):=g;let(i,U,q):=K;let(t,U):=z;exact(Z i,H1,P,.int i t,q)
def SlR(X:Cx)(r:V->Option Int->Option Int->Hp->VK->Prop):Prop:=
 ∀(gd:List (J×Obj))(s:ϋ)(σ:St)(H:Hp)(x:V)(v q g:B)(lo hi:Option Int)(sl:J)(Q:VK),Inv X gd σ H s->RelV x v->s.heap.IsSliceOf sl q g .none->IsPart q lo->IsPart g hi->r x lo hi H Q ->
  ∃T id,typeLookup (.type T) "__getitem__"=pure (Z (.builtin id))/\s.TypeIs v T/\Ze X (getItem v (.ref sl)) (EP X gd σ Q) X.xe s
def SlR.or(h:SlR X r)(h':SlR X P):SlR X (λx lo hi H Q=>r x lo hi H Q\/P x lo hi H Q):=by
 intro gd s σ H x v z g lo hi sl Q I K hs pl pu q;obtain q|q:=q
 ·exact h gd s σ H x v z g lo hi sl Q I K hs pl pu q
 ·exact h' gd s σ H x v z g lo hi sl Q I K hs pl pu q
def tSl(r:V->Option Int->Option Int->Hp->VK->Prop)(te:TE)(tl th:TO):TE:=λσ H Q=>te σ H λx H1=>tl σ H1 λl H2=>th σ H2 λu g=>r x l u g Q
def zy(hr:SlR X r)(he:PE X e te)(hl:PO X lo tl)(hu:PO X hi th):PE X (.Subscript e (.Slice lo hi Y p2) pos) (tSl r te tl th):=by
 left;refine Subscript_ (thn (he gd s σ H _ I h) λv s1 (x,H1,I1,r1,q1)=>(wpAny_Slice (thn (hl gd s1 σ H1 _ I1 q1) λz s2 (l,H2,I2,pl,q2)=>thn (hu gd s2 σ H2 _ I2 q2) λg s3 K=>?_)))
 let(u,P,I3,pu,q3):=K;refine kb ?_;have I4:Inv X gd σ P {s3 with heap:=s3.heap.push {cls:=.type "slice",data:=.fields #[z,g,.none]}}:=I3.kept λb ob q=>fC _ q
 let(T,id,hT,ht,hg):=hr gd {s3 with heap:=s3.heap.push {cls:=.type "slice",data:=.fields #[z,g,.none]}} σ P x v z g l u s3.heap.objs.size Q I4 r1 (Heap.IsSliceOf.new ..) pl pu q3
 exact tail_any ht hT hg (by with_unfolding_all rfl)
def nE(xs:List V)(lo hi:Option Int):List V:=(xs.drop (HT.sIx xs.length 0 lo)).take (HT.sIx xs.length xs.length hi-HT.sIx xs.length 0 lo)
def qf(xs:List V)(lo hi:Option Int):(nE xs lo hi).length<=xs.length:=by
 unfold nE;rw[p7,QX];exact qR (Ye _ _) (Y4 _ _)
inductive Vz(K:BT)(x:V)(lo:Option Int)(hi:Option Int)(H:Hp)(Q:VK):Prop
 |mk(a xs:_)(h1:x=.ref a)(h2:SqT K H a xs)(h3:¬(HT.sIx xs.length 0 lo=0/\HT.sIx xs.length xs.length hi=xs.length))(h4:∀p,H p=Y->Q (.ref p) (upd H p (.tup (nE xs lo hi))))
def Qg:SlR X (Vz X.K):=by
 intro gd s σ H x v vl vu lo hi sl Q I P hs V pu h;let(a,xs,U,hx,hw,q):=h;cases P;let(its,r,z,g):=I.tuple hx;have hlen:its.toArray.size=xs.length:=by exact r.length.symm
 refine("tuple",_,PyProof.Rows.slot_tuple_getitem.lookup,z.typeIs,(HT.m5 z hs V pu (by rw[hlen];exact hw) ?_ (by rw[hlen];exact g)))
 rw[hlen];refine(.ref s.heap.objs.size,_,I.laid (λb ob q=>fC _ q) (ka _) ?_,U,q _ (I.hok.fresh (ka _)))
 exact(qR (qf xs lo hi) g,_,(r.drop (HT.sIx xs.length 0 lo)).take (HT.sIx xs.length xs.length hi-HT.sIx xs.length 0 lo),lX.new _ _)
inductive TN(K:BT)(x:V)(y:V)(H:Hp)(Q:VK):Prop
 |mk(a b xs ys:_)(h1:x=.ref a)(h2:y=.ref b)(h3:SqT K H a xs)(h4:SqT K H b ys)(h5:xs ≠ [])(h6:xs.length+ys.length<=kf)(h7:(ys=[]->Q (.ref a) H))(h8:(ys ≠ []->∀p,H p=Y->Q (.ref p) (upd H p (.tup (xs++ys)))))
def Vals.iO(r:Vals xs us):us=[] ↔ xs=[]:=by
 cases r with
 |nil=>simp
 |cons _ _=>simp
def NF:OpR X (binaryOp .Add) (TN X.K):=by
 intro gd s σ H x y v u Q I rx ry h;let(a,b,xs,ys,U,U,ha,hb,hx,V,q1,q2):=h;cases rx;cases ry;let(its,P,p1,_):=I.tuple ha;let(eT,g,p2,_):=I.tuple hb;exact HT.OB p1 p2 (λz=>hx (P.iO.mp z)) (λz=>(.ref a,H,I,U,q1 (g.iO.mp z))) (λz=>(.ref s.heap.objs.size,_,I.laid (t':=s.toks) (o:=.tup (xs++ys)) (λb ob q=>fC _ q) (ka _) (by rw[i5];exact V,_,P.append g,lX.new _ _),U,q2 (λw=>z (g.iO.mpr w)) _ (I.hok.fresh (ka _)))) (by rw[<- P.length,<- g.length];exact V)
end
def ixN(n:Nat)(i:Int):Option Nat:=if 0<=i then(if i<n then Z i.toNat else Y)else if -(n:Int)<=i then Z (i+n).toNat else Y
def atI{α:Type}(xs:List α)(i:Int):Option α:=(ixN xs.length i).bind λj=>xs[j]?
variable{n:Nat}{j:Nat}
def DT(h:ixN n i=Z j):seqIndex? i n=Z j/\j<n /\ -(n:Int)<=i/\i<n:=by
 unfold ixN at h;by_cases h0:0<=i
 ·rw[if_pos h0]at h;by_cases h1:i<n
  ·rw[if_pos h1]at h;have e:=Option.some.inj h;exact(by rw[seqIndex_of h0 h1,e],al,al,h1)
  ·rw[if_neg h1]at h;cases h
 ·rw[if_neg h0]at h;by_cases h1:-(n)<=i
  ·rw[if_pos h1]at h;have e:=Option.some.inj h;exact(by rw[seqIndex_neg al h1,e],al,h1,al)
  ·rw[if_neg h1]at h;cases h
def yE{xs:List α}(h:atI xs i=Z v):∃j,seqIndex? i xs.length=Z j/\xs[j]?=Z v/\j<xs.length /\ -(xs.length:Int)<=i/\i<xs.length:=by
 unfold atI at h;cases e:ixN xs.length i with
 |none=>rw[e]at h;cases h
 |some j =>
  rw[e]at h;let(h1,h2,h3,h4):=DT e;exact(j,h1,h,h2,h3,h4)
def bc{xs:List α}(h:xs[j]?=Z v):atI xs (j:Int)=Z v:=by
 have g:=(g5.mp h).1;have e:ixN xs.length (j)=Z j:=by
  unfold ixN;rw[if_pos al,if_pos al];simp
 unfold atI;rw[e];exact h
def kF(b:Ev):Prop:=∀o i,subscripted b ϊ o i=operate [o,i] (getItem o i)
def IxR(X:Cx)(r:R2):Prop:=
 ∀(value slice:Ev)(gd:List (J×Obj))(s:ϋ)(σ:St)(H:Hp)(x y:V)(v u:B)(Q:VK),Inv X gd σ H s->RelV x v->RelV y u->r x y H Q ->
  subscripted slice ϊ v u=operate [v,u] (getItem v u)->Ze X (subscriptTail value slice v u) (EP X gd σ Q) X.xe s
def MtR(X:Cx)(id:String)(r:V->List V->Hp->VK->Prop):Prop:=
 ∀(gd:List (J×Obj))(s:ϋ)(σ:St)(H:Hp)(x:V)(xs:List V)(v:B)(us:List B)(Q:VK),Inv X gd σ H s->RelV x v->Vals xs us->r x xs H Q ->
  Ze X (call (.builtin id) (v::us)) (EP X gd σ Q) X.xe s
variable{gd:List (J×Obj)}{H:Hp}{its:List B}{A:Db}{y:V}{u:B}{r:List V->Hp->VK->Prop}
section
variable{X:Cx}{a b:Ev}{ta tb:TE}{pos:Pos}
def IxR.or{r K:R2}(h:IxR X r)(h':IxR X K):IxR X (λx y H Q=>r x y H Q\/K x y H Q):=by
 intro value slice gd s σ H x y v u Q I z g q hs;obtain q|q:=q
 ·exact h value slice gd s σ H x y v u Q I z g q hs
 ·exact h' value slice gd s σ H x y v u Q I z g q hs
def vT{r:R2}(hr:IxR X r)(ha:PE X a ta)(K:PE X b tb)(hs:kF b):PE X (.Subscript a b pos) (tOp r ta tb):=by
 left;exact Subscript_ (Sn ha K I h λv u s2 x y H2 P z g q=>hr a b gd s2 σ H2 x y v u Q P z g q (hs _ _))
inductive TJ(K:BT)(x:V)(y:V)(H:Hp)(Q:VK):Prop
 |mk(p xs i v:_)(h1:x=.ref p)(h2:y=.int i)(h3:SqL K H p xs)(h4:atI xs i=Z v)(h5:Q v H)
inductive TB(K:BT)(x:V)(y:V)(H:Hp)(Q:VK):Prop
 |mk(p xs i v:_)(h1:x=.ref p)(h2:y=.int i)(h3:SqT K H p xs)(h4:atI xs i=Z v)(h5:Q v H)
inductive TC(x:V)(y:V)(H:Hp)(Q:VK):Prop
 |mk(z i c:_)(h1:x=.str z)(h2:y=.int i)(h3:z.length<=kf)(h4:atI z.cps.toList i=Z c)(h5:Q (.str ⟨#[c]⟩) H)
def Oa:IxR X (TJ X.K):=by
 intro value slice gd s σ H x y v u Q I rx ry h hs;let(p,xs,i,z,U,U,hq,he,q):=h;cases rx;let(t,U):=ry;let(its,r,P,hz):=I.list hq;let(j,h1,h2,h3,h4,h5):=yE he;let(w,ew,g):=r.get h2;have hl:=r.length;have hn:=iQ;have fin:EP X gd σ Q w s:=(z,H,I,g,q);by_cases h0:0<=i
 ·have V:=by
   rw[seqIndex_of h0 h5]at h1;exact Option.some.inj h1
  exact item_listR P.isList h0 al (by rw[V];simpa using ew) fin hs
 ·have V:(i+(its.toArray.size)).toNat=j:=by
   rw[seqIndex_neg al h4]at h1
   rw[nP,<- hl];exact Option.some.inj h1
  exact subscriptTail_builtinR P.isList.typeIs slot_list_getitem.lookup
   (wpAny_getItem_list_neg P.isList al (by rw[nP] <;> lia) al (by rw[V];simpa using ew) (U,fin)) hs
def RT:IxR X (TB X.K):=by
 intro value slice gd s σ H x y v u Q I rx V h hs;let(p,xs,i,z,U,U,hq,he,q):=h;cases rx;let(t,U):=V;let(its,r,P,hz):=I.tuple hq;let(j,h1,h2,h3,h4,h5):=yE he;let(w,ew,g):=r.get h2;have hl:=r.length;have hn:=iQ;have fin:EP X gd σ Q w s:=(z,H,I,g,q);exact subscriptTail_builtinR P.typeIs slot_tuple_getitem.lookup
  (getItem_tuple P al al (by rw[nP,<- hl];exact h1) (ew:) (U,fin)) hs
def RU:IxR X TC:=by
 intro value slice gd s σ H x y v u Q I K g h hs;let(z,i,c,U,U,hz,he,q):=h;let(t,U):=K;let(t',U):=g;let(j,h1,h2,h3,h4,h5):=yE he;have hl:z.cps.toList.length=z.length:=by simp[Str.length]
 rw[hl]at h1 h4 h5;have hn:=iQ;exact tail_any (typeIs_str s z t) slot_str_getitem.lookup (getItem_str (by
  have V:decide (i < -(2 ^ 63))=false:=decide_eq_false al
  have P:decide (i ≥ 2 ^ 63)=false:=decide_eq_false al
  rw[V,P,Bool.or_false]) (by rw[h1];simpa using h2) (.str ⟨#[c]⟩,H,I.tok _,(_,U),q)) hs
def rIx(K:BT):R2:=λx y H Q=>TJ K x y H Q\/TB K x y H Q\/TC x y H Q
def Cc:IxR X (rIx X.K):=Oa.or (RT.or RU)
def B3(its:List B)(n j:Nat)(u:B):Lp (·.setIfInBounds j u) (its.toArray^^^n)=((its.set j u).toArray^^^n):=by
 simp[Lp]
theorem Inv.lst{σ:St}(I:Inv X gd σ H s)(h:H p=Z (.lst xs)):
  ∃(its:List B)(n:Nat),Vals xs its/\s.heap.get? p=Z (its.toArray^^^n)/\xs.length<=kf:=by
 let(z,its,n,r,e):=I.hok p _ h;exact(its,n,r,e,z)
def Inv.RA{σ:St}{s:ϋ}{p:J}{xs ys:List V}{g:List B}{z:Nat}{f:Obj->Obj}(I:Inv X gd σ H s)(h:H p=Z (.lst xs))
  (ho:s.heap.get? p=Z (its.toArray^^^n)) (hf:f (its.toArray^^^n)=(g.toArray^^^z)) (r:Vals ys g) (K:ys.length<=kf) (t:Nat):
  Inv X gd σ (upd H p (.lst ys)) {s with heap:=s.heap.update p f,toks:=t}:=by
 have e:(s.heap.update p f).get? p=Z (g.toArray^^^z):=by
  rw[Fq f ho (by rw[hf] <;> rfl),hf]
 exact I.write (x:=p) (e:=p) (by rw[h];trivial) (.inl U) (λb u P q=>(EA _ _ (Ne.symm P)).trans q) (_,e) (K,g,z,r,e)
inductive HZ(o:V)(i:V)(v:V)(H:Hp)(Q:(Hp->Prop)):Prop
 |mk(p xs k j:_)(h1:o=.ref p)(h2:i=.int k)(h3:H p=Z (.lst xs))(h4:ixN xs.length k=Z j)(h5:Q (upd H p (.lst (xs.set j v))))
theorem set_list:SM X HZ:=by
 intro gd s σ H o i v ov iv u Q I z K rv h;let(p,xs,k,j,U,U,hp,V,q):=h;cases z;let(t,U):=K;let(its,n,r,ho,P):=I.lst hp;let(h1,h2,h3,h4):=DT V;have hl:=r.length;have hn:=iQ;have g:=
  I.RA hp ho (B3 its n j u) (r.set rv j) (by rw[WE];exact P) s.toks
 by_cases h0:0<=k
 ·have hk:=by
   rw[seqIndex_of h0 h4]at h1;exact Option.some.inj h1
  exact W.ki_setAt ho h0 al (by rw[nP,<- hl];exact h4) (by rw[hk];exact(_,g,q))
 ·have hk:(k+(its.toArray.size)).toNat=j:=by
   rw[seqIndex_neg al h3]at h1
   rw[nP,<- hl];exact Option.some.inj h1
  exact W.ki_setBack ho al (by rw[nP,<- hl];exact h3) al (by rw[hk];exact(_,g,q))
def wX(lo hi:Option Int)(n:Nat):(sliceBounds lo hi Y n).1=((HT.sIx n 0 lo:Nat):Int)/\(sliceBounds lo hi Y n).2.1=((HT.sIx n n hi:Nat):Int)/\(sliceBounds lo hi Y n).2.2=1:=by
 refine(?_,?_,U)
 ·cases lo with
  |none=>simp[sliceBounds,HT.sIx]
  |some i =>
   simp only[sliceBounds,HT.sIx,YW,show(1:Int) > 0 by decide,if_true]
   by_cases h:i<0
   ·simp only[h,if_true] <;> first|exact HT.Hr _ _ h|omega
   ·simp only[h,if_false] <;> first|exact HT.Hq _ _ h|omega
 ·cases hi with
  |none=>simp[sliceBounds,HT.sIx]
  |some i =>
   simp only[sliceBounds,HT.sIx,YW,show(1:Int) > 0 by decide,if_true]
   by_cases h:i<0
   ·simp only[h,if_true] <;> first|exact HT.Hr _ _ h|omega
   ·simp only[h,if_false] <;> first|exact HT.Hq _ _ h|omega
def uV(its:List B)(lo hi:Option Int):slicePick its.toArray lo hi Y=((its.drop (HT.sIx its.length 0 lo)).take (HT.sIx its.length its.length hi-HT.sIx its.length 0 lo)).toArray:=by
 let(h1,h2,h3):=wX lo hi its.toArray.size;unfold slicePick;rw[h1,h2,h3];simp only[sliceRange_one,pick_run] <;> rfl
inductive Tx(K:BT)(x:V)(lo:Option Int)(hi:Option Int)(H:Hp)(Q:VK):Prop
 |mk(a xs:_)(h1:x=.ref a)(h2:SqL K H a xs)(h3:∀p,H p=Y->Q (.ref p) (upd H p (.lst (nE xs lo hi))))
def C4:SlR X (Tx X.K):=by
 intro gd s σ H x v vl vu lo hi sl Q I z hs P pu h;let(a,xs,U,hx,q):=h;cases z;let(its,r,g,V):=I.list hx;have hlen:=r.length;refine("list",_,slot_list_getitem.lookup,g.isList.typeIs,(wpAny_getItem_list_slice g.isList hs P pu .none ad ?_ (by rw[nP] <;> omega)))
 rw[uV,<- hlen];refine(.ref s.heap.objs.size,_,I.laid (λb ob q=>fC _ q) (ka _) ?_,U,q _ (I.hok.fresh (ka _)))
 exact(qR (qf xs lo hi) V,_,0,(r.drop (HT.sIx xs.length 0 lo)).take (HT.sIx xs.length xs.length hi-HT.sIx xs.length 0 lo),ke _ U)
def gh:V->Bool
 |.non=>O
 |.bl _=>O
 |.int _=>O
 |.str _=>O
 |_=>ϊ
def eqV:V->V->Bool
 |.non,.non=>O
 |.bl a,.bl b=>a==b
 |.bl a,.int b=>(if a then 1 else 0)==b
 |.int a,.bl b=>a ==(if b then 1 else 0)
 |.int a,.int b=>a==b
 |.str a,.str b=>a==b
 |_,_=>ϊ
def yu(q:RelV y u)(g:RelV x v)(z:gh y=O)(fx:gh x=O):SeqAt.EqAt A s u v (eqV y x):=by
 cases y with
 |non =>
  cases q;cases x with
  |non=>cases g;exact SeqAt.EqAt.same _
  |bl b=>cases g;exact SeqAt.EqAt.none_bool b
  |int b=>let(t,U):=g;exact SeqAt.EqAt.none_int b t
  |str b=>let(t,U):=g;exact SeqAt.EqAt.none_str b t
  |_=>exact absurd (fx) qr
 |bl a =>
  cases q;cases x with
  |non=>cases g;exact SeqAt.EqAt.bool_none a
  |bl b=>cases g;exact SeqAt.EqAt.bool_bool a b
  |int b=>let(t,U):=g;exact SeqAt.EqAt.bool_int a b t
  |str b=>let(t,U):=g;exact SeqAt.EqAt.bool_str a b t
  |_=>exact absurd (fx) qr
 |int a =>
  let(t',U):=q;cases x with
  |non=>cases g;exact SeqAt.EqAt.int_none a t'
  |bl b=>cases g;exact SeqAt.EqAt.int_bool a t' b
  |int b=>let(t,U):=g;exact SeqAt.EqAt.int_int a t' b t
  |str b=>let(t,U):=g;exact SeqAt.EqAt.int_str a t' b t
  |_=>exact absurd (fx) qr
 |str a =>
  let(t',U):=q;cases x with
  |non=>cases g;exact SeqAt.EqAt.str_none a t'
  |bl b=>cases g;exact SeqAt.EqAt.str_bool a t' b
  |int b=>let(t,U):=g;exact SeqAt.EqAt.str_int a t' b t
  |str b=>let(t,U):=g;exact SeqAt.EqAt.str_str a t' b t
  |_=>exact absurd (fx) qr
 |_=>exact absurd (z) qr
def eqU(x:V)(u:B):Bool:=match u with
 |.none=>eqV .non x
 |.bool b=>eqV (.bl b) x
 |.int i _=>eqV (.int i) x
 |.str z _=>eqV (.str z) x
 |_=>ϊ
def Kz(r:RelV y u)(f:gh y=O):eqU x u=eqV y x:=by
 cases y with
 |non=>cases r;rfl
 |bl b=>cases r;rfl
 |int i=>let(t,U):=r;rfl
 |str z=>let(t,U):=r;rfl
 |_=>exact absurd (f) qr
theorem nM:∀{xs:List V}{us:List B},Vals xs us->xs.all gh=O->us.any (eqU x)=xs.any λy=>eqV y x
 |_,_,.nil,_=>rfl
 |y::xs,u::us,.cons r t,f=>by
  rw[List.all_cons,uB]at f;rw[Xd,Xd,Kz r f.1,nM t f.2]
theorem jM(q:RelV x v)(fx:gh x=O):∀{xs:List V}{us:List B},Vals xs us->xs.all gh=O->∀u∈us,SeqAt.EqAt A s u v (eqU x u)
 |_,_,.nil,_=>λu g=>by cases g
 |y::xs,u::us,.cons r t,f=>λu' g=>by
  rw[List.all_cons,uB]at f;obtain rfl|g:=kO.mp g
  ·rw[Kz r f.1];exact yu r q f.1 fx
  ·exact jM q fx t f.2 u' g
def inV(x:V)(xs:List V):Bool:=xs.any λy=>eqV y x
inductive rIn(K:BT)(neg:Bool)(x:V)(y:V)(H:Hp)(Q:VK):Prop
 |mk(p xs:_)(h1:y=.ref p)(h2:(SqL K H p xs\/SqT K H p xs))(h3:gh x=O)(h4:xs.all gh=O)(h5:Q (.bl (if neg then !inV x xs else inV x xs)) H)
def FR:OpR X (compareOp .In) (rIn X.K ϊ):=by
 intro gd s σ H x y v u Q I z P h;let(p,xs,U,hq,fx,fs,q):=h;cases P;obtain hq|hq:=hq
 ·let(its,r,g,V):=I.list hq;refine SeqAt.in_listAt (eqU x) g.isList (λw hw=>jM z fx r fs w (hw:)) (.bl _,H,I,U,?_)
  rw[show its.toArray.any (eqU x)=its.any (eqU x)by simp,nM r fs]
  exact q
 ·let(its,r,g,V):=I.tuple hq;refine SeqAt.in_tupleAt (eqU x) g (λw hw=>jM z fx r fs w (hw:)) (.bl _,H,I,U,?_)
  rw[show its.toArray.any (eqU x)=its.any (eqU x)by simp,nM r fs]
  exact q
def xP:OpR X (compareOp .NotIn) (rIn X.K O):=by
 intro gd s σ H x y v u Q I z P h;let(p,xs,U,hq,fx,fs,q):=h;cases P;obtain hq|hq:=hq
 ·let(its,r,g,V):=I.list hq;refine SeqAt.notIn_listAt (eqU x) g.isList (λw hw=>jM z fx r fs w (hw:)) (.bl _,H,I,U,?_)
  rw[show its.toArray.any (eqU x)=its.any (eqU x)by simp,nM r fs]
  exact q
 ·let(its,r,g,V):=I.tuple hq;refine SeqAt.notIn_tupleAt (eqU x) g (λw hw=>jM z fx r fs w (hw:)) (.bl _,H,I,U,?_)
  rw[show its.toArray.any (eqU x)=its.any (eqU x)by simp,nM r fs]
  exact q
def nH:cx X (.builtin "len") (λxs H Q=>∃p ys,xs=[.ref p]/\(SqL X.K H p ys\/SqT X.K H p ys)/\Q (.int ys.length) H):=by
 intro gd s σ H xs us Q I r h;let(p,ys,U,hq,q):=h;let(u,U,P):=vals1 r;cases P;have hn:=iQ;obtain hq|hq:=hq
 ·let(its,g,z,V):=I.list hq;have hlen:=g.length;exact Calls.call_len_list z.isList (by rw[nP,<- hlen];exact we (by assumption)) (.int ys.length,H,I.tok _,(s.toks+1,by rw[nP,hlen]),q)
 ·let(its,g,z,V):=I.tuple hq;have hlen:=g.length;exact len_tuple z (by rw[nP,<- hlen];exact we (by assumption)) (.int ys.length,H,I.tok _,(s.toks+1,by rw[nP,hlen]),q)
def yB:cx X (.builtin "len") (λxs H Q=>∃z,xs=[.str z]/\z.length<=kf/\Q (.int z.length) H):=by
 intro gd s σ H xs us Q I r h;let(z,U,g,q):=h;let(u,U,t,U):=vals1 r;have hn:=iQ;exact len_str al (.int z.length,H,I.tok _,(_,U),q)
def cx.or(h:cx X f r)(h':cx X f g):cx X f (λxs H Q=>r xs H Q\/g xs H Q):=by
 intro gd s σ H xs us Q I rs q;obtain q|q:=q
 ·exact h gd s σ H xs us Q I rs q
 ·exact h' gd s σ H xs us Q I rs q
def yA:cx X (.type "list") (λxs H Q=>∃ p ys,xs=[.ref p]/\(SqL X.K H p ys\/SqT X.K H p ys)/\∀l,H l=Y->Q (.ref l) (upd H l (.lst ys))):=by
 intro gd s σ H xs us Q I r h;let(p,ys,U,hq,q):=h;let(u,U,rx):=vals1 r;cases rx;have fin:∀its,Vals ys its->ys.length<=kf->∀h' P,(∀b o',s.heap.get? b=Z o'->h'.get? b=Z o') ->
   h'.get? s.heap.objs.size=Z {cls:=.type "list",dict:=Y,data:=.seq its.toArray P,slots:=#[]}->EP X gd σ Q (.ref s.heap.objs.size) {s with heap:=h'}:=λits g z h' P kp e =>
  (.ref s.heap.objs.size,_,I.laid kp (ka _) (show c9 X.prog X.w _ h' _ (.lst ys)from(z,its,P,g,e)),U,q _ (I.hok.fresh (ka _)))
 obtain hq|hq:=hq
 ·let(its,g,V,z):=I.list hq;have hlen:=g.length;let(o,ho,hc,n,hd):=V.isList;exact call_list_seq p (.inl U) ho hc hd (λh' P kp e=>fin its g z h' P kp e) (by rw[nP,<- hlen];exact z)
 ·let(its,g,V,z):=I.tuple hq;have hlen:=g.length;let(o,ho,hc,n,hd):=V;exact call_list_seq p (.inr U) ho hc hd (λh' P kp e=>fin its g z h' P kp e) (by rw[nP,<- hlen];exact z)
def vy:cx X (.type "tuple") (λxs H Q=>∃p ys,xs=[.ref p]/\((SqL X.K H p ys/\∀l,H l=Y->Q (.ref l) (upd H l (.tup ys)))\/(SqT X.K H p ys/\Q (.ref p) H))):=by
 intro gd s σ H xs us Q I r h;let(p,ys,U,h):=h;let(u,U,rx):=vals1 r;cases rx;obtain⟨hq,q⟩|⟨hq,q⟩:=h
 ·let(its,g,z,P):=I.list hq;have hlen:=g.length;refine call_tuple_list z.isList (λh' kp=>?_) (by rw[nP,<- hlen];exact P)
  have V:=I.kept (t':=s.toks) kp;have I2:=
   V.laid (t':=s.toks) (λb o e=>fC _ e) (ka _) (show c9 X.prog X.w _ _ _ (.tup ys)from(P,its,g,lX.new _ _))
  exact(.ref h'.objs.size,_,I2,U,q _ (V.hok.fresh (ka _)))
 ·let(its,g,z,P):=I.tuple hq;exact call_tuple_same z (.ref p,H,I,U,q)
def tyV(K:BT)(T:String)(x:V)(H:Hp):Prop:=match x with
 |.str _=>T="str"
 |.int _=>T="int"
 |.ref p=>(T="list" /\ ∃xs,SqL K H p xs)\/(T="tuple" /\ ∃o,K.lookup p=Z o/\o.cls=.type "tuple" /\ o.dict=Y) \/
   (T="dict" /\ ((∃kvs,H p=Z (.dK kvs))\/∃kvs,H p=Z (.dT kvs)))\/(T="set" /\ ∃S n,H p=Z (.set S n))
 |_=>False
def Hb{σ:St}(I:Inv X gd σ H s)(r:RelV x v)(ty:tyV X.K T x H):
  s.TypeIs v T/\∀a,v=.ref a->∃ob,s.heap.get? a=Z ob/\ob.dict=none:=by
 cases x with
 |str z =>
  let(t,U):=r
  cases(ty)
  exact(typeIs_str s z t,λ_ e=>nomatch e)
 |int i =>
  let(t,U):=r
  cases(ty)
  exact(typeIs_int s i t,λ_ e=>nomatch e)
 |ref p =>
  cases r;obtain⟨rfl,xs,hq⟩|⟨rfl,o,hk,P,hd⟩|⟨rfl,hk⟩|⟨rfl,S,n,hk⟩:=ty
  ·let(its,_,q,_):=I.list hq;refine(q.isList.typeIs,λa e=>?_)
   cases e;let(o,n,e,c,hd,_):=q;exact(o,e,hd)
  ·refine((o,I.kIn p o hk,P),λa e=>?_)
   cases e;exact(o,I.kIn _ o hk,hd)
  ·have z:∃o,s.heap.get? p=Z o/\o.ExactDict:=by
    obtain⟨kvs,hk⟩|⟨kvs,hk⟩:=hk
    ·let(_,_,_,_,o,_,_,e,ex,_):=I.hok p _ hk;exact(o,e,ex)
    ·let(_,_,_,_,o,_,_,e,ex,_):=I.hok p _ hk;exact(o,e,ex)
   let(o,e,ex):=z;refine((o,e,ex.1),λa g=>?_)
   cases g;exact(o,e,ex.2.1)
  ·let(o,_,_,_,e,ex,_):=I.hok p _ hk;refine((o,e,ex.1),λa g=>?_)
   cases g;exact(o,e,ex.2.1)
 |_=>exact False.elim ty
def L4(K:BT)(T:String)(r:V->List V->Hp->VK->Prop)(to:TE):TE:=λσ H Q=>to σ H λx H1=>tyV K T x H1/\r x [] H1 Q
def tBM(K:BT)(T:String)(r:V->List V->Hp->VK->Prop)(to:TE)(t:TA):TE:=λσ H Q=>to σ H λx H1=>tyV K T x H1/\t σ H1 λxs H2=>r x xs H2 Q
variable{o e:Ev}{es:List Ev}{to:TE}{t:TA}{name:Str}{apos aQ:Pos}{T id:String}{r:V->List V->Hp->VK->Prop}
def BS(pa:PlainAttrs T)(slot:Slot T name id)(g:typeOf (.builtin id)=pure (.type "method_descriptor"))(hm:MtR X id r)(ho:PE X o to)
  (cg:‹attributeBase o name X.env (eval o X.env)=eval o X.env›) (cf:‹(apos.endLine==aQ.line)=true›):PE X (.Call (.Attribute o name apos) [] [] aQ) (L4 X.K T r to):=by
 left;refine wpAny_Call_method0_late cg cf (thn (ho gd s σ H _ I h) λv s1 q=>?_)
 let(x,H1,P,z,ty,V):=q;let(h1,h2):=Hb P z ty;exact(T,id,pa,slot,g,h1,h2,Calls.callWith_builtin U (PySem.evalArgs_none (hm gd s1 σ H1 x [] v [] Q P z .nil V)))
def vV(pa:PlainAttrs T)(slot:Slot T name id)(g:typeOf (.builtin id)=pure (.type "method_descriptor"))(hm:MtR X id r)(ho:PE X o to)(ha:PA X (e::es) t)
  (cg:‹attributeBase o name X.env (eval o X.env)=eval o X.env›)
  (jT:‹((backTo aQ (kg (e::es) X.env)).all (λx=>!x.1)&&(backToKw aQ (keywordEach [] X.env)).all (λx=>x.1.isSome)
   && decide ((e::es).length+([]:List Keyword).length+(if([]:List Keyword).isEmpty then 0 else 1)<30))=true›)
  (cf:‹(apos.endLine==aQ.line)=true›) (hs:‹AC X e es›) (c8:‹AM X aQ es›):
  PE X (.Call (.Attribute o name apos) (e::es) [] aQ) (tBM X.K T r to t):=by
 left;refine wpAny_Call_method_late cg jT cf U (thn (ho gd s σ H _ I h) λv s1 q=>?_)
 let(x,H1,V,z,ty,q1):=q;let(h1,h2):=Hb V z ty;refine(T,id,pa,slot,g,h1,h2,?_);have P:=ha aQ gd s1 σ H1 _ V q1;rw[hs]at P ⊢;exact Calls.callWith_builtin (by show(ϊ ||(backTo aQ (kg es X.env)).any (·.1))=ϊ;rw[c8] <;> rfl) (Calls.evalArgs_plain (thn P λus s2 (vs,H2,I2,r2,q2)=>hm gd s2 σ H2 x vs v us Q I2 z r2 q2))
end
def MtM(X:Cx)(id:String)(r:V->List V->Hp->VK->Prop):Prop:=
 ∀(gd:List (J×Obj))(s:ϋ)(σ:St)(H:Hp)(x:V)(xs:List V)(v:B)(us:List B)(Q:VK),Inv X gd σ H s->RelV x v->Vals xs us->r x xs H Q ->
  Ze X (call (.builtin id) (v::us)) (EP X gd σ Q) X.xe s
def Vals.one:∀{x:V}{us:List B},Vals [x] us->∃u,us=[u]/\RelV x u:=by
 intro x us h;cases h with
 |cons r t=>cases t;exact(_,U,r)
theorem Vals.zero:∀{us:List B},Vals [] us->us=[]
 |_,.nil=>rfl
theorem Vals.dropLast(h:Vals xs us):Vals xs.dropLast us.dropLast:=by
 induction h with
 |nil=>exact .nil
 |cons r t g =>
  cases t with
  |nil=>exact .nil
  |cons q t'=>exact .cons r g
theorem Vals.reverse(h:Vals xs us):Vals xs.reverse us.reverse:=by
 induction h with
 |nil=>exact .nil
 |cons r t g=>rw[Xx,Xx];exact Vals.append g (.cons r .nil)
def Co(l:List α):l.eraseIdx (l.length-1)=l.dropLast:=by
 induction l with
 |nil=>rfl
 |cons a r g =>
  cases r with
  |nil=>rfl
  |cons b r =>
   have e:(a::b::r).length-1=((b::r).length-1)+1:=by
    rfl
   rw[e,List.eraseIdx_cons_succ,g]
   all_goals rfl
variable{t':Nat}
section
variable{X:Cx}{σ:St}{s:ϋ}{l:J}{xs ys:List V}
def Inv.NV{f:Array B->Array B}{t':Nat}(I:Inv X gd σ H s)(Q:H l=Z (.lst xs))
  (e:s.heap.get? l=Z (its.toArray^^^n)) (hf:f its.toArray=g.toArray) (hv:Vals ys g) (z:ys.length<=kf):
  Inv X gd σ (upd H l (.lst ys)) {s with heap:=s.heap.update l (Lp f),toks:=t'}:=by
 have q:=PySem.IsL.update e f;rw[hf]at q;exact I.write (x:=l) (e:=l) (by rw[Q];exact trivial) (.inl U) (λb' u P K=>(EA s.heap (Lp f) (Ne.symm P)).trans K) (_,q) (z,g,_,hv,q)
def Inv.VU(I:Inv X gd σ H s)(hv:Vals ys its)(g:ys.length<=kf):
  Inv X gd σ (upd H s.heap.objs.size (.lst ys)) {s with heap:=s.heap.push (~~~its.toArray),toks:=t'}:=
 I.laid (λ_ _ q=>fC _ q) (ka _) (g,its,0,hv,ke _ U)
theorem Inv.fresh(I:Inv X gd σ H s):H s.heap.objs.size=none:=I.hok.fresh (ka _)
def Inv.B6(I:Inv X gd σ H s)(g:H l=Z (.lst xs)):xs.length<=kf/\∃(its:List B)(n:Nat),Vals xs its/\xs.length=its.length/\s.heap.get? l=Z (its.toArray^^^n):=by
 let(z,its,n,r,e):=I.hok l _ g;exact(z,its,n,r,r.length,e)
def zN(h:n<=kf):Builtin.List.listTooLong n=false:=by
 exact decide_eq_false al
end
section
variable{X:Cx}
inductive rg(x:V)(vs:List V)(H:Hp)(Q:VK):Prop
 |mk(l xs y:_)(h1:x=.ref l)(h2:vs=[y])(h3:H l=Z (.lst xs))(h4:xs.length<kf)(h5:Q .non (upd H l (.lst (xs++[y]))))
theorem F8:MtM X "list.append" rg:=by
 intro gd s σ H x vs v us Q I K rv h;let(l,xs,y,U,U,g,P,q):=h;cases K;let(u,U,ru):=rv.one;let(z,its,n,r,hl,e):=I.B6 g;refine call_meets F.slot_list_append (_,e,U) F.entry_list_append (F.args_list_append_2 _ _) (PySem.list_append l its.toArray n u (by rw[nP];lia)) (e,?_)
 refine(.non,_,I.NV g e ad (r.append (.cons ru .nil)) ?_,U,q)
 rw[i5,vr]
 lia
inductive q9(x:V)(vs:List V)(H:Hp)(Q:VK):Prop
 |mk(l b xs zs:_)(h1:x=.ref l)(h2:vs=[.ref b])(h3:H l=Z (.lst xs))(h4:H b=Z (.lst zs))(h5:xs.length+zs.length<=kf)(h6:Q .non (upd H l (.lst (xs++zs))))
theorem F7:MtM X "list.extend" q9:=by
 intro gd s σ H x vs v us Q I P rv h;let(l,b,xs,zs,U,U,K,hB,hz,q):=h;cases P;let(u,U,ru):=rv.one;cases ru;let(z,its,n,r,hl,e):=I.B6 K;let(z2,g,n2,V,ak,e2):=I.B6 hB;have hsz:its.toArray.size+g.toArray.size<=kf:=by rw[nP,nP];lia
 have Ko:¬(!its.toArray.isEmpty&&Builtin.List.listTooLong (its.toArray.size+g.toArray.size))=true:=by
  rw[zN hsz,XY];exact qr
 refine call_meets F.slot_list_extend (_,e,U) F.entry_list_extend (F.args_list_extend_2 _ _)
  (AutoSeq1.list_extend_list_list_0 l its.toArray n b g.toArray n2 Ko (by rw[nP];lia) al) (e,e2,?_)
 refine(.non,_,I.NV K e ad (r.append V) ?_,U,q)
 rw[i5];omega
inductive ME(x:V)(vs:List V)(H:Hp)(Q:VK):Prop
 |mk(l xs y:_)(h1:x=.ref l)(h2:vs=[])(h3:H l=Z (.lst xs))(h4:xs[xs.length-1]?=Z y)(h5:Q y (upd H l (.lst xs.dropLast)))
theorem BZ:MtM X "list.pop" ME:=by
 intro gd s σ H x vs v us Q I V rv h;let(l,xs,y,U,U,P,hy,q):=h;cases V;have K:=rv.zero;subst K;let(z,its,n,r,hl,e):=I.B6 P;let(u,hu,ru):=r.get hy;have g:=by
  show its.toArray[its.length-1]?=Z u;rw[<- XC,<- hl];exact hu
 refine call_meets F.slot_list_pop (_,e,U) F.entry_list_pop (F.args_list_pop_1 _) (MeetsSeq.list_pop_last l its.toArray n u g (by rw[nP];lia)) (e,?_)
 refine(y,_,I.NV P e ?_ r.dropLast ?_,ru,q)
 ·rw[nP,List.eraseIdxIfInBounds_toArray,Co]
 ·rw[List.length_dropLast]
  lia
inductive TQ(x:V)(y:V)(H:Hp)(Q:VK):Prop
 |mk(l b xs zs:_)(h1:x=.ref l)(h2:y=.ref b)(h3:H l=Z (.lst xs))(h4:H b=Z (.lst zs))(h5:xs.length+zs.length<=kf)(h6:∀p,H p=Y->Q (.ref p) (upd H p (.lst (xs++zs))))
def Ru:OpR X (binaryOp .Add) TQ:=by
 intro gd s σ H x y v u Q I V K h;let(l,b,xs,zs,U,U,hH,hB,hz,q):=h;cases V;cases K;let(z,its,n,r,hl,e):=I.B6 hH;let(z2,g,n2,r2,ak,e2):=I.B6 hB;refine PySem.P.add_list e e2 ?_ (by rw[nP,nP];omega)
 have ea:its.toArray++g.toArray=(its++g).toArray:=by simp
 rw[ea];exact(.ref _,_,I.VU (r.append r2) (by rw[i5];omega),U,q _ I.fresh)
end
end L2
namespace Att
open PySem PySem.W PySem.Calls PyProof.Rows
def qI:∀(ns:List Int)(vs:List B),WellAll P h vs (ns.map WData.int)->IntsAre vs ns:=by
 intro ns
 induction ns with
 |nil =>
  intro vs w;cases w;exact .nil
 |cons n ns g =>
  intro vs w;cases w with
  |cons a b =>
   cases a;exact .cons _ _ (g _ b)
def Fg{l:OpenLaw}(hn:l.most=Z n)
  (hpre:l.row.toRowW.claim.pre args=O) (g:WellAll P h vals args):
  ∃a vs ns,vals=[B.ref a]/\args=[WData.list (ns.map WData.int)]/\h.get? a=Z (~~~vs.toArray)/\IntsAre vs ns/\ns.length<=n:=by
 have q:WShape.hasAll [] args [.list .int]=true:=(pre_splitW hpre).1;have Q:l.pre.holds [] {args:=args}=true:=(pre_splitW hpre).2;let(d,r,U,h1,h2):=hasAllW_cons q;obtain rfl:=hasAllW_nil h2;let(xs,U,h3):=hasW_list h1;let(ns,U):=items_int h3;have hlen:=by
  have h4:=by
   have h4:=(holds_andW Q).1;rw[hn]at h4;exact h4
  have h5:=condW_of h4 (w_not (w_lt w_lit (w_len_list (w_arg U))))
  first
   | (exact absurd h5 ac)
   | (simp at h5;omega)
 cases g with
 |cons K z =>
  cases z;cases K with
  |list ho V=>exact(_,_,ns,U,U,ho,qI ns _ V,hlen)
def FL(l:OpenLaw)(args:List WData):l.row.toRowW.claim.post args (.bool O) args=true:=
 postW_of
  ap
  (w_eq_bool (w_res U) w_lit) U
def AE{l:OpenLaw}{n:Nat}{q:Da}{loose:List Str}{XP:(Str->Option B)->Do->Prop}{YP:Cl->Do->Prop}{d:DefRec}
  (hn:l.most=Z n) (P:d.params.defaults=[])
  (call:∀(w:Cl)(s₀ g:ϋ)(mg mb:Str->Option B)(z:J)(o:Obj)(pm cd doc:B)(a:J)(vs:List B)(ns:List Int),
   Ground q loose [] XP w s₀ mg mb g.heap->YP w g.heap ->
   g.heap.get? z=Z o->o.data=.func (docDef d.name d.params d.body d.scope pm cd doc)->g.heap.CodeRec cd d.name->mg d.name=Z (.ref z) ->
   g.heap.get? a=Z (~~~vs.toArray)->IntsAre vs ns->ns.length<=n->g.gens=#[] ->
   codeAny (model l.prog w) callerA (.call (.ref z) ([.ref a],[])) (λr s'=>r=.ok (.ret (.bool O))/\OldK g.heap s'.heap/\s'.os=g.os/\AllBare s'.gens) g):
  WalkO q loose XP YP l.row.toRowW d [] (λf vs=>PySem.call f vs):=by
 intro w s₀ g mg mb G Y9 z o pm cd doc dV kV ho hd Q V hmg hg args vals as hpre WR ak K ar;obtain rfl:=Dflts.none V P;obtain rfl:=Dflts.noKw V;let(a,vs,ns,U,U,R6,hints,hlen):=Fg hn hpre K;refine enter_call (codeAny_mono (call w s₀ g mg mb z o pm cd doc a vs ns G Y9 ho (fd_plain hd) Q hmg R6 hints hlen hg) λr s' hq=>?_)
 let(U,h2,h3,h4):=hq;exact(.inl (.bool O,.bool O,[],U,λ_=>rfl,.bool O,FL l _,λ_=>(List.Pairwise.nil,λ_ hm=>(nomatch hm))),h2,h3,h4)
section
def ledger(h:Do)(L d:J):List (J×Obj):=(AK h.objs.size).filterMap λa=>if a=L\/a=d then Y else(h.get? a).map λo=>(a,o)
end
end Att
namespace L2
open PySem PySem.Spec PyProof.Rows
variable{ns:List Int}
def vH(h:IntsAre vs ns):Vals (ns.map V.int) vs:=by
 induction h with
 |nil=>exact .nil
 |cons n t _ g=>exact .cons (t,U) g
def OX(H:Hp):Prop:=∀b,H b=Y\/∃o xs,H b=Z (.frz o (.lst xs))
variable{mg:Str->Option B}{a:J}{x:Str}
theorem JY{K:BT}
  (KX:K.In g.heap) (ar:g.heap.Ns mainGlobals mg) (Q:g.heap.Ns builtinsNs mb) (aQ:∀x:Str,x ≠ "__name__"->mb x=bootBuiltins x) (Wh:g.heap.NoLimit) (hg:g.gens=#[])
  (ha:g.heap.get? a=Z (~~~vs.toArray)) (hi:IntsAre vs ns) (hl:ns.length<=kf) (hr:eC k callerA)
  (F:∀base:Do,K.In base->base.Ns mainGlobals mg->bf P w K mg base CX k fa fd [x] sp) (UX:∀(s:ϋ)(u:B),BindsTo s fd ([u],[]) [(x,u)])
  (aP:∀H:Hp,OX H->SqL K H a (ns.map V.int)->sp [.ref a] H (λv _=>v=.bl O) λ_ _ _=>False)
  (aR:∀H e s',CX [] H g (λ_ _ _=>False) e s'->False):
  codeAny (model P w) callerA (.call (.ref fa) ([.ref a],[])) (λr s'=>r=.ok (.ret (.bool O))/\OldK g.heap s'.heap/\s'.os=g.os/\AllBare s'.gens) g:=by
 have rv:=vH hi;have VX:=hi.length;have core:∀H,OX H->SqL K H a (ns.map V.int)->HOk P w H g.heap->(∀b,H b≠Y->b=a)->(H a≠Y->K.lookup a=Y) ->
   codeAny (model P w) callerA (.call (.ref fa) ([.ref a],[])) (λr s'=>r=.ok (.ret (.bool O))/\OldK g.heap s'.heap/\s'.os=g.os/\AllBare s'.gens) g:=by
  intro H hO hS hok hA hK;have Eu:∀{b:J}{o:Obj},g.heap.get? b=Z o->H b=Y->(Aa g.heap H).get? b=Z o:=λe n=>Kr e n
  have ay:∀{b:J}{o:Obj}{es:Array Y2}{ep:Nat},g.heap.get? b=Z o->o.data=.dict es ep->H b=none:=λ{b o es ep} e d=>by
   cases q:H b with
   |none=>rfl
   |some u =>
    have e':=hA b (by rw[q];simp)
    subst e';rw[ha]at e;cases e;have d':=d;cases d'
  have ak:∀{b:J}{m:Str->Option B},g.heap.Ns b m->(Aa g.heap H).Ns b m:=λ{b m} (o,es,ep,e,d,r)=>(o,es,ep,Eu e (ay e d),d,r)
  have av:=λb o e=>Eu (KX b o e) (by
   cases q:H b with
   |none=>rfl
   |some u =>
    have e':=hA b (by rw[q];simp)
    subst e';rw[hK (by rw[q];simp)]at e;cases e)
  have hM:Mod K mg (Aa g.heap H):=(av,ak ar,(mb,ak Q,aQ),let(mc,h1,h2):=Wh;(mc,ak h1,h2))
  have e0:CG P w K mg (Aa g.heap H) callerA [] g H:=(U,hM,λb o e=>NQ e,Nat.le_of_eq (Gj _ _),trivial,λb Q=>absurd (show b∈([])from Q) ad,hok,.of_eq hg)
  refine codeAny_mono ((F _ av (ak ar)).run callerA [] g H ([.ref a],[]) [.ref a] [.ref a] _ _ hr e0 (UX g (.ref a)) (.cons U .nil) (aP H hO hS)) λr s' h=>?_
  cases r with
  |error e=>exact(aR H e s' h).elim
  |ok fl =>
   cases fl with
   |next=>exact False.elim h
   |brk=>exact False.elim h
   |cont=>exact False.elim h
   |ret u =>
    let(v,H',os,bare,un,Wc,r',q):=h;have q':=q;subst q';obtain rfl:=r';refine(U,OldK.of_keep λb o e=>?_,os,bare)
    cases q:H b with
    |none=>exact un.keep b o e q (by intro z;exact absurd (show b∈([])from z) ad) ad
    |some u =>
     obtain z |⟨ob,xs,z⟩:=hO b
     ·rw[q]at z;cases z
     ·have z2:=un.kJ b ob _ z;let(e1,_):=hok b _ z;let(e2,_):=Wc b _ z2;rw[e]at e1;cases e1;exact e2
 cases hk:K.lookup a with
 |some o =>
  have e:=KX a o hk;rw[ha]at e;cases e;refine core (λ_=>Y) (λ_=>.inl U) (.inr (_,vs.toArray,_,hk,U,U,U,by rw[nP,VX];exact hl,(rv:))) (λb u z=>by have z':=z;cases z') (λb z=>absurd U z) λz=>absurd U z
 |none =>
  refine core (λb=>if b=a then Z (.frz (~~~vs.toArray) (.lst (ns.map V.int)))else Y) (λb=>?_) (.inl (.inr ((~~~vs.toArray),if_pos U))) (λb u z=>?_) (λb z=>?_) λ_=>hk
  ·by_cases Q:b=a
   ·exact .inr (_,_,if_pos Q)
   ·exact .inl (if_neg Q)
  ·by_cases Q:b=a
   ·have z':=(if_pos Q).symm.trans z;cases z';subst Q;exact(ha,by rw[cO];exact hl,vs,_,rv,ha)
   ·have z':=(if_neg Q).symm.trans z;cases z'
  ·by_cases Q:b=a
   ·exact Q
   ·exact absurd (if_neg Q) z
variable{n:Nat}
theorem LU{l:W.OpenLaw}{k:Nat}{q:Da}{loose:List Str}{XP:(Str->Option B)->Do->Prop}{YP:Cl->Do->Prop}{d:DefRec}{K:Params->BT}{CX:Cl->CXT}{sp:Cl->Sp}
  (hn:l.most=Z n) (ak:n<=kf) (ar:d.params.defaults=[]) (hr:eC k callerA)
  (hY:∀(w:Cl)(h:Do),YP w h->(K w.params).In h)
  (F:∀(w:Cl)(mg:Str->Option B)(P:J)(h:Do),(K w.params).In h->h.Ns mainGlobals mg->mg d.name=Z (.ref P) ->
   ∃fd:Ch,(∀(s:ϋ)(u:B),BindsTo s fd ([u],[]) [(x,u)]) /\
    ∀base:Do,(K w.params).In base->base.Ns mainGlobals mg->bf l.prog w (K w.params) mg base (CX w) k P fd [x] (sp w))
  (Q:∀(w:Cl)(H:Hp)(a:J)(ns:List Int),ns.length<=n->OX H->SqL (K w.params) H a (ns.map V.int)->sp w [.ref a] H (λv _=>v=.bl O) λ_ _ _=>False)
  (av:∀(w:Cl)(H:Hp)(s:ϋ)(e:B)(s':ϋ),CX w [] H s (λ_ _ _=>False) e s'->False):
  W.WalkO q loose XP YP l.row.toRowW d [] (λf vs=>PySem.call f vs):=by
 refine Att.AE hn ar λw s₀ z mg mb P o pm cd doc a vs ns G Y9 ho hd ay hmg R6 hints hlen hg=>?_
 have KX:=hY w _ Y9;let(fd,hb,hF):=F w mg P _ KX G.T.g hmg;exact JY KX G.T.g G.T.b G.T.builtins G.T.nolimit hg R6 hints (qR hlen ak) hr hF hb (λH hO hS=>Q w H a ns hlen hO hS) λH e s'=>av w H z e s'
def inClass(s:EQ)(j:Nat):EQ:=match s with
 |.ClassDef _ _ _ body _ _ _ _ _ _ _=>body.getD j (.Pass (0,0,0,0))
 |_=>.Pass (0,0,0,0)
def dz(s:EQ):Arguments:=match s with
 |.FunctionDef _ a _ _ _ _ _ _ _ _=>a
 |_=>{posonlyargs:=[],args:=[],vararg:=Y,kwonlyargs:=[],kw_defaults:=[],kwarg:=Y,defaults:=[]}
def cq(s:EQ):List EQ:=match s with
 |.FunctionDef _ _ b _ _ _ _ _ _ _=>b
 |_=>[]
def ax(s:EQ):Scope:=match s with
 |.FunctionDef _ _ _ _ _ _ sc _ _ _=>sc
 |_=>{kind:=.function,names:=[],isGenerator:=ϊ,isCoroutine:=ϊ}
abbrev CX0:CXT:=λ_ _ _ _ _ _=>False
abbrev E0:XK:=λ_ _ _=>False
variable{X:Cx}
def Jv:Passes CX0 X E0:=λ_ _ _ _ _ _ _ h=>h.elim
structure Fun(K:BT)(x qual:Str)(st:EQ)(f:J)(fd:Ch):Prop where
 ex:∃(oc:B)(od:Option J)(kV doc pm:B)(an:Option J)(cdv ct:B)(osl:Array (Option B)),
  fd=W.fnOf x qual (dz st) (cq st) (ax st) .none kV doc pm an cdv ct/\K.lookup f=Z (oc,od,.func fd,osl)/\W.codeIn K cdv qual=O
 kp:W.keepIn K (.ref f)=O
variable{qual:Str}{st:EQ}{fd:Ch}{N:List Str}{ps:List Str}{sp:Sp}{oc:B}{od:Option J}{an:Option J}{pm:B}{ct:B}
section
variable{P:Da}{w:Cl}{K:BT}{base:Do}
theorem Fun.ok(F:Fun K x qual st f fd)(S:aG N ps (ax st))(len:∀vs H Q E,sp vs H Q E->vs.length=ps.length)
  (t7:∀(cdv:B)(A:Db)(outer:List Env)(s:ϋ)(H:Hp)(vs:List V)(Q:VK)(E:XK),eC k (A.deeper (envOfC qual (ax st) s.heap.objs.size f cdv))->sp vs H Q E ->
   ∃t,PSs (yy CX0 P w K mg base N qual (ax st) f cdv A outer s H E).nox (cq st) t/\t {nx:=λ_ H'=>Q .non H',rt:=Q} (start N vs) H):bf P w K mg base CX0 (k+1) f fd ps sp:=by
 let(oc,od,kV,doc,pm,an,cdv,ct,osl,U,lk,z):=F.ex;refine U3 lk z S len λA outer s H vs Q E hr g=>?_
 let(t,h,q):=t7 cdv A outer s H vs Q E hr g;exact(t,h.nox,q)
theorem Fun.binds(F:Fun K x qual st f fd)
  (h:∀(kV doc pm:B)(an:Option J)(cdv ct:B)(us:List B),us.length=ps.length->bindArgs (W.fnOf x qual (dz st) (cq st) (ax st) .none kV doc pm an cdv ct) (us,[])=pure (ps.zip us)):Binds K fd ps []:=by
 let(oc,od,kV,doc,pm,an,cdv,ct,osl,U,lk,g):=F.ex;exact .all (h kV doc pm an cdv ct)
theorem Cn{kV doc cdv:B}(l:K.lookup f=Z (oc,od,.func (W.fnOf x qual (dz st) (cq st) (ax st) .none kV doc pm an cdv ct),osl))
  (c:W.codeIn K cdv qual=O) (k:W.keepIn K (.ref f)=O):Fun K x qual st f (W.fnOf x qual (dz st) (cq st) (ax st) .none kV doc pm an cdv ct):=((oc,od,kV,doc,pm,an,cdv,ct,osl,U,l,c),k)
end
variable{A:Db}
def bh(hr:eC k A):A.units+1<cLine:=W8 (XS ac _) hr.units
def aC(h:n<=1000):n<kf:=W8 h ac
section
def pv(i:Nat){pos:Pos}(q:‹X.N[i]?=Z x›)(hv:Vis X.env.scope x:=by first|exact Or.inl rfl|exact Or.inr (Or.inl U)|exact Or.inr (Or.inr U))(hd:autoParam (AS x) zdc._auto_1)
  (g:autoParam ((x ==("__classdict__":Str))=false) zdc._auto_1):PE X (.Name x pos) (b8 i):=Jn q hv hd g
end
def V4{A Za:Prop}(h:Za):if ϊ=O then A else Za:=by
 exact h
def aI{c A Za:Prop}[Decidable c](h1:c->A)(h2:¬ c->Za):if c then A else Za:=by
 by_cases h:c
 ·rw[if_pos h];exact h1 h
 ·rw[if_neg h];exact h2 h
def aa{c A Zg:Prop}[Decidable c](h2:Zg)(h:¬ c:=by decide +kernel):if c then A else Zg:=aI (λz=>absurd z h) λ_=>h2
def lV(H H':Hp):Prop:=∀b o,H b=Z o->H' b=Z o
def lV.refl(H:Hp):lV H H:=λ_ _ h=>h
variable{H:Hp}{H':Hp}{l:J}
def lV.free(e:lV H H')(h:H' l=Option.none):H l=Option.none:=by
 cases q:H l with
 |none=>rfl
 |some o =>
  rw[e l o q]at h;cases h
variable{y:V}{u:B}
section
variable{κ:Type}[DecidableEq κ]
def bP(kvs:List (κ×V))(k:κ):Option V:=(kvs.find? λkv=>decide (kv.1=k)).map (·.2)
def putK(kvs:List (κ×V))(k:κ)(v:V):List (κ×V):=
 if(kvs.any λkv=>decide (kv.1=k))=O then kvs.map (λkv=>if kv.1=k then(kv.1,v)else kv)else kvs++[(k,v)]
def cW{k:κ}(e:p.1=k):bP (p::r) k=Z p.2:=by simp[bP,e]
def cX{k:κ}(e:¬ p.1=k):bP (p::r) k=bP r k:=by simp[bP,e]
theorem l7(k:κ):∀kvs:List (κ×V),(kvs.any λkv=>decide (kv.1=k))=(bP kvs k).isSome
 |[]=>rfl
 |p::r=>by
  rw[Xd];by_cases e:p.1=k
  ·simp only[cW e,decide_eq_true e,Bool.true_or,YD]
  ·rw[cX e,decide_eq_false e];exact l7 k r
theorem yX(k j:κ)(y:V):∀kvs:List (κ×V),bP (kvs.map λkv=>if kv.1=k then(kv.1,y)else kv) j=(bP kvs j).map λx=>if j=k then y else x
 |[]=>rfl
 |p::r=>by
  have g:=yX k j y r;rw[qS];by_cases h:p.1=k
  ·rw[if_pos h];by_cases e:p.1=j
   ·rw[cW (p:=(p.1,y)) e,cW e,XO,if_pos (e.symm.trans h)]
   ·rw[cX (p:=(p.1,y)) e,cX e,g]
  ·rw[if_neg h];by_cases e:p.1=j
   ·rw[cW (p:=p) e,cW e,XO,if_neg (λz=>h (e.trans z))]
   ·rw[cX (p:=p) e,cX e,g]
theorem vI(k j:κ)(y:V):∀kvs:List (κ×V),bP kvs k=Y->bP (kvs++[(k,y)]) j=if j=k then Z y else bP kvs j
 |[],_=>by
  by_cases e:k=j
  ·rw[if_pos e.symm];exact cW (p:=(k,y)) e
  ·rw[if_neg (λz=>e z.symm)];exact cX (p:=(k,y)) e
 |p::r,hn=>by
  rw[XG];have hk:¬ p.1=k:=λz=>by rw[cW z]at hn;cases hn
  rw[cX hk]at hn;have g:=vI k j y r hn;by_cases e:p.1=j
  ·rw[cW e,cW e,if_neg (λz=>hk (e.trans z))]
  ·rw[cX e,cX e,g]
def rX(kvs:List (κ×V))(k j:κ)(y:V):bP (putK kvs k y) j=if j=k then Z y else bP kvs j:=by
 unfold putK;by_cases a:(kvs.any λkv=>decide (kv.1=k))=O
 ·rw[if_pos a,yX];rw[l7]at a;by_cases e:j=k
  ·let(x,hx):=Ll.mp a;rw[if_pos e,e,hx,XO,if_pos rfl]
  ·rw[if_neg e];cases bP kvs j with
   |none=>rfl
   |some x=>rw[XO,if_neg e]
 ·rw[if_neg a];refine vI k j y kvs ?_;rw[l7]at a;cases q:bP kvs k with
  |none=>rfl
  |some x=>rw[q]at a;exact(a U).elim
def gC(kvs:List (κ×V))(k:κ)(v:V):(putK kvs k v).length<=kvs.length+1:=by
 unfold putK
 split
 ·rw[cO];lia
 ·rw[i5,pq,WJ];lia
def j8.hJ{u:Option B}(r:j8 o u):o.isSome=u.isSome:=by
 cases o with
 |none=>cases u with
  |none=>rfl
  |some _=>exact(r).elim
 |some _=>cases u with
  |none=>exact(r).elim
  |some _=>rfl
theorem j8.getD{u:Option B}(r:j8 o u)(rd:RelV d g):RelV (o.getD d) (u.getD g):=by
 cases o with
 |none=>cases u with
  |none=>exact rd
  |some _=>exact(r).elim
 |some _=>cases u with
  |none=>exact(r).elim
  |some _=>exact r
def KV.val(r:KV kvs vs)(k:κ):j8 (bP kvs k) (valueAt vs k):=by
 induction r with
 |nil=>exact True.intro
 |@cons p q ps qs h t K =>
  let(h1,h2):=h;by_cases e:p.1=k
  ·have g:=h1.symm.trans e;have b:valueAt (q::qs) k=Z q.2:=by simp[valueAt,g]
   rw[cW e,b];exact h2
  ·have g:¬ q.1=k:=λz=>e (h1.trans z)
   have b:valueAt (q::qs) k=valueAt qs k:=by simp[valueAt,g]
   rw[cX e,b];exact K
theorem KV.any(r:KV kvs vs)(k:κ):(kvs.any λkv=>decide (kv.1=k))=vs.any λkv=>decide (kv.1=k):=by
 induction r with
 |nil=>rfl
 |cons h t g=>rw[Xd,Xd,g,h.1]
def KV.Qn(r:KV kvs vs)(k:κ)(g:RelV y u):
  KV (kvs.map λkv=>if kv.1=k then(kv.1,y)else kv) (vs.map λkv=>if kv.1=k then(kv.1,u)else kv):=by
 induction r with
 |nil=>exact .nil
 |@cons p q ps qs h t K =>
  rw[qS,qS];refine .cons ?_ K;let(h1,h2):=h;by_cases e:p.1=k
  ·rw[if_pos e,if_pos (h1.symm.trans e)];exact(h1,g)
  ·rw[if_neg e,if_neg (λz=>e (h1.trans z))];exact(h1,h2)
def KV.put(r:KV kvs vs)(k:κ)(g:RelV y u):KV (putK kvs k y) (stored vs k u):=by
 unfold putK stored;rw[r.any k];by_cases e:(vs.any λkv=>decide (kv.1=k))=O
 ·rw[if_pos e,if_pos e];exact r.Qn k g
 ·rw[if_neg e,if_neg e];exact Paired.snoc r (U,g)
theorem KV.length(r:KV kvs vs):kvs.length=vs.length:=Paired.length r
end
variable{P:Da}
def kX(r:RelV (kV k) u):(a6 P w).is k u=true:=by
 cases k with
 |inl i=>let(t,e):=(r);subst e;exact zS P w i t
 |inr x=>let(t,e):=(r);subst e;exact zR P w x t
def RR{a b:Key}(e:kV a=kV b):a=b:=by
 cases a with
 |inl i=>cases b with
  |inl j=>have g:V.int i=V.int j:=e;injection g with g;rw[g]
  |inr y=>exact nomatch(show V.int i=V.str y from e)
 |inr x=>cases b with
  |inl j=>exact nomatch(show V.str x=V.int j from e)
  |inr y=>have g:V.str x=V.str y:=e;injection g with g;rw[g]
theorem ya:∀{a b:List Key},a.map kV=b.map kV->a=b
 |[],[],_=>rfl
 |[],_::_,e=>by simp at e
 |_::_,[],e=>by simp at e
 |x::xs,y::ys,e=>by
  rw[qS,qS]at e;injection e with q g
  rw[RR q,ya g]
theorem wa:∀{ks:List Key}{us:List B},Vals (ks.map kV) us->ItemsAre (a6 P w) ks us
 |[],_,r=>by cases r;exact .nil
 |k::ks,_,r=>by
  cases r with
  |cons h t=>exact .cons (kX h) (wa t)
abbrev KT(H:Hp):List (List Key×V)->List (List Key×J×B)->Prop:=Paired λp q=>p.1=q.1/\H q.2.1=Z (.tup (p.1.map kV))/\RelV p.2 q.2.2
def KT.val(r:KT H kvs xs)(k:List Key):j8 (bP kvs k) ((atKey xs k).map (·.2)):=by
 induction r with
 |nil=>exact True.intro
 |@cons p q ps qs h t K =>
  let(h1,_,h2):=h;by_cases e:p.1=k
  ·have g:=h1.symm.trans e;have b:atKey (q::qs) k=Z q.2:=by simp[atKey,g]
   rw[cW e,b];exact h2
  ·have g:¬ q.1=k:=λz=>e (h1.trans z)
   have b:atKey (q::qs) k=atKey qs k:=by simp[atKey,g]
   rw[cX e,b];exact K
def KT.Qn(r:KT H kvs xs)(k:List Key)(g:RelV y u):
  KT H (kvs.map λkv=>if kv.1=k then(kv.1,y)else kv) (xs.map (putAt k u)):=by
 induction r with
 |nil=>exact .nil
 |@cons p q ps qs h t K =>
  rw[qS];refine .cons ?_ K;let(h1,h2,h3):=h;unfold putAt;by_cases e:p.1=k
  ·rw[if_pos e,if_pos (h1.symm.trans e)];exact(h1,h2,g)
  ·rw[if_neg e,if_neg (λz=>e (h1.trans z))];exact(h1,h2,h3)
def KT.put(r:KT H kvs xs)(k:List Key)(z:H b=Z (.tup (k.map kV)))(g:RelV y u):
  KT H (putK kvs k y) (storedH xs k b u):=by
 have e:(kvs.any λkv=>decide (kv.1=k))=(atKey xs k).isSome:=by
  rw[l7,(r.val k).hJ,TH]
 unfold putK storedH;rw[e];by_cases q:(atKey xs k).isSome=O
 ·rw[if_pos q,if_pos q];exact r.Qn k g
 ·rw[if_neg q,if_neg q];exact Paired.snoc r (U,z,g)
def KT.keeps(r:KT H kvs xs)(g:∀b ys,H b=Z (.tup ys)->H' b=Z (.tup ys)):KT H' kvs xs:=
 Paired.Uw r λ_ _ z=>(z.1,g _ _ z.2.1,z.2.2)
variable{kvs:List (Key×V)}
section
variable{w:Cl}{h:Do}
def Pe{u:HO}(ok:HOk P w H h)(e:Rd H a u):c9 P w H h a u:=e.ok ok
def gJ(ok:HOk P w H h)(e:Rd H a (.dK kvs)):kvs.length<=kf/\(a==sysModules)=ϊ/\∃vs,KV kvs vs/\h.DictOf (a6 P w) a vs:=
 Pe ok e
def KD(ok:HOk P w H h)(e:H a=Z (.dK kvs)):kvs.length<=kf/\(a==sysModules)=ϊ/\∃vs,KV kvs vs/\h.DictOf (a6 P w) a vs:=gJ ok (.inl e)
def jP(ok:HOk P w H h)(e:H a=Z (.tup (ks.map kV))):(tupleKind (a6 P w)).is h ks a:=by
 let(_,its,r,(o,h1,h2,n,h3),_):=(ok a _ e);exact(o,its.toArray,n,h1,h2,h3,(wa r:))
def uc{kvs:List (List Key×V)}(ok:HOk P w H h)(e:Rd H a (.dT kvs)):kvs.length<=kf/\(a==sysModules)=ϊ /\
  ∃xs,KT H kvs xs/\h.DictOfH (tupleKind (a6 P w)) a xs:=by
 let(z,y,xs,r,o,es,ep,h1,h2,h3,h4,h5):=(Pe ok e);refine(z,y,xs,r,o,es,ep,h1,h2,h3,h4,λx hx=>?_,h5)
 have all:∀{l:List (List Key×V)}{m:List (List Key×J×B)},KT H l m->∀x∈m,(tupleKind (a6 P w)).is h x.1 x.2.1:=by
  intro l m q
  induction q with
  |nil=>intro x hx;exact nomatch hx
  |@cons p q ps qs hq t g =>
   intro x hx;obtain e|hx:=kO.mp hx
   ·subst e;exact jP ok (by rw[<- hq.1];exact hq.2.1)
   ·exact g x hx
 exact all r x hx
def U5{kvs:List (List Key×V)}(ok:HOk P w H h)(e:H a=Z (.dT kvs)):kvs.length<=kf/\(a==sysModules)=ϊ /\
  ∃xs,KT H kvs xs/\h.DictOfH (tupleKind (a6 P w)) a xs:=uc ok (.inl e)
end
def gv(H:Hp)(a:J)(y:V)(r:Option V):Prop:=
 (∃kvs k,Rd H a (.dK kvs)/\y=kV k/\r=bP kvs k)\/∃kvs k b,Rd H a (.dT kvs)/\y=.ref b/\H b=Z (.tup (k.map kV))/\r=bP kvs k
def yQ(H:Hp)(a:J)(y v:V)(H':Hp):Prop:=
 (∃kvs k,H a=Z (.dK kvs)/\y=kV k/\kvs.length<kf/\H'=upd H a (.dK (putK kvs k v))) \/
 ∃kvs k b,H a=Z (.dT kvs)/\y=.ref b/\H b=Z (.tup (k.map kV))/\kvs.length<kf/\H'=upd H a (.dT (putK kvs k v))
theorem gv.k{a:J}{kvs:List (Key×V)}{k:Key}(e:H a=Z (.dK kvs)):gv H a (kV k) (bP kvs k):=.inl (kvs,k,.inl e,U,U)
theorem yQ.k{a:J}{kvs:List (Key×V)}{k:Key}{v:V}(e:H a=Z (.dK kvs))(hl:kvs.length<kf):yQ H a (kV k) v (upd H a (.dK (putK kvs k v))):=.inl (kvs,k,e,U,hl,U)
variable{Q:B->ϋ->Prop}{h':Do}{t':Nat}
section
variable{gd:List (J×Obj)}{σ:St}{s:ϋ}{v:V}{r:B}{o:Option V}{E:B->ϋ->Prop}
def Inv.big(I:Inv X gd σ H s):sysModules<s.heap.objs.size:=by
 have h:=(I.mod.glob.keeps I.bk).lt;exact Xr ac h
def Gu(hu:A.units+1<cLine)(I:Inv X gd σ H s)(g:gv H a y (Z v))(ry:RelV y u)(h:∀K s',Inv X gd σ H s'->RelV v K->Q K s'):
  wpAny (model X.prog X.w) A (getItem (.ref a) u) Q E s:=by
 obtain⟨kvs,k,e,V,l⟩|⟨kvs,k,b,e,V,eb,l⟩:=g
 ·subst V;let(z,hd,vs,rel,dd):=gJ I.hok e;let(K,hw,q):=j8.some_of (by rw[l];exact rel.val k)
  exact wpAny_getItem_of (kX ry) dd.mapOf hw (h K _ (I.tok _) q)
 ·subst V
  cases(ry)
  let(z,hd,xs,rel,dd):=uc I.hok e;let(K,hw,q):=j8.some_of (by rw[l];exact rel.val k)
  let(p,hp,P):=gs.mp hw;refine wpAny_getItem_heap (tupleKind_room_in1 hu) (jP I.hok eb) dd hp ?_;rw[P];exact h K _ (I.tok _) q
def Wr(V:A.units+1<cLine)(I:Inv X gd σ H s)(g:gv H a y o)(P:RelV y u)(h:∀s',Inv X gd σ H s'->Q (.bool o.isSome) s'):
  wpAny (model X.prog X.w) A (compareOp .In u (.ref a)) Q E s:=by
 obtain⟨kvs,k,e,K,l⟩|⟨kvs,k,b,e,K,eb,l⟩:=g
 ·subst K;let(z,hd,vs,rel,dd):=gJ I.hok e;refine wpAny_in_of (kX P) hd dd.mapOf ?_;rw[<- (rel.val k).hJ,<- l];exact h _ (I.tok _)
 ·subst K
  cases(P)
  let(z,hd,xs,rel,dd):=uc I.hok e;refine wpAny_in_heap (tupleKind_room_in1 V) (jP I.hok eb) hd dd ?_;have q:=(rel.val k).hJ;rw[TH]at q;rw[<- q,<- l];exact h _ (I.tok _)
def Oy(V:A.units+1<cLine)(I:Inv X gd σ H s)(g:gv H a y o)(P:RelV y u)(h:∀s',Inv X gd σ H s'->Q (.bool (!o.isSome)) s'):
  wpAny (model X.prog X.w) A (compareOp .NotIn u (.ref a)) Q E s:=by
 obtain⟨kvs,k,e,K,l⟩|⟨kvs,k,b,e,K,eb,l⟩:=g
 ·subst K;let(z,hd,vs,rel,dd):=gJ I.hok e;refine wpAny_notIn_of (kX P) hd dd.mapOf ?_;rw[<- (rel.val k).hJ,<- l];exact h _ (I.tok _)
 ·subst K
  cases(P)
  let(z,hd,xs,rel,dd):=uc I.hok e;refine wpAny_notIn_heap (tupleKind_room_in1 V) (jP I.hok eb) hd dd ?_;have q:=(rel.val k).hJ;rw[TH]at q;rw[<- q,<- l];exact h _ (I.tok _)
def yx(I:Inv X gd σ H s)(g:Mut (H a))(hs:Xi a s.heap h')(he:∃q,h'.get? a=Z q)(new:c9 X.prog X.w (upd H a ob) h' a ob):
  Inv X gd σ (upd H a ob) {s with heap:=h',toks:=t'}:=
 I.write g (.inl U) (λb q K z=>(hs.2 b K).trans z) he new
def ud(z:kvs.length<=kf)(hd:(a==sysModules)=ϊ)(rel:KV kvs vs)(dd:h'.DictOf (a6 P w) a vs):
  c9 P w H' h' a (.dK kvs):=(z,hd,vs,rel,dd)
def Gs{Q:Unit->ϋ->Prop}(hu:A.units+1<cLine)(I:Inv X gd σ H s)(g:yQ H a y v H')(ry:RelV y u)(rv:RelV v r)(h:∀s',Inv X gd σ H' s'->Q () s'):
  wpAny (model X.prog X.w) A (setItem (.ref a) u r) Q E s:=by
 obtain⟨kvs,k,e,P,l,V⟩|⟨kvs,k,b,e,P,eb,l,V⟩:=g
 ·subst P V;let(z,hd,vs,rel,dd):=KD I.hok e;have hz:vs.length<=kf:=by rw[<- rel.length];exact z
  have hl:(putK kvs k v).length<=kf:=by have:=gC kvs k v;omega
  refine wpAny_setItem_pairs (kX ry) dd λh' K hs=>h _ ?_
  have he:∃q,h'.get? a=Z q:=let(q,_,_,hq,_):=K;(q,hq)
  exact yx I (by rw[e];exact True.intro) hs he (ud hl hd (rel.put k rv) K)
 ·subst P V
  cases(ry)
  let(z,hd,xs,rel,dd):=U5 I.hok e;have hz:xs.length<=kf:=by rw[<- Paired.length rel];exact z
  have hl:(putK kvs k v).length<=kf:=by have:=gC kvs k v;lia
  refine wpAny_setItem_heap (hsz:=hz) (tupleKind_room_in1 hu) (jP I.hok eb) dd λh' K hs=>h _ ?_
  let(q,es,ep,hq,h2,h3,h4,_,h5):=K;refine yx I (by rw[e];exact True.intro) hs (q,hq) (hl,hd,_,(rel.put k eb rv).keeps λc ys ec=>?_,q,es,ep,hq,h2,h3,h4,h5)
  rw[au (ja ec e (λz=>nomatch z))]
  exact ec
end
section
variable{gd:List (J×Obj)}{σ:St}{s:ϋ}{E:B->ϋ->Prop}
def U7(I:Inv X gd σ H s)(e:Rd H a (.dK kvs))(h:∀t s',Inv X gd σ H s'->Q (.int kvs.length t) s'):wpAny (model X.prog X.w) A (call (.builtin "len") [.ref a]) Q E s:=by
 let(z,hd,vs,rel,dd):=gJ I.hok e;refine call_len_dict hd dd (by rw[<- rel.length];rw[Xp]at z;lia) ?_
 rw[<- rel.length];exact h _ _ (I.tok _)
end
def SO(i:Ev):Prop:=∀g iv,subscripted i ϊ g iv=operate [g,iv] (getItem g iv)
variable{E:B->ϋ->Prop}{env:Env}{value:Ev}
def Ma{T id:String}
  (hl:typeLookup (.type T) "__getitem__"=pure (Z (.builtin id))) (hs:SO slice)
  (h:wpAny (model prog w) A (eval value env) (λo z=>wpAny (model prog w) A (eval slice env) (λi s₂=>s₂.TypeIs o T/\wpAny (model prog w) A (getItem o i) Q E s₂) E z) E s):
  wpAny (model prog w) A (eval (.Subscript value slice pos) env) Q E s:=by
 refine Subscript_ (QH h (λo z h₁=>QH h₁ (λi s₂ g=>?_) λ_ _ x=>x) λ_ _ x=>x)
 let(hT,g):=g;refine dF ?_;refine dF (OZ hT hl ?_);have fin:wpAny (model prog w) A (subscripted slice ϊ o i) (λr q=>wpAny (model prog w) A (letTemporaryGo value o r >>= λ_=>pure r) Q E q) E s₂:=by
  rw[hs o i];exact wpAny_operating (QH g (λr q K=>dF (wpAny_letTemporaryGo (kb K))) λ_ _ x=>x)
 exact kb (dF fin)
variable{gd:List (J×Obj)}
def Al{σ:St}(I:Inv X gd σ H s)(g:gv H a y o):s.TypeIs (.ref a) "dict":=by
 obtain⟨kvs,k,e,_,_⟩|⟨kvs,k,b,e,_,_,_⟩:=g
 ·let(_,_,vs,_,dd):=gJ I.hok e;exact dd.typeIs
 ·let(_,_,xs,_,dd):=uc I.hok e;exact dd.typeIs
def Pc(td ty:TE):TE:=λσ H Q=>td σ H λx H1=>ty σ H1 λy H2=>∃a v,x=.ref a/\gv H2 a y (Z v)/\Q v H2
def HL(td ty tv:TE):TS:=λD σ H=>tv σ H λv H1=>td σ H1 λx H2=>ty σ H2 λy q=>∃a g,x=.ref a/\yQ q a y v g/\D.nx σ g
section
variable{o i:Ev}{pos pos':Pos}{td ty tv:TE}
def gy(hu:X.A.units+1<cLine)(ho:PE X o td)(hi:PE X i ty)(hs:SO i):PE X (.Subscript o i pos) (Pc td ty):=by
 left;refine Ma PySem.F.slot_dict_getitem.lookup hs (thn (ho gd s σ H _ I h) λu s1 (x,H1,I1,V,q1)=>thn (hi gd s1 σ H1 _ I1 q1) λiv s2 z=>?_)
 let(y,H2,K,P,a,v,ex,g,q2):=z;subst ex;obtain rfl:=V;exact(Al K g,Gu hu K g P λw' s3 I3 q=>(v,H2,I3,q,q2))
def rn(hu:X.A.units+1<cLine)(ho:PE X o td)(hi:PE X i ty)(hv:PE X value tv)(hs:swapsWith value (Z (.Subscript o i pos')) pos.line X.env=pure ϊ):
  PS X (.Assign [.Subscript o i pos'] value pos) (HL td ty tv):=by
 right;refine wpAny_Assign_Subscript (thn (hv gd s σ H _ I h) λr s1 (v,H1,I1,rv,V)=>thn (ho gd s1 σ H1 _ I1 V) λu s2 (x,H2,I2,K,Q)=>thn (hi gd s2 σ H2 _ I2 Q) λiv s3 q=>?_) hs
 let(y,H3,I3,z,a,H4,ex,g,P):=q;subst ex;obtain rfl:=K;exact Gs hu I3 g z rv λs4 I4=>(σ,H4,I4,P)
end
def Ak(h:Do)(g:sysModules<h.objs.size):c9 P w H (h.push {cls:=.type "dict",data:=.dict #[]}) h.objs.size (.dK []):=
 (v5 _,beq_eq_false_iff_ne.mpr (Ne.symm (ri g)),[],.nil,Heap.DictOf.new h)
def Hj:TE:=λ_ H Q=>∀p,H p=Y->Q (.ref p) (upd H p (.dK []))
section
variable{pos:Pos}
def Ju:PE X (.Dict [] [] pos) Hj:=λgd s σ H Q I h =>
 wpAny_Dict_empty (.ref s.heap.objs.size,_,I.laid (λ_ _ q=>fC _ q) (ka _) (Ak s.heap I.big),U,h _ (I.hok.fresh (ka _)))
end
def Bg:List (TE×TE)->St->Hp->(List (V×V)->Hp->Prop)->Prop
 |[],_,H,Q=>Q [] H
 | (tk,tv)::r,σ,H,Q=>tk σ H λx H1=>tv σ H1 λy H2=>Bg r σ H2 λps g=>Q ((x,y)::ps) g
abbrev VV:List (V×V)->List (B×B)->Prop:=Paired λp q=>RelV p.1 q.1/\RelV p.2 q.2
def PPs(X:Cx)(pos:Pos)(keys:List (Option Ev))(values:List Ev)(g:List (TE×TE)):Prop:=
 ∀(gd:List (J×Obj))(s:ϋ)(σ:St)(H:Hp)(Q:List (V×V)->Hp->Prop),Inv X gd σ H s->Bg g σ H Q ->
  Ze X (evalPairs (pairTrees keys values X.env pos)) (λvs s'=>∃ps H',Inv X gd σ H' s'/\VV ps vs/\Q ps H') X.xe s
def DB:PPs X pos [] [] []:=λgd s σ H Q I h=>pairTrees_nil_walk ([],H,I,.nil,h)
variable{tk:TE}{tv:TE}
def mD(hk:PE X k tk)(hv:PE X v tv)(hr:PPs X pos ks vs g):
  PPs X pos (Z k::ks) (v::vs) ((tk,tv)::g):=λgd s σ H Q I h =>
 pairTrees_cons_walk (thn (hk gd s σ H _ I h) λu s1 (x,H1,I1,z,V)=>thn (hv gd s1 σ H1 _ I1 V) λw2 s2 (y,H2,I2,q,P) =>
  thn (hr gd s2 σ H2 _ I2 P) λws s3 (ps,H3,I3,rel,K)=>((x,y)::ps,H3,I3,.cons (z,q) rel,K))
def iP(kvs more:List (Key×V)):List (Key×V):=more.foldl (λacc kv=>putK acc kv.1 kv.2) kvs
def KV.merge:∀{more:List (Key×V)}{rs:List (Key×B)}{kvs:List (Key×V)}{vs:List (Key×B)},KV more rs->KV kvs vs->KV (iP kvs more) (merged vs rs):=by
 intro more rs kvs vs r
 induction r generalizing kvs vs with
 |nil=>intro q;exact q
 |@cons p q ps qs h t z =>
  intro g;have e:KV (putK kvs p.1 p.2) (stored vs q.1 q.2):=by
   have:=g.put p.1 h.2
   rw[<- h.1];exact this
  exact z e
theorem e9:∀(more kvs:List (Key×V)),(iP kvs more).length<=kvs.length+more.length
 |[],kvs=>by show kvs.length<=kvs.length+0;lia
 |p::r,kvs=>by
  have h1:=e9 r (putK kvs p.1 p.2);have h2:=gC kvs p.1 p.2;show(iP (putK kvs p.1 p.2) r).length<=_;rw[pq];lia
theorem uq:∀{kvs:List (Key×V)}{ws:List (B×B)},VV (kvs.map λkv=>(kV kv.1,kv.2)) ws->∃rs,Carries (a6 P w) ws rs/\KV kvs rs
 |[],_,r=>by cases r;exact([],True.intro,.nil)
 |p::kvs,_,r=>by
  cases r with
  |@cons a b as bs h t =>
   let(rs,c,q):=uq t;let(b1,b2):=b;exact((p.1,b2)::rs,(kX h.1,U,c),.cons (U,h.2) q)
def Pb(g:List (TE×TE)):TE:=λσ H Q=>∀p,H p=Y->Bg g σ (upd H p (.dK [])) λps H2=>H2 p=Z (.dK [])/\∃kvs:List (Key×V),ps=kvs.map (λkv=>(kV kv.1,kv.2))/\kvs.length<=15/\Q (.ref p) (upd H2 p (.dK (iP [] kvs)))
def DD(h:PPs X pos keys values g)(Se:keys.all (·.isSome)=O)(hl:keys.length=values.length)(h0:keys ≠ [])
  (V:keys.length<=15):PE X (.Dict keys values pos) (Pb g):=by
 intro gd s σ H Q I q;have hn:=I.hok.fresh (ka s.heap.objs.size);have I1:=I.laid (t':=s.toks) (λ_ _ q=>fC _ q) (ka _) (Ak s.heap I.big)
 refine wpAny_Dict_walk (knd:=a6 X.prog X.w) Se hl h0 V (thn (h gd _ σ _ _ I1 (q _ hn)) λws s2 P=>?_)
 let(ps,H2,I2,rel,e,kvs,ep,lk,q2):=P;subst ep;let(rs,c,rk):=uq rel;let(z,hd,ak,r0,dd):=KD I2.hok e;cases r0;refine(rs,c,dd,λh' K hs=>(.ref s.heap.objs.size,_,?_,U,q2))
 have hz:(iP [] kvs).length<=kf:=by
  have h1:=e9 kvs [];rw[WJ]at h1;rw[Xp];lia
 have he:∃q,h'.get? s.heap.objs.size=Z q:=let(q,_,_,hq,_):=K;(q,hq)
 exact yx I2 (by rw[e];exact True.intro) hs he (ud hz hd (rk.merge .nil) K)
structure M2(X:Cx)(o:Ev)(m:Str)(apos:Pos)(e f:Ev)(aQ:Pos):Prop where
 base:attributeBase o m X.env (eval o X.env)=eval o X.env
 few:((backTo aQ (kg [e,f] X.env)).all (λx=>!x.1)&&(backToKw aQ (keywordEach [] X.env)).all (λx=>x.1.isSome)
  && decide (([e,f]:List Ev).length+([]:List Keyword).length+(if([]:List Keyword).isEmpty then 0 else 1)<30))=O
 line:(apos.endLine==aQ.line)=O
 trees:backTo aQ (kg [e,f] X.env)=[(ϊ,eval e X.env),(ϊ,eval f X.env)]
def IsD(H:Hp)(a:J):Prop:=(∃kvs,Rd H a (.dK kvs))\/∃kvs,Rd H a (.dT kvs)
def RW{σ:St}(I:Inv X gd σ H s)(d:IsD H a):
  s.TypeIs (.ref a) "dict" /\ (∀b,B.ref a=.ref b->∃ob,s.heap.get? b=Z ob/\ob.dict=Y)/\(a==sysModules)=false:=by
 obtain⟨kvs,e⟩|⟨kvs,e⟩:=d
 ·let(_,hd,vs,_,dd):=gJ I.hok e;refine(dd.typeIs,λb q=>?_,hd)
  cases q;let(ob,_,_,h1,h2,_):=dd;exact(ob,h1,h2.2.1)
 ·let(_,hd,xs,_,dd):=uc I.hok e;refine(dd.typeIs,λb q=>?_,hd)
  cases q;let(ob,_,_,h1,h2,_):=dd;exact(ob,h1,h2.2.1)
section
variable{σ:St}{s:ϋ}{d:V}{r:B}{o:Option V}
def Si(V:A.units+1<cLine)(I:Inv X gd σ H s)(g:gv H a y o)(P:RelV y u)(rd:RelV d r)(h:∀K s',Inv X gd σ H s'->RelV (o.getD d) K->Q K s'):
  wpAny (model X.prog X.w) A (call (.builtin "dict.get") [.ref a,u,r]) Q E s:=by
 obtain⟨kvs,k,e,q,l⟩|⟨kvs,k,b,e,q,eb,l⟩:=g
 ·subst q;let(z,hd,vs,rel,dd):=gJ I.hok e;refine call_meetsIn PySem.F.slot_dict_get dd.typeIs PySem.F.entry_dict_get (PySem.F.args_dict_get_3 _ _ _) (meets_dict_get_default (a6 X.prog X.w) a (kX P) hd r) (_,dd.mapOf,h _ _ (I.tok _) ?_);rw[l];exact(rel.val k).getD rd
 ·subst q
  cases(P)
  let(z,hd,xs,rel,dd):=uc I.hok e;refine call_meetsIn PySem.F.slot_dict_get dd.typeIs PySem.F.entry_dict_get (PySem.F.args_dict_get_3 _ _ _) (meetsH_dict_get_default (tupleKind (a6 X.prog X.w)) a b hd r) (tupleKind_room_in1 V,k,xs,jP I.hok eb,dd,h _ _ (I.tok _) ?_);rw[l];exact(rel.val k).getD rd
end
def Bi(td ty tx:TE):TE:=λσ H Q=>td σ H λx H1=>∃a,x=.ref a/\IsD H1 a/\ty σ H1 λy H2=>tx σ H2 λz g=>∃o,gv g a y o/\Q (o.getD z) g
section
variable{o e f:Ev}{apos aQ:Pos}{td ty tx:TE}
def zC(hu:X.A.units+1<cLine)(ho:PE X o td)(he:PE X e ty)(hf:PE X f tx)(m:M2 X o "get" apos e f aQ):PE X (.Call (.Attribute o "get" apos) [e,f] [] aQ) (Bi td ty tx):=by
 left;refine wpAny_Call_method m.base m.few m.line PySem.F.plainAttrs_dict PySem.F.slot_dict_get PySem.F.type_dict_get (thn (ho gd s σ H _ I h) λu s1 K=>?_)
 let(x,H1,P,rx,a,ex,d,q1):=K;subst ex;obtain rfl:=rx;let(t1,t2,_):=RW P d;refine(t1,t2,?_);rw[m.trees];refine Calls.callWith_builtin U (Calls.evalArgs_plain (Calls.spliced_cons (thn (he gd s1 σ H1 _ P q1) λiv s2 (y,H2,I2,ry,q2) =>
  Calls.spliced_cons (thn (hf gd s2 σ H2 _ I2 q2) λfv s3 (z,H3,I3,V,ov,g,q3)=>Calls.spliced_nil ?_))))
 exact Si hu I3 g ry V λw' s4 I4 q=>(_,H3,I4,q,q3)
end
section
def GA:cx X (.builtin "len") (λxs H Q=>∃a kvs,xs=[V.ref a]/\H a=Z (.dK kvs)/\Q (.int kvs.length) H):=by
 intro gd s σ H xs us Q I r h;let(a,kvs,U,ha,q):=h;let(u,U,ru):=vals1 r;cases ru;exact U7 I (.inl ha) λt s' g=>(.int kvs.length,H,g,(t,U),q)
end
end L2
set_option maxHeartbeats 4000000
namespace L2
open PySem PySem.Spec PyProof.Rows
def Px{h:Do}{a:Nat}(e:h.get? a=Z o):@LT.lt Nat _ a h.objs.size:=j5 e
def Et{h:Do}{a:Nat}(e:h.IsCell a v):@LT.lt Nat _ a h.objs.size:=e.lt
def mT{a b:Nat}(h:a<b):@Ne J a b:=ri h
def Uv{a b:Nat}(h:b<a):@Ne J a b:=C3 h
variable{env:Env}
def Ay
  (V:∀n k c,body (n,k) c=if(k==NameKind.free)=O then(cellOf env n >>= λa=>pure (.yield ((n,a)::c)))else pure (.yield c))
  (l:List (Str×NameKind)):∀(cs:List (Str×J)),(∀p∈l,p.2=NameKind.free->∃c,env.cells.lookup p.1=Z c) ->
   ∃cl,forIn l cs body=pure cl/\(∀x c,cl.lookup x=Z c->env.cells.lookup x=Z c\/cs.lookup x=Z c)/\(∀x,(x,NameKind.free)∈l->∃c,cl.lookup x=Z c)/\∀x c,cs.lookup x=Z c->∃q,cl.lookup x=Z q:=by
 induction l with
 |nil=>exact λcs _=>(cs,U,λ_ _ h=>.inr h,λ_ h=>(nomatch h),λ_ c h=>(c,h))
 |cons p r P =>
  let(n,k):=p;intro cs h;have hr:=λp hp=>h p (j1 _ hp)
  rw[Xu,V];by_cases hk:(k==NameKind.free)=O
  ·rw[if_pos hk];have K:=(hk:)
   let(c,Q):=h (n,k) j2 K;have e1:cellOf env n=pure c:=by unfold cellOf;rw[Q]
   rw[e1];let(cl,e,h1,h2,h3):=P ((n,c)::cs) hr;refine(cl,e,λx q hx=>?_,λx hx=>?_,λx q hx=>?_)
   ·obtain z|z:=h1 x q hx
    ·exact .inl z
    ·by_cases g:(x==n)=O
     ·have e3:=(g:)
      subst e3;rw[u4,g]at z;cases z;exact .inl Q
     ·rw[u4,YM.mpr g]at z;exact .inr z
   ·obtain z|z:=kO.mp hx
    ·have g:x=n:=congrArg Prod.fst z;exact h3 x c (by rw[u4,g,beq_self_eq_true])
    ·exact h2 x z
   ·by_cases g:(x==n)=O
    ·exact h3 x c (by rw[u4,g])
    ·exact h3 x q (by rw[u4,YM.mpr g];exact hx)
  ·rw[if_neg hk];let(cl,e,h1,h2,h3):=P cs hr;refine(cl,e,h1,λx hx=>?_,h3)
   obtain z|z:=kO.mp hx
   ·cases z;exact absurd U hk
   ·exact h2 x z
variable{scope:Scope}
def Cs(h:∀p∈scope.names,p.2=NameKind.free->∃c,env.cells.lookup p.1=Z c):
  ∃cl:List (Str×J),closureFor scope env=pure cl/\(∀x c,cl.lookup x=Z c->env.cells.lookup x=Z c)/\∀x,(x,NameKind.free)∈scope.names->∃c,cl.lookup x=Z c:=by
 let(cl,e,h1,h2,_):=Ay (body:=λx c=>if(x.2==NameKind.free)=O then(cellOf env x.1 >>= λa=>pure (.yield ((x.1,a)::c)))else pure (.yield c)) (λ_ _ _=>rfl) scope.names [] h
 refine(cl,?_,λx c hx=>(h1 x c hx).elim id λz=>by simp at z,h2)
 have g:closureFor scope env=(forIn scope.names ([]) (λx c=>if(x.2==NameKind.free)=O then(cellOf env x.1 >>= λa=>pure (.yield ((x.1,a)::c)))else pure (.yield c)) >>= λr=>pure r):=by
  simp only[closureFor]
 rw[g,e];rfl
theorem gQ{env:Env}:∀{names:List (Str×NameKind)}{x:Str}{k:NameKind},
  (names.map λ(n,k)=>if(k==NameKind.free&&env.scope.kind == .function&&env.kindOf n==Z .cell)then(n,NameKind.cell)else(n,k)).lookup x=Z k ->
   names.lookup x=Z k\/(names.lookup x=Z .free/\k=.cell)
 |[],_,_,h=>by simp at h
 | (n,k0)::r,x,k,h=>by
  have q:=@gQ env r x k
  replace h:Xc x ((if(k0==NameKind.free&&env.scope.kind == .function&&env.kindOf n==Z .cell)=O then(n,NameKind.cell)else(n,k0)) ::(r.map λ(n,k)=>if(k==NameKind.free&&env.scope.kind == .function&&env.kindOf n==Z .cell)then(n,NameKind.cell)else(n,k)))=Z k:=h
  cases hx:x==n with
  |true =>
   by_cases g:(k0==NameKind.free&&env.scope.kind == .function&&env.kindOf n==Z .cell)=O
   ·rw[if_pos g]at h;simp only[u4,hx]at h;cases h
    have:=by
     simp only[uB]at g;simpa using g.1.1
    subst this;exact .inr (by simp only[u4,hx],U)
   ·rw[if_neg g]at h;simp only[u4,hx]at h;exact .inl (by simp only[u4,hx];exact h)
  |false =>
   have h':(r.map λ(n,k)=>if(k==NameKind.free&&env.scope.kind == .function&&env.kindOf n==Z .cell)then(n,NameKind.cell)else(n,k)).lookup x=Z k:=by
    by_cases g:(k0==NameKind.free&&env.scope.kind == .function&&env.kindOf n==Z .cell)=O
    ·rw[if_pos g]at h;simpa only[u4,hx]using h
    ·rw[if_neg g]at h;simpa only[u4,hx]using h
   obtain z|z:=q h'
   ·exact .inl (by simp only[u4,hx];exact z)
   ·exact .inr (by simp only[u4,hx];exact z)
theorem mw{env:Env}:∀{names:List (Str×NameKind)}{x:Str},names.lookup x=Z .free ->
  (names.map λ(n,k)=>if(k==NameKind.free&&env.scope.kind == .function&&env.kindOf n==Z .cell)then(n,NameKind.cell)else(n,k)).lookup x=Z .free \/
  (names.map λ(n,k)=>if(k==NameKind.free&&env.scope.kind == .function&&env.kindOf n==Z .cell)then(n,NameKind.cell)else(n,k)).lookup x=Z .cell
 |[],_,h=>by simp at h
 | (n,k0)::r,x,h=>by
  have q:=@mw env r x;show Xc x ((if(k0==NameKind.free&&env.scope.kind == .function&&env.kindOf n==Z .cell)=O then(n,NameKind.cell)else(n,k0))::_)=_\/Xc x ((if(k0==NameKind.free&&env.scope.kind == .function&&env.kindOf n==Z .cell)=O then(n,NameKind.cell)else(n,k0))::_)=_
  cases hx:x==n with
  |true =>
   simp only[u4,hx]at h;cases h;by_cases g:(NameKind.free==NameKind.free&&env.scope.kind == .function&&env.kindOf n==Z .cell)=O
   ·rw[if_pos g];simp only[u4,hx];exact .inr trivial
   ·rw[if_neg g];simp only[u4,hx];exact .inl trivial
  |false =>
   simp only[u4,hx]at h;by_cases g:(k0==NameKind.free&&env.scope.kind == .function&&env.kindOf n==Z .cell)=O
   ·rw[if_pos g];simp only[u4,hx];exact q h
   ·rw[if_neg g];simp only[u4,hx];exact q h
inductive nY(X:Cx)(sc:Scope):List Str->List (Option Nat)->Prop
 |nil:nY X sc [] []
 |own{x:Str}{N:List Str}{c:List (Option Nat)}:sc.names.lookup x=Z .local->nY X sc N c->nY X sc (x::N) (Y::c)
 |got{x:Str}{i:Nat}{N:List Str}{c:List (Option Nat)}:X.N[i]?=Z x->sc.names.lookup x=Z .free->(X.env.kindOf x=Z .cell\/X.env.kindOf x=Z .free)->nY X sc N c->nY X sc (x::N) (Z i::c)
def nF(c:List (Option Nat))(σ:St):St:=c.map λo=>o.bind λ(i:Nat)=>(σ[i]?).join
variable{X:Cx}{sc:Scope}{N:List Str}
def nY.len(h:nY X sc N c):(nF c σ).length=N.length:=by
 unfold nF;rw[cO]
 induction h with
 |nil=>rfl
 |own _ _ g=>simp[g]
 |got _ _ _ _ g=>simp[g]
theorem nY.at(h:nY X sc N c):∀{j:Nat}{x:Str}{v:V},N[j]?=Z x->(nF c σ)[j]?=Z (Z v) ->
  ∃i:Nat,X.N[i]?=Z x/\σ[i]?=Z (Z v)/\sc.names.lookup x=Z .free/\(X.env.kindOf x=Z .cell\/X.env.kindOf x=Z .free):=by
 induction h with
 |nil=>intro j x v h1;simp at h1
 |own _ _ z =>
  intro j x v h1 h2;cases j with
  |zero=>simp[nF]at h2
  |succ j=>exact z (h1:) (by simpa [nF]using h2)
 |@got y i N c g1 g2 g3 _ z =>
  intro j x v h1 h2;cases j with
  |zero =>
   have e:=(h1:)
   subst e;refine(i,g1,?_,g2,g3);have g:=by simpa [nF]using h2
   cases q:σ[i]? with
   |none=>rw[q]at g;cases g
   |some o =>
    rw[q]at g
    have:o=Z v:=g
    rw[this]
  |succ j=>exact z (h1:) (by simpa [nF]using h2)
def blk(X:Cx)(N':List Str)(sc:Scope)(cl:List (Str×J))(C:J)(s₂:ϋ)(H₂:Hp)(fp:List J):Cx:=
 {X with N:=N',s₀:=s₂,ba:=H₂,env:=compEnvC sc cl C X.env,outer:=X.stack,ex:=fp,fn:=λ_=>ϊ,pn:=[],xe:=λ_ _=>False}
def PTs(X:Cx)(ifs:List Ev)(t:TT):Prop:=
 ∀(gd:List (J×Obj))(s:ϋ)(σ:St)(H:Hp)(Q:Bool->Hp->Prop),Inv X gd σ H s->t σ H Q ->
  Ze X (forIn ifs O λc r=>if r=O then do let ok <- isTrue c X.env (eval c X.env);pure (ForInStep.yield ok)else pure (ForInStep.yield r)) (TP X gd σ Q) X.xe s
def CT:TT:=λ_ H Q=>Q O H
def Dv:PTs X [] CT:=λ_ _ _ H _ I h=>wpAny_tests_nil (H,I,h)
def Du(h:PT X c t):PTs X [c] t:=λgd s σ H Q I q=>wpAny_tests_one (h gd s σ H Q I q)
def PR(g:TG)(tst:TT)(te:TE)(P:St)(Q:VK)(Zb:It)(H1:Hp):Prop:=
 ∃W:Nat->Nat->List V->St->Hp->Prop,(∃m,W 0 m [] P H1)/\∀i m ys z H',W i m ys z H' ->
  (Zb.stop i H'/\ys.length<=kf/\∀D,H' D=Y->Q (.ref D) (upd H' D (.lst ys))) \/
  (Zb.go i H'/\ys.length<kf/\∃N:List V->St->Hp->Prop,(∀K q H2,N K q H2->∃m',m'<m/\W (i+1) m' K q H2)/\∀x H2,Zb.yld i H' x H2->g x z H2 λq H3=>tst q H3 λb H4 =>
   if b=O then te q H4 λy H5=>N (ys++[y]) q H5 else N ys q H4)
def vM(cap:List (Option Nat))(wi:TI)(g:TG)(tst:TT)(te:TE):TE:=λσ H Q=>wi σ H (PR g tst te (nF cap σ) Q)
variable{A:Db}{R:Result->ϋ->Prop}{elt:Ev}{iter:Ev}{ifs:List Ev}
def Gx{target:Ev}{pos:Pos}{it acc:B}(I:Nat->ϋ->Prop)
  (turn:∀n s,I n s->wpAny (model prog w) A (pyNext it) (λr z=>match r with
   |none=>R (.ok .next) z
   |some v=>wpAny (model prog w) A (letOwnedTupleGo target it v) (λ_ q=>wpAny (model prog w) A (assign target env v) (λ_ s₂ =>
     wpAny (model prog w) A (forIn ifs O λc r=>if r=O then do let ok <- isTrue c env (eval c env);pure (ForInStep.yield ok)else pure (ForInStep.yield r)) (λok g =>
      if ok=O then wpAny (model prog w) A (eval elt env) (λx P =>
       wpAny (model prog w) A (call (.builtin "list.append") [acc,x]) (λ_ K=>∃m,m<n/\I m K) (λ_ _=>False) P) (λ_ _=>False) g
      else ∃m,m<n/\I m g) (λ_ _=>False) s₂) (λ_ _=>False) q) (λ_ _=>False) z) (λ_ _=>False) s)
  (n:Nat) (h:I n s):
  codeAny (model prog w) A (.compLoop (.ListComp elt [(target,iter,ifs,0)] scope pos) 0 it acc env) R s:=by
 refine codeAny_loop U I (λn s hI=>?_) n h
 show wpAny _ A ((compTurn (.ListComp elt [(target,iter,ifs,0)] scope pos) 0 it acc env).onRaise (λx=>do noteFrame x env;theTreesLotGoes x)) _ _ s
 refine wpAny_noted ?_;rw[compTurn_list];refine dF (wpAny_standAt (dF (QH (turn n s hI) (λr z h₁=>?_) λ_ _ h'=>h'.elim)))
 cases r with
 |none=>exact kb h₁
 |some v =>
  refine dF (QH h₁ (λ_ q V=>(dF (QH V (λ_ s₂ av=>dF (QH av (λok g Q=>?_) λ_ _ h'=>h'.elim)) λ_ _ h'=>h'.elim))) λ_ _ h'=>h'.elim)
  cases ok with
  |false=>exact kb (U,Q)
  |true =>
   exact dF (dF (QH Q (λx P ar=>dF (QH ar (λ_ K ak=>kb (kb (U,ak))) λ_ _ h'=>h'.elim)) λ_ _ h'=>h'.elim))
variable{gd:List (J×Obj)}{H:Hp}{tg:Ev}{N':List Str}{cap:List (Option Nat)}{tst:TT}{te:TE}
def Aw{σ:St}
  (hc:X.calm=O) (hi:PI X tg iter wi) (hV:sc.kind=.function) (gc:∀y∈sc.names,y.2 ≠ .cell) (iT:∀y∈sc.names,y.2=.local->sc.names.lookup y.1=Z .local)
  (jc:∀y∈sc.names,y.2=.free->X.env.kindOf y.1=Z .cell\/X.env.kindOf y.1=Z .free) (vv:nY X sc N' cap)
  (P:∀cl C s₂ H₂ fp,PG (blk X N' sc cl C s₂ H₂ fp) tg g/\PTs (blk X N' sc cl C s₂ H₂ fp) ifs tst/\PE (blk X N' sc cl C s₂ H₂ fp) elt te)
  (I:Inv X gd σ H s) (h:vM cap wi g tst te σ H Q)
  (fin:∀D C m H' s',Inv X gd σ H' s'->uG X gd H' C->s'.heap.Ns C m->Q (.ref D) H'->compPost (model X.prog X.w) X.A X.xe use Q' (.ref D) C (.ok .next) s')
  (hs:∀x,foldedSetIterable iter X.env x=pure x):
  Ze X (comprehension (.ListComp elt [(tg,iter,ifs,0)] sc pos) sc X.env p (newList []) ϊ (eval iter X.env) use) Q' X.xe s:=by
 let(cl,UU,Ac,UW):=Cs (scope:=sc) (env:=X.env) λq hq e=>I.ok.has q.1 (jc q hq e)
 refine wpAny_comprehension_free U hs UU hV iT (thn (hi gd s σ H _ I h) λv s1 h1=>thn h1 λdr s2 h2=>?_)
 let(it,fp,tn,Zb,H2,e,I2,T,aQ,f2,W,(m0,w0),turn):=h2;subst e;refine W0 (wpAny_newFunctionEnv gc (by intro y hy;simp at hy) (λh₁ Oe Kl=>?_) hV)
 dsimp only at Oe Kl ⊢
 generalize bj:s2.heap.push {cls:=.type "list",dict:=Y,data:=.seq ([]:List B).toArray}=HP at Oe Kl ⊢
 have hC:HP.objs.size=s2.heap.objs.size+1:=by rw[<- bj,wh]
 obtain⟨D,ak⟩:∃D:Nat,s2.heap.objs.size=D:=(_,U)
 obtain⟨C,dg⟩:∃C:Nat,HP.objs.size=C:=(_,U)
 rw[ak]at hC;rw[dg]at hC Oe Kl ⊢;rw[ak];have DC:D<C:=hC▸Xf D;have aR:∀{b:Nat}{o:Obj},s2.heap.get? b=Z o->b<D:=λe=>ak▸Px e
 have a5:∀{b:Nat}{o:Obj},s2.heap.get? b=Z o->b<C:=λe=>Xr (aR e) DC
 have aV:@Ne J D C:=mT DC;have old:∀b o,s2.heap.get? b=Z o->h₁.get? b=Z o:=λb o e =>
  Kl.extBut b o (mT (a5 e)) (fC _ (bj▸fC _ e))
 have gf:h₁.get? D=Z (([]:List B).toArray^^^0):=
  Kl.extBut _ _ aV (fC _ (by rw[<- bj,<- ak];exact ke _ U))
 have cu:(blk X N' sc cl C s2 H2 fp).Ok:=by
  refine(I.ok.mod,hV,I.ok.glob,I.ok.blt,(by show s2.heap.objs.size<=C;rw[ak];exact uE DC),λx y c h1 h2=>I.ok.inj x y c (Ac x c h1) (Ac y c h2),λx hx=>?_,λx c hx=>(nomatch hx),I.ok.hd,I.ok.frames,.inl U,λb P=>?_,
   λb o e=>I2.bs b o e,qR I2.ok.bsz I2.sz,λb o e P=>?_,λb P=>?_,I2.stack,I2.C2)
  ·have c4:sc.names.lookup x=Z .free:=by
    obtain hx|hx:=hx
    ·obtain z|z:=gQ hx
     ·exact absurd U (gc _ (PySem.mem_of_lookup z))
     ·exact z.1
    ·obtain z|z:=gQ hx
     ·exact z
     ·exact z.1
   exact UW x (PySem.mem_of_lookup c4)
  ·let(o,ho,_):=T.obj _ _ aQ b P;refine(?_,λx c e=>(f2 b P).2.2.2.2.1 x c (Ac x c e))
   show @Ne J b C;exact mT (a5 ho)
  ·let(_,_,_,z,_):=f2 b P;obtain z|z:=z
   ·exact I2.ok.JM b o e z
   ·exact absurd (ro (Px (show X.base.get? b=Z o from e)) (qR I2.ok.bsz z)) (SQ _)
  ·intro dd;obtain z|z:=kO.mp (I2.wV b dd)
   ·exact(f2 b P).2.1 z
   ·exact(f2 b P).2.2.1 z
 have nD:H2 D=none:=I2.hok.fresh (by rw[ak];exact ka _)
 have cS:=P cl C s2 H2 fp
 generalize V:blk X N' sc cl C s2 H2 fp=XB at cu cS
 have eP:XB.prog=X.prog:=by rw[<- V];rfl
 have eW:XB.w=X.w:=by rw[<- V];rfl
 have eK:XB.K=X.K:=by rw[<- V];rfl
 have eA:XB.A=X.A:=by rw[<- V];rfl
 have eE:XB.env=compEnvC sc cl C X.env:=by rw[<- V];rfl
 have eX:XB.xe=λ_ _=>False:=by rw[<- V];rfl
 have a0:XB.fs=frs X.stack:=by rw[<- V];rfl
 have b0:XB.ex=fp:=by rw[<- V];rfl
 have eS:XB.s₀=s2:=by rw[<- V];rfl
 have eH:XB.ba=H2:=by rw[<- V];rfl
 have bN:XB.pn=[]:=by rw[<- V];rfl
 have c1:XB.calm=true:=by rw[<- V];exact hc
 have eN:XB.N=N':=by rw[<- V];rfl
 have eL:XB.env.locals=C:=by rw[eE];rfl
 have ay:XB.env.cells=cl:=by rw[eE];rfl
 have Wu:∀(x:Str)(c:Nat),cl.lookup x=Z c->c<D:=λx c e=>by
  let(v,z):=I2.cell x c (Ac x c e);exact ak▸Et z
 have c2:∀(b:Nat),D<=b->b ∉ XB.fs:=λb P z=>by
  rw[a0]at z;let(_,o,ho,_):=I2.stack.mem z;exact SQ _ (ro (aR ho) P)
 have bM:∀(b:Nat),b∈fp->b<D:=λb P=>by
  let(o,ho,_):=T.obj _ _ aQ b P;exact aR ho
 have loop:∀s3:ϋ,s3={s2 with heap:=h₁,toks:=s2.toks+([]:List (Str×B)).length} ->
   codeAny (model X.prog X.w) X.A (.compLoop (.ListComp elt [(tg,iter,ifs,0)] sc pos) 0 (.ref it) (.ref D) (compEnvC sc cl C X.env)) (compPost (model X.prog X.w) X.A X.xe use Q' (.ref D) C) s3:=by
  rintro s3 rfl
  refine Gx (λn s'=>∃i ys cm H' its k,Inv XB [] cm H' s'/\tn i s'.heap/\(∀b∈fp,H' b=Y)/\H' D=Y/\s'.heap.get? D=Z ((its:List B).toArray^^^k)/\Vals ys its/\W i n ys cm H') ?_ m0
   (0,[],nF cap σ,H2,[],0,?_,T.keep _ _ _ aQ λb P o e=>old b o e,λb P=>(f2 b P).1,nD,gf,.nil,w0)
  ·rintro n s4 ⟨i,ys,av,H4,its,k,I4,ct,c0,d4,o4,v4,w4⟩
   have bp:∀{H':Hp}{pl:List (J×Obj)},(∀b∈fp,H' b=Y)->(∀q∈pl,q.1 ∉ fp)->∀b∈fp,uG XB pl H' b:=λ{H' pl} hn c6 b P=>by
    refine(hn b P,?_,?_,.inl (by rw[b0];exact P),λx c e=>?_,λq hq=>?_)
    ·rw[eL];exact mT (Xr (bM b P) DC)
    ·rw[a0];intro z;obtain z|z:=kO.mp (I2.wV b z)
     ·exact(f2 b P).2.1 z
     ·exact(f2 b P).2.2.1 z
    ·rw[ay]at e;exact(f2 b P).2.2.2.2.1 x c (Ac x c e)
    ·rw[bN]at hq;intro z;exact c6 q (hq:) (z▸P)
   have pD:∀q ∈ [(Prod.mk D ((its.toArray^^^k):Obj))],q.1 ∉ fp:=λq hq=>by
    have e:q=_:=d2.mp hq;subst e;intro z;exact SQ _ (bM _ z)
   have cf:Inv XB [(D,(its.toArray^^^k))] av H4 s4:=I4.mF λq hq=>by
    have e:q=_:=d2.mp hq;subst e;refine(o4,d4,?_,c2 _ (ka _),λv=>ad)
    rw[eL];exact aV
   have WW:=cf;rw[<- eA,<- eP,<- eW];obtain⟨stop,hz,qn⟩|⟨go,hz,N,hN,step⟩:=turn i n ys av H4 w4
   ·rw[<- eP,<- eW,<- eK]at T;refine QH (T.done XB U U U c1 i _ s4 av H4 (λ_ _=>False) cf (bp c0 pD) ct stop) (λr s5 (hr,I5)=>?_) λ_ _ z=>z
    subst hr;rw[eP,eW,eA];let(o5,n5,_):=I5.pin (D,(its.toArray^^^k)) (lY _ (d2.mpr U));have u5:Un (frs X.stack) fp H2 H4 s2.heap s5.heap:=by
     have z:=I5.base;rw[a0,b0,eH,eS]at z;exact z
    have c3:∀b o,s2.heap.get? b=Z o->@Ne J b D:=λb o e=>mT (aR e)
    have ne5:∀b u,H4 b=Z u->b≠D:=λb u e z=>by rw[z,d4]at e;cases e
    have c8:HOk X.prog X.w H4 s5.heap:=by
     have z:=I5.hok;rw[eP,eW]at z;exact z
    have Wq:=fin D C;let(mC,cT,_):=id I5.loc;rw[eL]at cT;have IX:Inv X gd σ (upd H4 D (.lst ys)) s5:=by
     refine I2.Va (s':=s5) (ch:=fp) ?_ (u5.keep,u5.slot,λb o e n hx=>?_,u5.there,λb xs e=>?_,λb o u e=>?_,λb ps e=>?_) ?_ I5.bare λb P=>((f2 b P).2.2.2.1,(f2 b P).2.1,(f2 b P).2.2.2.2.1,(f2 b P).2.2.2.2.2)
     ·have z:=I5.os;rw[eS]at z;exact z
     ·rw[au (c3 b o e)];exact u5.free b o e n hx
     ·have z:=u5.sd b xs e;rw[au (ne5 b _ z)];exact z
     ·have z:=u5.kJ b o u e;rw[au (ne5 b _ z)];exact z
     ·let(more,z):=u5.sf b ps e;exact(more,by rw[au (ne5 b _ z)];exact z)
     ·intro a o e;by_cases ha:a=D
      ·subst ha;rw[az]at e;cases e;exact(hz,its,k,v4,o5)
      ·rw[au ha]at e;exact(c8 a o e).dA (λ_ _ _ q=>q) (λb q=>by rw[au (ne5 b _ q)];exact q) λb xs q=>by rw[au (ne5 b _ q)];exact q
    refine Wq mC _ s5 IX ?_ cT (qn D d4);have dh:H4 C=none:=by
     have z:=I5.free;rw[eL]at z;exact z
    refine(by rw[au (Ne.symm aV)];exact dh,?_,?_,.inr ?_,λx c e=>?_,λq hq=>?_)
    ·have:@LT.lt Nat _ X.env.locals s2.heap.objs.size:=I2.lt
     exact Uv (Xr (ak▸this) DC)
    ·exact I2.Uu (by rw[ak];exact uE DC)
    ·exact qR I2.sz (by rw[ak];exact uE DC)
    ·let(v,z):=I2.cell x c e;exact mT (Xr (ak▸Et z) DC)
    ·exact mT (a5 (I2.pin q hq).1)
   ·have T':=T;rw[<- eP,<- eW,<- eK]at T';refine QH (T'.item XB U U U c1 i _ s4 av H4 (λ_ _=>False) cf (bp c0 pD) ct go) (λr s5 (u,hr,h5)=>?_) λ_ _ z=>z
    subst hr;refine thn h5 λ_ s6 ar=>?_
    let(x,H6,I6,r6,y6,a3,dn):=ar;have dp:=I6.pinned (bp dn pD) (T.obj _ _ a3);let(da,c5,dc):=cS;rw[<- eE];have cL:=da _ s6 av H6 x u _ dp r6 (step x H6 y6);rw[eX]at cL;refine thn cL λ_ s7 ar=>?_
    let(aP,H7,I7,q7):=ar;have cH:=c5 _ s7 aP H7 _ I7 q7;rw[eX]at cH;refine thn cH λb s8 ar=>?_
    let(H8,I8,q8):=ar;have back:∀{cg:St}{H9:Hp}{s9:ϋ},Inv XB ([(D,(its.toArray^^^k))]++sS fp s6.heap) cg H9 s9->tn (i+1) s9.heap/\(∀b∈fp,H9 b=Y)/\H9 D=Y/\s9.heap.get? D=Z (its.toArray^^^k):=λ{cg H9 s9} I9=>by
     have z:=I9.pin (D,(its.toArray^^^k)) (lY _ (pL _ (d2.mpr U)));refine(T.keep _ _ _ a3 λb P o e=>(I9.pin (b,o) (lY _ (lY _ (fY P e)))).1,λb P=>?_,z.2.1,z.1)
     let(o,e,_):=T.obj _ _ a3 b P;exact(I9.pin (b,o) (lY _ (lY _ (fY P e)))).2.1
    cases b with
    |false =>
     rw[if_neg qr]at q8 ⊢;let(m',hm,w8):=hN _ _ _ q8;let(t1,t2,t3,t4):=back I8;exact(m',hm,i+1,ys,aP,H8,its,k,I8.mF (λq hq=>nomatch hq),t1,t2,t3,t4,v4,w8)
    |true =>
     rw[if_pos rfl]at q8 ⊢;have cP:=dc _ s8 aP H8 _ I8 q8;rw[eX]at cP;refine thn cP λyv s9 ar=>?_
     let(y,H9,I9,r9,n9):=ar;let(m',hm,w9):=hN _ _ _ n9;let(t1,t2,t3,t4):=back I9;have hsz:its.toArray.size<=kf:=by
      have e:=v4.length;have e2:its.toArray.size=its.length:=by simp
      omega
     refine append_at (hsz:=hsz) t4 λh' cK df=>?_
     ·refine(m',hm,i+1,ys++[y],aP,H9,its++[yv],k+1,?_,T.keep _ _ _ t1 λb P o e=>cK.extBut b o (mT (bM b P)) e,t2,t3,?_,v4.append (.cons r9 .nil),w9)
      ·refine(I9.mF (pins':=[]) (λq hq=>nomatch hq)).turned (t':=s9.toks) (it:=D) (λb o P e=>cK.extBut b o P e) t3 ?_ (.inr ?_) (λx c e=>?_) λq hq=>?_
       ·rw[eL];exact aV
       ·rw[eS,ak];exact ka _
       ·rw[ay]at e;exact mT (Wu x c e)
       ·rw[bN]at hq;exact nomatch hq
      ·rw[df];simp
  ·
   refine(cu,by rw[eS],I2.bare,by rw[a0,b0,eH,eS];exact Un.kept old,(_,by rw[eL];exact Oe,λj x v h1 h2 h3=>?_),λx c e=>?_,?_,λx c e=>?_,λq hq=>?_,by rw[eP,eW];exact I2.hok.kept old,by rw[eN];exact vv.len)
   ·rw[eN]at h1;let(i,g1,g2,g3,g4):=vv.at h1 h2;let(m,hn,hl):=I2.loc;have hv:Vis X.env.scope x:=by
     obtain z|z:=g4
     ·exact .inr (.inl z)
     ·exact .inr (.inr z)
    let(u,r,l):=hl i x v g1 g2 hv;refine(u,r,.inr (?_,?_))
    ·rw[eE];exact(mw g3).symm
    ·obtain⟨hk,_⟩|⟨_,c,e,z⟩:=l
     ·obtain y|y:=g4
      ·rw[y]at hk;cases hk
      ·rw[y]at hk;cases hk
     ·let(c',e'):=UW x (PySem.mem_of_lookup g3)
      have:=Ac x c' e'
      rw[e]at this;cases this;let(o,ho,hd):=z;exact(c,by rw[ay];exact e',o,old c o ho,hd)
   ·rw[ay]at e;let(v,o,ho,hd):=I2.cell x c (Ac x c e);exact(v,o,old c o ho,hd)
   ·rw[eL];exact I2.hok.fresh (by rw[ak];exact uE DC)
   ·rw[ay]at e;exact I2.gg x c (Ac x c e)
   ·rw[bN]at hq;exact nomatch hq
 exact codeAny_compStart_list (loop _ U) (T.self X.A 0 _ _ _ (T.keep _ _ _ aQ λb P o e=>old b o e) (loop _ U))
def D7(h:(sc.names.all λy=>y.2 != .free ||(X.env.kindOf y.1==Z .cell||X.env.kindOf y.1==Z .free))=O):
  ∀y∈sc.names,y.2=.free->X.env.kindOf y.1=Z .cell\/X.env.kindOf y.1=Z .free:=λy g e=>by
 have z:=RY.mp h y g;rw[e]at z;simpa using z
def DE{pos:Pos}
  (hc:X.calm=O) (hi:PI X tg iter wi) (P:nY X sc N' cap)
  (K:∀cl C s₂ H₂ fp,PG (blk X N' sc cl C s₂ H₂ fp) tg g/\PTs (blk X N' sc cl C s₂ H₂ fp) ifs tst/\PE (blk X N' sc cl C s₂ H₂ fp) elt te)
  (hV:‹sc.kind=.function›) (gc:autoParam (∀y∈sc.names,y.2 ≠ .cell) zdc._auto_1) (iT:autoParam (∀y∈sc.names,y.2=.local->sc.names.lookup y.1=Z .local) zdc._auto_1)
  (V:‹(sc.names.all λy=>y.2 != .free ||(X.env.kindOf y.1==Z .cell||X.env.kindOf y.1==Z .free))=true›)
  (hs:∀x,foldedSetIterable iter X.env x=pure x:=by intro _;rfl):PE X (.ListComp elt [(tg,iter,ifs,0)] sc pos) (vM cap wi g tst te):=by
 left;exact Aw hc hi hV gc iT (D7 V) P K I h (λD C m H' s' I' f' hn q=>((m,hn,λh' z=>(.ref D,H',(I'.turned (λb o K e=>z.extBut b o K e) f'.1 f'.2.1.symm.symm f'.2.2.2.1 f'.2.2.2.2.1 f'.2.2.2.2.2),U,q)))) hs
variable{eJ:Pos}{py:Pos}
def Dx
  (hN:X.N.Nodup) (V:X.N[i]?=Z y) (hy:Loc X.env.scope y)
  (hc:X.calm=O) (hi:PI X tg iter wi) (vv:nY X sc N' cap)
  (K:∀cl C s₂ H₂ fp,PG (blk X N' sc cl C s₂ H₂ fp) tg g/\PTs (blk X N' sc cl C s₂ H₂ fp) ifs tst/\PE (blk X N' sc cl C s₂ H₂ fp) elt te)
  (P:‹swapsWith (.ListComp elt [(tg,iter,ifs,0)] sc pos) (Z (.Name y py)) eJ.line X.env=pure true›)
  (hf:AT X y:=by first|exact .inl rfl|exact .inr rfl|assumption)
  (hV:‹sc.kind=.function›) (gc:autoParam (∀y∈sc.names,y.2 ≠ .cell) zdc._auto_1) (iT:autoParam (∀y∈sc.names,y.2=.local->sc.names.lookup y.1=Z .local) zdc._auto_1)
  (jc:‹(sc.names.all λy=>y.2 != .free ||(X.env.kindOf y.1==Z .cell||X.env.kindOf y.1==Z .free))=true›)
  (hs:∀x,foldedSetIterable iter X.env x=pure x:=by intro _;rfl):PS X (.Assign [.Name y py] (.ListComp elt [(tg,iter,ifs,0)] sc pos) eJ) (jm (vM cap wi g tst te) (gD i)):=by
 intro gd s σ H Dn I h;rw[exec_Assign_Name_used _ _ _ _ P];refine dF (wpAny_standAt (dF ?_));refine dF (QH (Aw hc hi hV gc iT (D7 jc) vv K I h (λD C m H' s' I' f' hn q=>?_) hs)
  (λ_ s' hq=>kb (kb hq)) λ_ _ e=>e)
 let(o,es,ep,ho,hd,hr):=id hn;have I2:=I'.pinned (λb K=>by rw[d2.mp K];exact f') λb K=>by
  rw[d2.mp K];exact(o,ho,λv=>by rw[hd];simp)
 refine wpAny_assign_Name (gX I2 hN V hy (v:=.ref D) U (λs2 I3=>?_) hf)
 have z:=(I3.pin (C,o) (lY _ (lY _ (fY (d2.mpr U) ho)))).1;exact(m,(o,es,ep,z,hd,hr),λh' Q=>(_,H',(I3.md.turned (λb o K e=>Q.extBut b o K e) f'.1 f'.2.1 f'.2.2.2.1 f'.2.2.2.2.1 f'.2.2.2.2.2),q))
variable{a:J}
section
theorem wm{K:BT}{xs:List V}{g:TG}{σ:St}{Q:VK}(Pv:Nat->List V->St->Hp->Prop)(h0:Pv 0 [] σ H)
  (hl:∀i ys σ H,i<=xs.length->Pv i ys σ H->SqL K H a xs/\ys.length<kf)
  (hs:∀i x ys σ H,xs[i]?=Z x->Pv i ys σ H->g x σ H λz H3=>tst z H3 λb H4=>if b=O then te z H4 λy H5=>Pv (i+1) (ys++[y]) z H5 else Pv (i+1) ys z H4)
  (hd:∀ys σ H,Pv xs.length ys σ H->∀D,H D=Y->Q (.ref D) (upd H D (.lst ys))):
  PR g tst te σ Q (Itl K a) H:=by
 refine(λi m ys σ H=>m=xs.length-i/\i<=xs.length/\Pv i ys σ H,(xs.length,ad,v5 _,h0),?_)
 rintro i m ys σ H ⟨rfl,hi,p⟩
 let(q,hz):=hl i ys σ H hi p;by_cases P:i<xs.length
 ·refine .inr ((xs,xs[i],q,by simp[P]),hz,Pv (i+1),λar ak H' p'=>(xs.length-(i+1),al,U,P,p'),λx H' y=>?_)
  let(e,y):=y;subst e;exact hs i x ys σ _ (y xs q) p
 ·have e:i=xs.length:=al
  subst e;exact .inl ((xs,q,ka _),uE hz,hd ys σ H p)
inductive Tw(x:V)(lo:Option Int)(hi:Option Int)(H:Hp)(Q:VK):Prop
 |mk(z:_)(h1:x=.str z)(h2:z.length<=kf)(h3:Q (.str (Txt.slice z lo hi)) H)
def Qh:SlR X Tw:=by
 intro gd s σ H x v vl vu lo hi sl Q I V hs pl pu h;let(z,U,g,q):=h;let(t,U):=V;refine("str",_,PySem.F.slot_str_getitem.lookup,typeIs_str s z t,?_);let(o,h1,h2,h3):=hs;have fin:∀y t' k,y=Txt.slice z lo hi->EP X gd σ Q (.str y t') {s with toks:=k}:=λy t' k e=>by subst e;exact(.str _,H,I.tok k,(_,U),q)
 cases pl with
 |none =>
  cases pu with
  |none=>exact wpAny_getItem_str_slice (l:=Y) (u:=Y) (st:=Y) (o,h1,h2,h3) U (post_val_or_str (qR (Txt.slice_le z _ _) g,λt' k=>fin _ t' k U))
  |int j K=>exact wpAny_getItem_str_slice (l:=Y) (u:=Z (j,K)) (st:=Y) (o,h1,h2,h3) U (post_val_or_str (qR (Txt.slice_le z _ _) g,λt' k=>fin _ t' k U))
 |int i P =>
  cases pu with
  |none=>exact wpAny_getItem_str_slice (l:=Z (i,P)) (u:=Y) (st:=Y) (o,h1,h2,h3) U (post_val_or_str (qR (Txt.slice_le z _ _) g,λt' k=>fin _ t' k U))
  |int j K=>exact wpAny_getItem_str_slice (l:=Z (i,P)) (u:=Z (j,K)) (st:=Y) (o,h1,h2,h3) U (post_val_or_str (qR (Txt.slice_le z _ _) g,λt' k=>fin _ t' k U))
def Bk:∀{us:List B},Vals (ys.map V.str) us->StrsAre us ys:=by
 induction ys with
 |nil=>intro us r;cases r;exact .nil
 |cons n ns z =>
  intro us r;cases r with
  |cons q g =>
   let(t,e):=q;subst e;exact .cons n t (z g)
inductive rJoin(K:BT)(x:V)(xs:List V)(H:Hp)(Q:VK):Prop
 |mk(sep l ys:_)(h1:x=.str sep)(h2:xs=[.ref l])(h3:SqL K H l (ys.map V.str))(h4:(ys.map (·.length)).sum+ys.length*sep.length<=16777216)(h5:Q (.str (Txt.join sep ys)) H)
def NS:MtR X "str.join" (rJoin X.K):=by
 intro gd s σ H x xs v us Q I g rs h;let(sep,l,ys,U,U,hl,hw,q):=h;let(t,U):=g;let(u,U,ru):=Vals.one rs;cases ru;let(its,r,z,P):=I.list hl;exact join_list z.isList (Bk r:) hw λt' k=>(.str _,H,I.tok k,(_,U),q)
def LV{bs:List Bool}:∀{us:List B}{i:Nat}{v:B},Vals (bs.map V.bl) us->us[i]?=Z v->∃b,bs[i]?=Z b/\v=.bool b:=by
 induction bs with
 |nil=>intro us i v r h;cases r;simp at h
 |cons b bs z =>
  intro us i v r h;cases r with
  |cons q g =>
   cases i with
   |zero =>
    simp only[List.getElem?_cons_zero,Option.some.injEq]at h;subst h;exact(b,ad,q)
   |succ i =>
    let(c,h1,h2):=z g (h:)
    exact(c,(h1:),h2)
def all_range(bs:List Bool):(AK bs.length).all (λi=>bs.getD i ϊ)=bs.all id:=by
 have e:(AK bs.length).map (λi=>bs.getD i ϊ)=bs:=by
  apply Xg
  ·simp
  ·intro i h1 h2;simp at h1;simp[h1]
 conv=>rhs;rw[<- e]
 rw[YN];rfl
def K6(P:X.calm=O):cx X (.builtin "all") (λxs H Q=>∃(l:J)(bs:List Bool),xs=[.ref l]/\SqL X.K H l (bs.map V.bl)/\Q (.bl (bs.all id)) H):=by
 intro gd s σ H xs us Q I r h;let(l,bs,U,hl,q):=h;let(u,U,ru):=vals1 r;cases ru;let(its,rv,g,hz):=I.list hl;have z:l<s.heap.objs.size:=by let(_,e,_):=g.isList;exact j5 e
 have hlen:its.toArray.size=bs.length:=by
  have e:=rv.length;rw[cO]at e;simp[e]
 refine call_all_walk (wpAny_pyIter_list g.isList ((s.heap.objs.size,[s.heap.objs.size,l],[s.heap.objs.size],its.toArray.size,_,_,λi=>bs.getD i ϊ,U,Walks.list (show X.A.in1.handled=Y from I.ok.hd P) s.heap.objs.size l (ri z) its.toArray,((_,ke _ U,U,U),g.isList.push _),?_,λh' tk hk=>?_)))
 ·intro i v s' Q' E' hP hq;let(b,h1,U):=LV rv (hP:)
  have e:bs.getD i ϊ=b:=by simp[h1]
  exact wpAny_truthy_bool (e▸hq)
 ·refine(.bl _,H,I.kept λb o e=>hk b o (ri (j5 e):) (fC _ e),U,?_)
  rw[hlen,all_range];exact q
theorem K5:cx X (.builtin "isinstance") (λxs H Q=>∃x T t b,xs=[x,.ty T]/\kL X.K H x t/\W.kitOne X.K t (.type T)=Z b/\Q (.bl b) H):=by
 intro gd s σ H xs us Q I r h;let(x,T,t,b,U,ty,e,q):=h;let(u,z,U,ru,g):=vals2 r;cases g;exact Gg I ru ty e λtk=>(.bl b,H,I.tok tk,U,q)
end
variable{I:J}{fp:List J}{n:Nat}{ty:String}{Q:B->ϋ->Prop}
section
variable{prog:Da}{w:Cl}{E:B->ϋ->Prop}{s:ϋ}
def FZ:typeLookup (.type "list_reverseiterator") "__len__"=pure none:=bi
def Kq:typeLookup (.type "list_reverseiterator") "__length_hint__"=pure (Z (.builtin "list_reverseiterator.__length_hint__")):=bi
def JW{Q:Bool->ϋ->Prop}(hT:s.TypeIs (.ref I) "list_reverseiterator")(z:∀b tk,s.toks<=tk->Q b {s with toks:=tk}):wpAny (model prog w) A (Builtin.List.listLengthHint (.ref I)) Q E s:=by
 refine dF (OZ hT FZ (dF (OZ hT Kq ?_)))
 generalize g:("list_reverseiterator.__length_hint__")=q
 wp_delta
 rw[show splitId q=Z ("list_reverseiterator","__length_hint__")from by subst g;decide +kernel]
 subst g;exact dF (WT (b:=O) hT bi (kb (z _ _ (ka _))))
theorem Ai{R:Result->ϋ->Prop}{wr:List J}{P:Nat->B->Prop}{St:Nat->Do->Prop}(W:Walks prog w A.in1 I fp wr n P St)(hT:∀i (s:ϋ),St i s.heap->s.TypeIs (.ref I) ty)
  (ay:(B.type ty == .type "list" || Value.type ty == .type "tuple")=ϊ) (av:∀x ∈ ["set","frozenset","dict","dict_keys","dict_values","dict_items"],(B.type ty == .type x)=ϊ)
  (hint:∀(s:ϋ)(Q:Bool->ϋ->Prop)(E:B->ϋ->Prop),St 0 s.heap->(∀b tk,s.toks<=tk->Q b {s with toks:=tk})->wpAny (model prog w) A.in1 (Builtin.List.listLengthHint (.ref I)) Q E s)
  (S:J) (res:B) (c₀:Nat) (q:St 0 s.heap) (ak:S ∉ fp) (hI:I∈fp) (hS:s.heap.get? S=Z (#[]^^^c₀))
  (hR:∀s' nN K,Moved (S::wr) (λg g'=>g'=g) s s'->s'.heap.get? S=Z {cls:=.type "list",dict:=Y,data:=.seq nN K,slots:=#[]}->ItemsOf P nN n->R (.ok (.ret res)) s') (hn:n<=kf):
  wpAny (model prog w) A.in1 (Builtin.List.listExtendWith (.ref S) (.ref I) res)
   (λfin s'=>match fin with|.done f=>R (.ok f) s' |.again K=>K.quiet=O/\codeAny (model prog w) A K R s') (λe s'=>R (.error e) s') s:=by
 have aP:S≠I:=λe=>ak (e▸hI)
 have h1:Builtin.List.listSameRef (.ref S) (.ref I)=false:=by simp[Builtin.List.listSameRef,aP]
 refine dF (Lo (hT 0 _ q) ?_);rw[if_neg (by rw[Bool.or_assoc,h1,ay];decide)]
 refine dF (W.self 0 _ _ _ q (dF (CF (hint _ _ _ q λb tk htk=>?_))))
 have tail:∀h' V c,s.toks<=V->(∀b o,b≠S->s.heap.get? b=Z o->h'.get? b=Z o)->h'.get? S=Z {cls:=.type "list",dict:=Y,data:=.seq #[] c,slots:=#[]} ->
   wpAny (model prog w) A.in1 (again (.builtin "list.extend.loop" ([.ref S,.ref I,res],[]))) (λfin s'=>match fin with|.done f=>R (.ok f) s' |.again K=>K.quiet=O/\codeAny (model prog w) A K R s') (λe s'=>R (.error e) s') {s with heap:=h',toks:=V}:=by
  intro h' V c ht hk aR;exact kb (O3 F.plain_extend_loop _,codeAny_extend_loopS W.toS hn _ ak _ n 0 _ _ _ U (v5 _) (W.frame 0 s.heap _ q λb hb o e=>hk b o (λz=>ak (z▸hb)) e) aR (ItemsOf.nil P) λs' nN K hm vw gf=>hR s' nN K (λb o hb e=>hm.heap b o hb (hk b o (λz=>hb (by rw[z];exact j2)) e),hm.gens,hm.drawn,hm.os,qR ht hm.toks) vw gf)
 cases b with
 |false =>
  rw[if_neg ?_]
  ·exact tail _ _ _ htk (λ_ _ _ e=>e) hS
  ·intro z;rw[YA,Lm]at z;let(x,hx,hz):=z;rw[av x hx]at hz;cases hz
 |true =>
  refine dF (VQ (dF ?_));refine dF (Xb hS U ?_);have ar:=Fq (Lp (·.push B.none)) hS U;refine Xb ar U ?_;have aQ:=Fq (Lp (·.pop)) ar U;exact tail _ _ _ htk (λb o hb e=>(EA _ _ (Ne.symm hb)).trans ((EA _ _ (Ne.symm hb)).trans e)) aQ
theorem ur{P:Nat->B->Prop}{St:Nat->Do->Prop}(W:Walks prog w A.in1.in1 I fp wr n P St)(hT:∀i (s:ϋ),St i s.heap->s.TypeIs (.ref I) ty)
  (ar:(B.type ty == .type "list" || Value.type ty == .type "tuple")=ϊ) (ak:∀x ∈ ["set","frozenset","dict","dict_keys","dict_values","dict_items"],(B.type ty == .type x)=ϊ)
  (hint:∀(s:ϋ)(Q:Bool->ϋ->Prop)(E:B->ϋ->Prop),St 0 s.heap->(∀b tk,s.toks<=tk->Q b {s with toks:=tk})->wpAny (model prog w) A.in1.in1 (Builtin.List.listLengthHint (.ref I)) Q E s)
  (av:St 0 s.heap) (ay:∀b∈fp,b<s.heap.objs.size) (hI:I∈fp)
  (hQ:∀s' nN c',Moved (s.heap.objs.size::wr) (λg g'=>g'=g) {s with heap:=s.heap.push (~~~#[])} s' ->
   s'.heap.get? s.heap.objs.size=Z {cls:=.type "list",dict:=Y,data:=.seq nN c',slots:=#[]}->ItemsOf P nN n->Q (.ref s.heap.objs.size) s') (hn:n<=kf):
  wpAny (model prog w) A (call (.type "list") [.ref I]) Q E s:=by
 have V:=λhm=>SQ _ (ay _ hm)
 refine callType_codes (Q₁:=λobj q=>obj=.ref s.heap.objs.size/\q={s with heap:=s.heap.push (~~~#[])}) F.called_list (F.typeCall_list_1 _) F.entry_list_init (code_list_new _ (U,U)) λobj q h₁=>?_
 let(U,U):=h₁;have hS:(s.heap.push (~~~#[])).get? s.heap.objs.size=Z (~~~#[]):=ke _ U;refine((_,hS,U),F.args_list_init_2 _ _,(dF (dF (wpAny_seqItems hS U (kb (dF (Xb hS U ?_)))))));have aP:=Fq (Lp (λ_=>(#[]))) hS U
 have oth:∀b o,b≠s.heap.objs.size->(s.heap.push (~~~#[])).get? b=Z o->((s.heap.push (~~~#[])).update s.heap.objs.size (Lp (λ_=>(#[])))).get? b=Z o:=
  λb o K e=>(EA _ _ (Ne.symm K)).trans e
 exact Ai (hn:=hn) W hT ar ak hint s.heap.objs.size .none _ (W.frame 0 s.heap _ av λb K o e=>oth b o (λz=>V (z▸K)) (fC _ e)) V hI aP λs' nN c' hm aQ gf=>((U,hQ s' nN c' (λb o K e=>hm.heap b o K (oth b o (λz=>K (by rw[z];exact j2)) e),hm.gens,hm.drawn,hm.os,hm.toks) aQ gf))
end
def si(K:BT)(te:TE):TE:=λσ H Q=>te σ H λx H1=>∃l ys,x=.ref l/\SqL K H1 l ys/\∀q,H1 q=Y->Q (.ref q) (upd H1 q (.lst ys.reverse))
def yV{its:Array B}(r:Vals ys its.toList)(h:ItemsOf (λi v=>its[its.size-1-i]?=Z v) acc its.size):Vals ys.reverse acc.toList:=by
 have e:acc.toList=its.toList.reverse:=by
  apply YO
  intro i;by_cases hi:i<its.size
  ·have h1:i<acc.size:=by rw[h.1];exact hi
   have h2:=h.2 i acc[i] (by simp[h1])
   rw[List.getElem?_reverse (hi:)]
   simp only[W2,XC];rw[h2];simp[h1]
  ·have h1:¬ i<acc.size:=by rw[h.1];exact hi
   rw[Ln (h1:),Ln (hi:)]
 rw[e];exact Vals.reverse r
variable{l:J}
def v8{σ:St}{s:ϋ}{Q:VK}{ob:Obj}{tk:Nat}{P:Nat->B->Prop}{St:Nat->Do->Prop}{ys:List V}(I:Inv X gd σ H s)(av:l<s.heap.objs.size)(W:Walks X.prog X.w X.A.in1.in1 s.heap.objs.size [s.heap.objs.size,l] [s.heap.objs.size] n P St)(hT:∀i (s':ϋ),St i s'.heap->s'.TypeIs (.ref s.heap.objs.size) ty)
  (ak:(B.type ty == .type "list" || Value.type ty == .type "tuple")=ϊ) (K:∀x ∈ ["set","frozenset","dict","dict_keys","dict_values","dict_items"],(B.type ty == .type x)=ϊ)
  (hint:∀(s':ϋ)(Q:Bool->ϋ->Prop)(E:B->ϋ->Prop),St 0 s'.heap->(∀b tk,s'.toks<=tk->Q b {s' with toks:=tk})->wpAny (model X.prog X.w) X.A.in1.in1 (Builtin.List.listLengthHint (.ref s.heap.objs.size)) Q E s')
  (ar:St 0 (s.heap.push ob)) (hv:∀acc,ItemsOf P acc n->Vals ys acc.toList) (hz:ys.length<=kf) (hn:n<=kf) (q:∀p,H p=Y->Q (.ref p) (upd H p (.lst ys))):
  Ze X (call (.type "list") [.ref s.heap.objs.size]) (EP X gd σ Q) X.xe {s with heap:=s.heap.push ob,toks:=tk}:=by
 refine ur W hT ak K hint ar (λb g=>?_) ad (λs' nN c' hm ay gf=>?_) hn
 ·rw[wh];obtain z|z:=kO.mp g
  ·rw[z];exact Xf _
  ·rw[d2.mp z];exact X7 av
 ·rw[Moved.eq_with hm];have kp:=λb o e=>hm.heap b o (λz=>by
   have g:=j5 e;obtain z|z:=kO.mp z
   ·rw[z]at g;simp only[wh]at g
    lia
   ·rw[d2.mp z]at g
    lia) (fC _ (fC _ e))
  have hf:H ((s.heap.push ob).objs.size)=none:=I.hok.fresh (by rw[wh];lia)
  exact(.ref _,_,I.laid (o:=.lst ys) kp (by rw[wh];lia) (hz,nN.toList,c',hv nN gf,(ay:)),U,q _ hf)
variable{e:Ev}
def sV{p1 p2 bM pos:Pos}(hc:X.calm=O)(ay:Gl X "list")(ar:X.mg "list"=Y)(av:Gl X "reversed")(ak:X.mg "reversed"=Y)(he:PE X e te)
  (g:‹AD X e›) (V:‹kg [.Call (.Name "reversed" p2) [e] [] bM] X.env=[(ϊ,eval (.Call (.Name "reversed" p2) [e] [] bM) X.env)]›):
  PE X (.Call (.Name "list" p1) [.Call (.Name "reversed" p2) [e] [] bM] [] pos) (si X.K te):=by
 left;refine GN (dE I ay ar boot_list (PyProof.Rows.callWith_type1 ?_ V U));show wpAny _ _ (spliced ((ϊ,eval (.Call (.Name "reversed" p2) [e] [] bM) X.env)::backTo pos (kg [] X.env))) _ _ s;refine Calls.spliced_cons (GN (dE I av ak boot_reversed (PyProof.Rows.callWith_type1 ?_ g U)));rw[g];refine Calls.spliced_cons (thn (he gd s σ H _ I h) λu s1 aP=>?_)
 let(x,H1,I1,r1,l,ys,ex,hl,q):=aP;subst ex;cases r1;refine Calls.spliced_nil ?_;let(its,rv,P,hz):=I1.list hl;have z:l<s1.heap.objs.size:=by let(_,e,_):=P.isList;exact j5 e
 refine call_reversed_list P.isList (Calls.spliced_nil ?_);have W:=Walks.listRev (prog:=X.prog) (w:=X.w) (A:=X.A.in1.in1) (I.ok.hd hc) s1.heap.objs.size l (ri z) its.toArray;exact v8 I1 z W (λi s' st=>st.2.1.typeIs) ac ac (λs' Q' E' st hq=>JW st.2.1.typeIs hq) (v5 _,(_,ke _ U,U,by simp[revObj]),P.isList.push _) (λacc h=>yV (rv:) h) (by rw[Xe];exact hz) (by rw[nP,<- rv.length];exact hz) q
variable{x:Str}
section
def Js(hg:Gl X x)(hm:X.mg x=Z (.ref y))(hd:autoParam (AS x) zdc._auto_1):PE X (.Name x pos) (tC (.ref y)):=Nj hg hm U hd
def LG(_ j:Int):Prop:=0<j/\j<18446744073709551616
def zH:OpR X (binaryOp .FloorDiv) (rI LG λi j=>.int (i / j)):=opI λi j _ _ _ _ _ g q=>by
 let(h1,h2):=g;have e:i.fdiv j=i / j:=Int.fdiv_eq_ediv_of_nonneg _ al
 refine floordiv_int al (by rw[e];exact q) (.inl (PyProof.noPylong_of_log2 ?_))
 have h3:j.natAbs<2 ^ 64:=al
 have h4:j.natAbs≠0:=al
 exact Xr ((Nat.log2_lt h4).mpr h3) ac
def E9{ys:List Str}{its:Array B}(v:Vals (ys.map V.str) its.toList)(h:autoParam (ys.length<=1000) zdc._auto_1):its.size<=kf:=by
 have e:=v.length;rw[cO]at e;have g:its.toList.length=its.size:=by simp
 have:(1000)<=kf:=ac
 lia
end
def dk(s n:Int)(l:J):List (Key×V):=[(.inr "seed",.int s),(.inr "number",.int n),(.inr "left",.ref l)]
def Gq{s n:Int}:bP (dk s n l) (.inr "number":Key)=Z (.int n):=bi
def Ow{s n:Int}:bP (dk s n l) (.inr "left":Key)=Z (.ref l):=bi
def BM{s n m:Int}:putK (dk s n l) (.inr "number":Key) (.int m)=dk s m l:=bi
def IQ{s n m:Int}:putK (dk s n l) (.inr "seed":Key) (.int m)=dk m n l:=bi
structure cU(H:Hp)(d l:J)(s n:Int)(ls:List Int):Prop where
 hd:H d=Z (.dK (dk s n l))
 hl:H l=Z (.lst (ls.map V.int))
 s0:0<=s
 s1:s<2147483647
 n0:0<=n
 l0:∀x∈ls,0<=x
def nV(H:Hp)(d l:J):Prop:=∃s n ls,cU H d l s n ls
def Kp(d l:J)(H H':Hp):Prop:=∀b o,H b=Z o->b≠d->b≠l->H' b=Z o
variable{d:J}
def Kp.refl:Kp d l H H:=λ_ _ h _ _=>h
variable{ls:List Int}
def cU.ne{s n:Int}(D:cU H d l s n ls):d≠l:=ja D.hd D.hl (by intro z;cases z)
def cU.num{s n m:Int}(D:cU H d l s n ls)(h:0<=m):cU (upd H d (.dK (putK (dk s n l) (.inr "number":Key) (.int m)))) d l s m ls:=
 (by rw[az,BM],by rw[au D.ne.symm];exact D.hl,D.s0,D.s1,h,D.l0)
def cU.Vx{s n m:Int}(D:cU H d l s n ls)(h:0<=m)(h2:m<2147483647):cU (upd H d (.dK (putK (dk s n l) (.inr "seed":Key) (.int m)))) d l m n ls:=
 (by rw[az,IQ],by rw[au D.ne.symm];exact D.hl,h,h2,D.n0,D.l0)
def cU.list{s n:Int}(D:cU H d l s n ls)(h:∀x∈ls',0<=x):cU (upd H l (.lst (ls'.map V.int))) d l s n ls':=
 (by rw[au D.ne];exact D.hd,az,D.s0,D.s1,D.n0,h)
variable{H1:Hp}
def Kp.P0(a:Kp d l H H1):Kp d l H (upd H1 d o):=λc u h h1 h2=>by rw[au h1];exact a c u h h1 h2
def Kp.Vs(a:Kp d l H H1):Kp d l H (upd H1 l o):=λc u h h1 h2=>by rw[au h2];exact a c u h h1 h2
def lV.new(a:lV H H1)(hp:H1 p=Y):lV H (upd H1 p o):=λc u h=>by
 have z:=a c u h;rw[au (bg z hp)];exact z
def nV.new(D:nV H d l)(hp:H p=Y):nV (upd H p o) d l:=by
 let(s,n,ls,D):=D;exact(s,n,ls,by rw[au (bg D.hd hp)];exact D.hd,by rw[au (bg D.hl hp)];exact D.hl,D.s0,D.s1,D.n0,D.l0)
inductive Ho(vs:List V)(H:Hp)(Q:VK)(_:XK):Prop
 |mk(d l:J)(m:Int)(h1:vs=[.ref d,.int m])(h2:nV H d l)(h3:0<m)(h4:m<18446744073709551616)(h5:∀(r:Int)(H':Hp),0<=r->r<m->nV H' d l->Kp d l H H'->Q (.int r) H')
inductive Qf(K:BT)(vs:List V)(H:Hp)(Q:VK)(_:XK):Prop
 |mk(a:J)(ns:List Int)(b:Int)(h1:vs=[.ref a,.int b])(h2:SqL K H a (ns.map V.int))(h3:ns.length<=63)(h4:0<=b)(h5:b<=63)(h6:∀(d l:J)(H':Hp),H d=Y->H l=Y->nV H' d l->lV H H'->Q (.ref d) H')
variable{D:Ends}
def EX{tb:TS}{σ:St}(I:Nat->St->Hp->Prop){m:Nat}(h0:I m σ H)(q:∀m σ H,I m σ H->D.nx σ H)
  (hs:∀m σ H,I m σ H->D.nx σ H->c σ H λb H1=>if b=O then ∃N:St->Hp->Prop,(∀g H',N g H'->∃m',m'<m/\I m' g H')/\tb {D with nx:=N,ct:=N,bk:=D.nx} σ H1 else D.nx σ H1):Bf c tb D σ H:=
 (I,(m,h0),λm σ H h=>hs m σ H h (q m σ H h))
def cU.Ku{s n:Int}(D:cU H d l s n ls):gv H d (.str "seed") (Z (.int s)):=by
 have z:=gv.k (k:=(Sum.inr "seed")) D.hd;exact z
def cU.U0{s n:Int}(D:cU H d l s n ls):gv H d (.str "number") (Z (.int n)):=by
 have z:=gv.k (k:=(Sum.inr "number")) D.hd;rw[Gq]at z;exact z
def cU.PF{s n:Int}(D:cU H d l s n ls):gv H d (.str "left") (Z (.ref l)):=by
 have z:=gv.k (k:=(Sum.inr "left")) D.hd;rw[Ow]at z;exact z
def cU.Ui{s n m:Int}(D:cU H d l s n ls):yQ H d (.str "number") (.int m) (upd H d (.dK (putK (dk s n l) (.inr "number":Key) (.int m)))):=
 yQ.k (k:=(Sum.inr "number")) D.hd (aC (by show 3<=1000;decide))
def cU.Ud{s n m:Int}(D:cU H d l s n ls):yQ H d (.str "seed") (.int m) (upd H d (.dK (putK (dk s n l) (.inr "seed":Key) (.int m)))):=
 yQ.k (k:=(Sum.inr "seed")) D.hd (aC (by show 3<=1000;decide))
def mod_lt{x m:Int}(h:0<m):0<=x % m/\x % m<m:=(Int.emod_nonneg _ al,Int.emod_lt_of_pos _ h)
end L2
namespace L2
def KY(ns:List Int)(lo hi:Option Int):∃cs:List Int,nE (ns.map V.int) lo hi=cs.map V.int/\cs.length<=ns.length:=by
 refine((ns.drop (HT.sIx ns.length 0 lo)).take (HT.sIx ns.length ns.length hi-HT.sIx ns.length 0 lo),?_,?_)
 ·unfold nE;rw[cO,<- Ya,<- XI]
 ·rw[p7,QX];exact qR (Ye _ _) (Y4 _ _)
variable{ns:List Int}
def int_at{i:Nat}(h:(ns.map V.int)[i]?=Z x):∃z,x=.int z:=by
 rw[fy]at h;cases e:ns[i]? with
 |none=>rw[e]at h;cases h
 |some z=>rw[e]at h;exact(z,(Option.some.inj h).symm)
def Oc{i:Nat}(h:(ns.map V.int)[i]?=Z x):∃z,x=.int z/\z∈ns:=by
 rw[fy]at h;cases e:ns[i]? with
 |none=>rw[e]at h;cases h
 |some z=>rw[e]at h;exact(z,(Option.some.inj h).symm,gV e)
end L2
namespace L2
open PySem
def K9{xs:List α}{i:Int}(h0:0<=i)(h1:i<xs.length):∃v,atI xs i=Z v/\v∈xs:=by
 obtain⟨n,rfl⟩:∃n:Nat,i=n:=(i.toNat,al)
 have h2:n<xs.length:=al
 refine(xs[n],?_,SK h2);unfold atI ixN;simp[h2]
variable{n:Nat}
def bz(h:n<=10000):n<=kf:=by
 have:(10000)<=kf:=ac
 lia
end L2
namespace L2
open PySem PySem.Spec PyProof.Rows
def strOf:Ev->Option Str
 |.Constant (.str x) _ _=>Z x
 |_=>Y
def strsOf:List Ev->Option (List Str)
 |[]=>Z []
 |e::r=>(strOf e).bind λx=>(strsOf r).map (x :: ·)
variable{e:Ev}{x:Str}
def E7(h:strOf e=Z x):∃j p,e=.Constant (.str x) j p:=by
 cases e with
 |Constant c j p=>cases c with
  |str y=>cases h;exact(j,p,U)
  |_=>cases h
 |_=>cases h
variable{X:Cx}{es:List Ev}
def Nr:∀{ws:List Str},strsOf es=Z ws->PA X es (λ_ H Q=>Q (ws.map V.str) H):=by
 induction es with
 |nil=>intro ws h;cases h;exact dC
 |cons e es q =>
  intro ws h;let(x,h1,h2):=Yf.mp h;let(g,h3,U):=gs.mp h2;let(j,p,U):=E7 h1;exact bX dB (q h3)
end L2
namespace L2
variable{H:Hp}
def Ol{σ:St}{A Za:St->Hp->Prop}(h:A (σ.set i (Z x)) H):gD i x σ H λg z=>CT g z λb q=>if b=O then A g q else Za g q:=by
 exact h
end L2
namespace L2
open PySem PySem.Spec PyProof.Rows
section
variable{X:Cx}
def jn(z:Str)(n:Nat):Str:=⟨(tr n z.cps).foldl (·++·) #[]⟩
theorem zb(c:Array Nat):∀(n:Nat)(acc:Array Nat),((tr n c).foldl (·++·) acc).size=acc.size+n*c.size
 | 0,acc=>by simp
 |n+1,acc=>by
  rw[XT,XQ,zb c n,YQ,Nat.add_mul]
  lia
def g9(z:Str)(n:Nat):(jn z n).length=n*z.length:=by
 have h:=zb z.cps n #[];simpa [jn,Str.length]using h
def BV:OpR X (binaryOp .Mult) (λx y H Q=>∃ z n,x=.str z/\y=.int n/\0<=n/\n<=1000/\z.length<=1000/\Q (.str (jn z n.toNat)) H):=by
 intro gd s σ H x y v u Q I V K h;let(z,n,U,U,n0,n1,hz,q):=h;let(t,U):=V;let(t',U):=K;have fin:∀(y:Str)(t' k:Nat),y=jn z n.toNat->EP X gd σ Q (.str y t') {s with toks:=k}:=λy t' k e=>by subst e;exact(.str _,H,I.tok k,(_,U),q)
 have hp:=by
  have h1:(z.length:Int)*n<=1000*n:=XH al n0
  omega
 refine P.mul_str ?_ (λh1 _=>?_) (λh1 _=>?_) ?_
 ·rw[decide_eq_false al,decide_eq_false al];rfl
 ·have h2:(1000:Int) <=(2 ^ 63-1) / n:=by
   rw[Int.le_ediv_iff_mul_le al]
   omega
  omega
 ·have h2:=by
   have e:((z.length*n.toNat:Nat):Int)=(z.length:Int)*n:=by rw[Yn,V5 n0]
   omega
  have:=Xp
  exact decide_eq_false al
 ·by_cases h1:n<1
  ·rw[if_pos h1];have e:n.toNat=0:=al
   exact(ac,fin _ _ _ (by rw[e];rfl))
  ·rw[if_neg h1];by_cases h2:(n==1||z.length==0)=O
   ·rw[if_pos h2];refine fin z t s.toks ?_;have h3:=(h2:)
    obtain h3|h3:=h3
    ·subst h3;show z=⟨#[]++z.cps⟩;simp
    ·have e1:z.cps=#[]:=by simpa [Str.length]using h3
     have g:=g9 z n.toNat;rw[h3]at g;have e3:=by simpa [Str.length]using g
     exact Str.ext' (by rw[e1,e3])
   ·rw[if_neg h2];refine(?_,fin _ _ _ U);have e:=g9 z n.toNat;have h3:=by
     have e:((n.toNat*z.length:Nat):Int)=(z.length:Int)*n:=by rw[Yn,V5 n0,Int.mul_comm]
     omega
    have:=Xp
    show(jn z n.toNat).length<=kf;omega
end
end L2
namespace L2
open PySem
def tI(n:Nat):Nat:=97+n % 26
def dM(c1 c2:Str)(turn k:Nat):Str:=c1++⟨#[tI (turn+7*k)]⟩++c2++jn "x" (k % 2)++jn "y" (k / 26)
def uu(c1 c2:Str)(turn k:Nat):(dM c1 c2 turn k).cps.toList=c1.cps.toList++tI (turn+7*k) ::(c2.cps.toList++(jn "x" (k % 2)).cps.toList++(jn "y" (k / 26)).cps.toList):=by
 simp[dM,Str.cps_append]
def wB(c1 c2:Str)(turn k:Nat):(dM c1 c2 turn k).length=c1.length+1+c2.length+k % 2+k / 26:=by
 unfold dM;rw[Str.length_append,Str.length_append,Str.length_append,Str.length_append,g9,g9,show(⟨#[tI (turn+7*k)]⟩:Str).length=1 from U,show(Str.ofString "x").length=1 from by decide +kernel,show(Str.ofString "y").length=1 from by decide +kernel]
 lia
def Ve{x y:Nat}(h:a++x::b=a++y::c):x=y:=by
 have:=WZ h
 exact(List.cons.inj this).1
variable{turn:Nat}{j:Nat}
def Ga(hk:k<52)(g:j<52)(h:tI (turn+7*k)=tI (turn+7*j)):k % 26=j % 26:=by
 have h':∀a:Fin 26,∀b:Fin 26,∀c:Fin 26,(a.val+7*b.val) % 26=(a.val+7*c.val) % 26->b=c:=be
 have e:∀k,(turn % 26+7*(k % 26)) % 26=(turn+7*k) % 26:=λk=>by rw[Nat.add_mod,Nat.mod_mod,Nat.mul_mod_mod,<- Nat.add_mod]
 have h:=Nat.add_left_cancel h;rw[<- e,<- e j]at h;exact congrArg Fin.val (h' (turn % 26,YE _ ac) (k % 26,YE _ ac) (j % 26,YE _ ac) h)
def C9:(jn "y" 1).cps.toList=[121]:=be
def za(z:Str):(jn z 0).cps.toList=[]:=by simp[jn]
variable{c1:Str}{c2:Str}
def wM(hk:k<52)(V:j<52)(P:k≠j)(he:e=Str.empty\/e="q")(hf:f=Str.empty\/f="q"):dM c1 c2 turn k++e≠dM c1 c2 turn j++f:=by
 intro h;have K:=by
  have:=congrArg (λz=>z.cps.toList) h
  simpa [Str.cps_append]using this
 rw[uu,uu]at K;simp only[u6,XG]at K;have hm:=Ga hk V (Ve K);have h1:k % 2=j % 2:=by rw[<- YF k (by decide:2∣26),hm,YF j (by decide:2∣26)]
 have hd:=(by decide +kernel:∀a b:Fin 52,a≠b->a.val % 26=b.val % 26->(a.val / 26=0/\b.val / 26=1)\/(a.val / 26=1/\b.val / 26=0)) (k,hk) (j,V) (λz=>P (congrArg Fin.val z)) hm
 have tail:=(List.cons.inj (WZ K)).2;rw[h1]at tail;have g:=WZ (WZ tail);have eq:(Str.ofString "q").cps.toList=[113]:=be
 have ee:Str.empty.cps.toList=[]:=rfl;obtain⟨d1,Q⟩|⟨d1,Q⟩:=hd
 ·rw[d1,Q,za,C9]at g;obtain rfl|rfl:=he
  ·rw[ee]at g;simp at g
  ·rw[eq]at g
   have:=congrArg List.head? g
   simp at this
 ·rw[d1,Q,za,C9]at g;obtain rfl|rfl:=hf
  ·rw[ee]at g;simp at g
  ·rw[eq]at g
   have:=congrArg List.head? g
   simp at this
def nodup_range(h:∀i j,i<n->j<n->i≠j->f i≠f j):((AK n).map f).Nodup:=by
 rw[XZ,UD];refine List.Pairwise.imp_of_mem ?_ (XZ.mp YX);intro i j hi q g;exact h i j (SR.mp hi) (SR.mp q) g
variable{ws:List Str}
def F4(h:ws.Nodup)(hw:w ∉ ws):(ws.set i w).Nodup:=by
 induction ws generalizing i with
 |nil=>simp
 |cons a r K =>
  let(h1,h2):=uj.mp h;have q:w≠a:=λz=>hw (by simp[z])
  have g:=λz=>hw (j1 _ z)
  cases i with
  |zero=>exact uj.mpr (g,h2)
  |succ i =>
   refine uj.mpr (λz=>?_,K h2 g)
   obtain z|z:=W9 z
   ·exact h1 z
   ·exact q z.symm
end L2
namespace L2
open PySem
variable{ws:List Str}
def Od(h:inV (.str w) (ws.map V.str)=ϊ):w ∉ ws:=λhm=>by
 unfold inV at h;rw[X6]at h;exact h (.str w) (j0.mpr (w,hm,U)) (show(w==w)=O from beq_self_eq_true w)
def wordOf(kept:List Str)(c1 c2:Str)(turn k:Nat):Str:=dM c1 c2 turn k++(if inV (.str (dM c1 c2 turn k)) (kept.map V.str)=O then("q":Str)else Str.empty)
variable{c1:Str}{c2:Str}{turn:Nat}{j:Nat}
def EW(hk:k<52)(q:j<52)(g:k≠j):wordOf kept c1 c2 turn k≠wordOf kept c1 c2 turn j:=by
 refine wM hk q g ?_ ?_
 ·split
  ·exact .inr U
  ·exact .inl U
 ·split
  ·exact .inr U
  ·exact .inl U
def A4(h1:c1.length<=5)(h2:c2.length<=5)(hk:k<52):1 <=(wordOf kept c1 c2 turn k).length/\(wordOf kept c1 c2 turn k).length<=20:=by
 unfold wordOf;rw[Str.length_append,wB];have l0:Str.empty.length=0:=rfl;have g:(Str.ofString "q").length=1:=be
 split <;> lia
end L2
namespace L2
open PySem PySem.Spec PyProof.Rows
abbrev Mk1:=Str×List Str
abbrev Kd:=Str×List Mk1
def cV(ks:List Kd)(k:Str):List Mk1:=match ks.find? (λx=>decide (x.1=k))with
 |some x=>x.2
 |none=>[]
def xX(h:ks[i]?=Z x)(hx:x.1=k)(hn:∀(j:Nat)(y:Kd),j<i->ks[j]?=Z y->y.1≠k):cV ks k=x.2:=by
 induction ks generalizing i with
 |nil=>simp at h
 |cons a r g =>
  cases i with
  |zero =>
   simp at h;subst h;simp[cV,hx]
  |succ i =>
   have h0:=hn 0 a al ad
   have z:=g (h:) λj y K q=>hn (j+1) y al (q:)
   unfold cV at z ⊢;rw[vF,decide_eq_false h0];exact z
def NT(hn:∀(j:Nat)(y:Kd),ks[j]?=Z y->y.1≠k):cV ks k=[]:=by
 unfold cV;rw[YG.mpr];intro x hx;let(j,g,U):=List.mem_iff_getElem.mp hx
 have:=hn j ks[j] ad
 simpa using this
variable{it:J}{items:Array B}{Q:B->ϋ->Prop}{h':Do}{tp:Bool}{l:J}{z:J}{i1:J}{i2:J}{l1:J}{l2:J}{t1:Bool}{t2:Bool}{k1:Nat}{k2:Nat}{xs:Array B}{ys:Array B}
section
variable{prog:Da}{w:Cl}{A:Db}{E:B->ϋ->Prop}{s:ϋ}
theorem vi{i:Nat}{x:B}(hit:s.heap.IsTupleIter it t i)(z:s.heap.IsTuple t items)(hx:items[i]?=Z x)
  (P:∀h',h'.IsTupleIter it t (i+1)->Xi it s.heap h'->Q x {s with heap:=h'}):wpAny (model prog w) A (Builtin.SmallTypes.nextOf (.ref it)) Q E s:=by
 let(o,ho,K,hd):=id hit;let(ol,g,_,nl,q):=z;refine dF (wpAny_callSpecial?_slot hit.typeIs F.slot_tuple_iterator_next
  (yK F.slot_tuple_iterator_next hit.typeIs F.entry_tuple_iterator_next ?_ (F.args_tuple_iterator_next_1 _)))
 show wpAny _ _ (field (.ref it) 0 >>= _) _ _ s;refine dF (wpAny_field ho hd U (dF (wpAny_field ho hd U (dF (wpAny_seqItems g q ?_)))));simp only[Tn,hx];refine dF (wpAny_setField ho hd ad (kb (x,U,kb (P _ ?_ (Heap.SameBut.update ..)))))
 exact(_,Fq _ ho (Obj.isFreed_of_fields (YH hd _)),(Obj.cls_mapFields ..).trans K,by
  rw[YH hd];simp[rawInt])
theorem xU{i:Nat}(K:A.handled=Y)(hit:s.heap.IsTupleIter it t i)(z:s.heap.IsTuple t items)(hx:items[i]?=Y)
  (hE:∀h' e,Yr it s.heap h'->(∃o,h'.get? e=Z o/\o.cls=.type "StopIteration")->E (.ref e) {s with heap:=h'}):wpAny (model prog w) A (Builtin.SmallTypes.nextOf (.ref it)) Q E s:=by
 let(o,ho,P,hd):=id hit;let(ol,g,_,nl,q):=z;refine dF (wpAny_callSpecial?_slot hit.typeIs F.slot_tuple_iterator_next
  (yK F.slot_tuple_iterator_next hit.typeIs F.entry_tuple_iterator_next ?_ (F.args_tuple_iterator_next_1 _)))
 show wpAny _ _ (field (.ref it) 0 >>= _) _ _ s;refine dF (wpAny_field ho hd U (dF (wpAny_field ho hd U (dF (wpAny_seqItems g q ?_)))));simp only[Tn,hx];refine dF (VQ (dF (wpAny_setField ho hd ad (dF (dF (m:=firstArgMember _ _) (Xq ap (W0 (dF (wpAny_handled ?_)) (by size_fits))))))))
 rw[K];exact dF (kb (wpAny_throw (hE _ _ (((Heap.SameBut.update ..).extBut.push _).push _) (_,ke _ U,U))))
def aW(h:Do)(tp:Bool)(it l:J)(k:Nat):Prop:=if tp=O then h.IsTupleIter it l k else h.IsListIter it l k
def a8(h:Do)(tp:Bool)(l:J)(items:Array B):Prop:=if tp=O then h.IsTuple l items else h.IsList l items
def aW.at(x:aW h tp it l k)(e:∀o,h.get? it=Z o->h'.get? it=Z o):aW h' tp it l k:=by
 cases tp with
 |true=>let(o,ho,r):=(x);exact((o,e o ho,r))
 |false=>let(o,ho,r):=(x);exact((o,e o ho,r))
def a8.at(x:a8 h tp l items)(e:∀o,h.get? l=Z o->h'.get? l=Z o):a8 h' tp l items:=by
 cases tp with
 |true=>let(o,ho,r):=(x);exact((o,e o ho,r))
 |false=>let(o,ho,r):=(x);exact((o,e o ho,r))
def aW.obj(x:aW h tp it l k):∃o,h.get? it=Z o/\∀v,o.data ≠ .cell v:=by
 cases tp with
 |true=>let(o,ho,_,hd):=(x);exact(o,ho,λv=>by rw[hd];simp)
 |false=>let(o,ho,_,hd):=(x);exact(o,ho,λv=>by rw[hd];simp)
def next_item(hit:aW s.heap tp it l i)(hl:a8 s.heap tp l items)(hx:items[i]?=Z x)
  (g:∀h',aW h' tp it l (i+1)->Xi it s.heap h'->Q x {s with heap:=h'}):wpAny (model prog w) A (Builtin.SmallTypes.nextOf (.ref it)) Q E s:=by
 cases tp with
 |true=>exact vi hit hl hx g
 |false=>exact wpAny_nextOf_list_item hit hl hx g
def next_end(g:A.handled=Y)(hit:aW s.heap tp it l i)(hl:a8 s.heap tp l items)(hx:items[i]?=Y)
  (hE:∀h' e,Yr it s.heap h'->(∃o,h'.get? e=Z o/\o.cls=.type "StopIteration")->E (.ref e) {s with heap:=h'}):wpAny (model prog w) A (Builtin.SmallTypes.nextOf (.ref it)) Q E s:=by
 cases tp with
 |true=>exact xU g hit hl hx hE
 |false=>exact wpAny_nextOf_list_end g hit hl hx hE
theorem GP{TI TO:J}{x y a b:B}{Q:Option B->ϋ->Prop}(D:ZipApart z TI TO i1 i2 l1 l2)
  (hz:IsZip s.heap z TI TO .none) (cH:IsPair s.heap TI (.ref i1) (.ref i2)) (cu:IsPair s.heap TO a b)
  (h1:aW s.heap t1 i1 l1 k1) (h2:aW s.heap t2 i2 l2 k2) (ct:a8 s.heap t1 l1 xs) (cm:a8 s.heap t2 l2 ys) (hx:xs[k1]?=Z x) (hy:ys[k2]?=Z y)
  (hQ:∀h',IsZip h' z TI TO (rawInt s.heap.objs.size)->IsPair h' TO x y->aW h' t1 i1 l1 (k1+1)->aW h' t2 i2 l2 (k2+1)->IsPair h' s.heap.objs.size x y->h'.objs.size=s.heap.objs.size+1 ->
   (∀c o,c≠z->c≠TO->c≠i1->c≠i2->s.heap.get? c=Z o->h'.get? c=Z o)->Q (Z (.ref s.heap.objs.size)) {s with heap:=h'}):
  wpAny (model prog w) A (pyNext (.ref z)) Q E s:=by
 have hT:s.TypeIs (.ref z) "zip":=(_,hz,U);unfold pyNext;refine dF (WX (wpAny_callSpecial?_slot hT F.slot_zip_next
  (yK F.slot_zip_next hT F.entry_zip_next ?_ (F.args_zip_next_1 _))))
 show wpAny _ _ (field (.ref z) 2 >>= _) _ _ _;refine dF (wpAny_field hz U (x:=.bool ϊ) U ?_);refine dF (wpAny_field hz U (x:=.ref TI) U ?_);refine dF (wpAny_seqItems cH U ?_);refine dF ?_;refine dF (wpAny_field hz U (x:=.none) U (kb ?_));simp only[if_true];refine dF (VQ ?_);refine dF (wpAny_field hz U (x:=.ref TO) U ?_);refine dF (wpAny_setField_rec hz ad λh₁ a3 g=>?_)
 refine dF ?_;simp only[YY,List.zipIdx_nil,Xu,List.forIn_nil];refine dF (dF (wpAny_onRaise ?_));refine dF (next_item (h1.at λo e=>g.extBut _ o D.i1z e) (ct.at λo e=>g.extBut _ o D.l1z e) hx λcf bN P=>kb ?_)
 have Kt:IsPair cf TO a b:=P.extBut _ _ D.TOi1 (g.extBut _ _ D.TOz cu);refine dF (wpAny_seqItems Kt U ?_);refine dF (wpAny_updateSeq_pair Kt λcL UZ K=>?_)
 refine dF (wpAny_letGo (kb ?_));refine dF (dF (wpAny_onRaise ?_));refine dF (next_item (h2.at λo e=>K.extBut _ o D.TOi2.symm (P.extBut _ o D.i12.symm (g.extBut _ o D.i2z e)))
  (cm.at λo e=>K.extBut _ o D.l2TO (P.extBut _ o D.l2i1 (g.extBut _ o D.l2z e))) hy λb0 bp ak=>kb ?_)
 have UY:IsPair b0 TO x b:=ak.extBut _ _ D.TOi2 UZ;refine dF (wpAny_seqItems UY U ?_);refine dF (wpAny_updateSeq_pair UY λq Oj V=>?_)
 replace Oj:IsPair q TO x y:=Oj
 refine dF (wpAny_letGo (kb (kb ?_)));refine dF (wpAny_seqItems Oj U ?_);refine dF (wpAny_newTuple ?_);have hsz:q.objs.size=s.heap.objs.size:=by rw[V.1,ak.1,K.1,P.1,g.1]
 have aQ:IsZip q z TI TO .ellipsis:=V.extBut _ _ D.TOz.symm (ak.extBut _ _ D.i2z.symm (K.extBut _ _ D.TOz.symm (P.extBut _ _ D.i1z.symm a3)));have a5:∀c o,c≠z->c≠TO->c≠i1->c≠i2->s.heap.get? c=Z o->q.get? c=Z o:=λc o c1 c2 c3 c4 e =>
  V.extBut _ _ c2 (ak.extBut _ _ c4 (K.extBut _ _ c2 (P.extBut _ _ c3 (g.extBut _ _ c1 e))))
 have bM:=bN.at λo e=>V.extBut _ o D.TOi1.symm (ak.extBut _ o D.i12 (K.extBut _ o D.TOi1.symm e))
 have bj:=bp.at λo e=>V.extBut _ o D.TOi2.symm e
 have UL:z<q.objs.size:=j5 aQ;refine dF ?_;have a0:IsZip (q.push {cls:=.type "tuple",data:=.seq #[x,y]}) z TI TO .ellipsis:=fC _ aQ;refine dF (wpAny_setField_rec a0 ad λcK aV av=>?_)
 refine wpAny_setField_rec aV ad λay aP ar=>?_
 have up:∀c o,c≠z->q.get? c=Z o->ay.get? c=Z o:=λc o c1 e=>ar.extBut _ _ c1 (av.extBut _ _ c1 (fC _ e))
 have aR:IsPair ay q.objs.size x y:=ar.extBut _ _ (C3 UL) (av.extBut _ _ (C3 UL) (ke _ U));have cg:ay.objs.size=q.objs.size+1:=by rw[ar.1,av.1,wh]
 rw[hsz]at aP aR cg;refine kb (_,U,kb ?_);rw[hsz];exact hQ ay aP (up _ _ D.TOz Oj) (bM.at λo e=>up _ o D.i1z e) (bj.at λo e=>up _ o D.i2z e) aR cg λc o c1 c2 c3 c4 e=>up c o c1 (a5 c o c1 c2 c3 c4 e)
theorem LN{TI TO:J}{a b:B}{Q:Option B->ϋ->Prop}(hh:A.handled=Y)(D:ZipApart z TI TO i1 i2 l1 l2)
  (hz:IsZip s.heap z TI TO .none) (bp:IsPair s.heap TI (.ref i1) (.ref i2)) (bj:IsPair s.heap TO a b)
  (h1:aW s.heap t1 i1 l1 k1) (h2:aW s.heap t2 i2 l2 k2) (a3:a8 s.heap t1 l1 xs) (a5:a8 s.heap t2 l2 ys) (yg:xs[k1]?=Y\/ys[k2]?=Y)
  (hQ:∀h',(∀c o,c≠z->c≠TO->c≠i1->c≠i2->s.heap.get? c=Z o->h'.get? c=Z o)->Q Y {s with heap:=h'}):wpAny (model prog w) A (pyNext (.ref z)) Q E s:=by
 have hT:s.TypeIs (.ref z) "zip":=(_,hz,U);have fin:∀h' e,(∀c o,c≠z->c≠TO->c≠i1->c≠i2->s.heap.get? c=Z o->h'.get? c=Z o)->(∃ o,h'.get? e=Z o/\o.cls=.type "StopIteration") ->
   wpAny (model prog w) A (do if <- isInstance (.ref e) (.type "StopIteration")then pure Y else throw (.ref e)) Q E {s with heap:=h'}:=λh' e hk he=>by
  let(o,ho,hc):=he;refine dF (WT (o,ho,hc) isSubtype_stop ?_);exact kb (hQ _ hk)
 refine dF (WX (wpAny_callSpecial?_slot hT F.slot_zip_next
  (yK F.slot_zip_next hT F.entry_zip_next ?_ (F.args_zip_next_1 _))))
 show wpAny _ _ (field (.ref z) 2 >>= _) _ _ _;refine dF (wpAny_field hz U (x:=.bool ϊ) U (dF (wpAny_field hz U U (dF (wpAny_seqItems bp U (dF (dF (wpAny_field hz U U (kb (dF (VQ (dF (wpAny_field hz U (x:=.ref TO) U (dF (wpAny_setField_rec hz ad λh₁ ar g=>(dF ?_))))))))))))))))
 simp only[YY,List.zipIdx_nil,Xu,List.forIn_nil];refine dF (dF (wpAny_onRaise ?_));cases hx:xs[k1]? with
 |none =>
  refine dF (next_end hh (h1.at λo e=>g.extBut _ o D.i1z e) (a3.at λo e=>g.extBut _ o D.l1z e) hx λa0 e q he=>?_)
  let(oe,P,aP):=he;have ak:=q _ _ D.i1z.symm ar;have aR:e≠z:=λx=>by subst x;rw[ak]at P;cases P;simp at aP
  refine wpAny_setField_rec ak ad λaQ _ K=>fin aQ e (λc o c1 _ c3 _ x=>K.extBut _ _ c1 (q _ _ c3 (g.extBut _ _ c1 x))) (oe,K.extBut _ _ aR P,aP)
 |some x =>
  have hy:ys[k2]?=none:=by obtain h|h:=yg;rw[hx]at h;cases h;exact h
  refine dF (next_item (h1.at λo e=>g.extBut _ o D.i1z e) (a3.at λo e=>g.extBut _ o D.l1z e) hx λa0 bM q=>kb ?_)
  have Kt:=q.extBut _ _ D.TOi1 (g.extBut _ _ D.TOz bj);refine dF (wpAny_seqItems Kt U (dF (wpAny_updateSeq_pair Kt λaQ UZ K=>(dF (wpAny_letGo (kb (dF (dF (wpAny_onRaise ?_)))))))))
  refine dF (next_end hh (h2.at λo e=>K.extBut _ o D.TOi2.symm (q.extBut _ o D.i12.symm (g.extBut _ o D.i2z e)))
   (a5.at λo e=>K.extBut _ o D.l2TO (q.extBut _ o D.l2i1 (g.extBut _ o D.l2z e))) hy λbN e ay he=>?_)
  let(oe,P,aP):=he;have V:=ay _ _ D.i2z.symm (K.extBut _ _ D.TOz.symm (q.extBut _ _ D.i1z.symm ar));have aR:e≠z:=λx=>by subst x;rw[V]at P;cases P;simp at aP
  refine wpAny_setField_rec V ad λaV _ av=>fin aV e (λc o c1 c2 c3 c4 x=>av.extBut _ _ c1 (ay _ _ c4 (K.extBut _ _ c2 (q.extBut _ _ c3 (g.extBut _ _ c1 x))))) (oe,av.extBut _ _ aR P,aP)
end
def lR(ks:List Kd):List Str:=ks.flatMap λk=>k.2.flatMap (·.2)
def yj(ks:List Kd)(k:Str):List Str:=(cV ks k).flatMap (·.2)
inductive Reach(ks:List Kd)(a:Str):Str->Prop where
 |here:Reach ks a a
 |step{b c:Str}:Reach ks a b->c∈yj ks b->Reach ks a c
variable{ws:List Str}
def DV:inV (.str w) (ws.map V.str)=O ↔ w∈ws:=by
 constructor
 ·intro h;by_cases hm:w∈ws
  ·exact hm
  ·exfalso
   unfold inV at h;rw[Lm]at h;let(x,hx,e):=h;let(z,g,U):=j0.mp hx
   have:=eq_of_beq (e)
   exact hm (this▸g)
 ·intro h;unfold inV;rw[Lm];exact(.str w,j0.mpr (w,h,U),beq_self_eq_true w)
def tD:cV ks k=[]\/∃x∈ks,cV ks k=x.2/\x.1=k:=by
 unfold cV;cases e:ks.find? (λx=>decide (x.1=k))with
 |none=>exact .inl U
 |some x=>exact .inr (x,Xa e,U,by have z:=Yo e;simpa using z)
def Ag(h:f∈yj ks k):f∈lR ks:=by
 unfold yj at h;obtain e |⟨x,hx,e,_⟩:=tD
 ·rw[e]at h;simp at h
 ·rw[e]at h;exact WO.mpr (x,hx,h)
def un(Y6 rs:List Str):Nat:=(Y6.filter λu=>decide (u ∉ rs)).length
variable{rs:List Str}
def Ta:un Y6 rs<=Y6.length:=O2 _ _
theorem Ea(g:∀x,q x=O->p x=O):∀Y6:List Str,(Y6.filter q).length <=(Y6.filter p).length
 |[]=>ka _
 |u::Y6=>by
  have z:=Ea g Y6;cases hq:q u with
  |true =>
   rw[vq hq,vq (g u hq)];simp only[pq];lia
  |false =>
   rw[AL (by rw[hq];decide)]
   cases hp:p u with
   |true=>rw[vq hp];simp only[pq];lia
   |false=>rw[AL (by rw[hp];decide)];exact z
theorem D9{p q:Str->Bool}(K:∀x,q x=O->p x=O)(hp:p f=O)(hq:q f=ϊ):∀Y6:List Str,f∈Y6->(Y6.filter q).length+1 <=(Y6.filter p).length
 |[],h=>by simp at h
 |u::Y6,h=>by
  by_cases e:u=f
  ·subst e;have z:=Ea K Y6;rw[AL (by rw[hq];decide),vq hp]
   simp only[pq];lia
  ·have z:=D9 K hp hq Y6 (by
    obtain h|h:=kO.mp h
    ·exact absurd h.symm e
    ·exact h)
   cases g:q u with
   |true =>
    rw[vq g,vq (K u g)];simp only[pq];lia
   |false =>
    rw[AL (by rw[g];decide)]
    cases P:p u with
    |true=>rw[vq P];simp only[pq];lia
    |false=>rw[AL (by rw[P];decide)];exact z
def CS(hf:f∈Y6)(hn:f ∉ rs):un Y6 (rs++[f])+1<=un Y6 rs:=by
 refine D9 (λx hx=>?_) (decide_eq_true hn) (decide_eq_false ad) Y6 hf
 have hx:=of_decide_eq_true hx;exact decide_eq_true λz=>hx (i6.mpr (.inl z))
def marks(rs:List Str):List (Key×V):=rs.map λs=>(.inr s,.bl O)
structure RS(ks:List Kd)(k here:Str)(done rs W:List Str)(c:Nat):Prop where
 ki:k∈rs
 w:∀r∈W,r∈rs
 hi:here∈rs
 re:∀r∈rs,Reach ks k r
 cl:∀r∈rs,r ∉ W->r=here\/∀f∈yj ks r,f∈rs
 dn:∀f∈done,f∈rs
 sz:rs.length+un (lR ks) rs <=(lR ks).length+1
 sw:W.length<=rs.length
 m:2*un (lR ks) rs+W.length<c
variable{here:Str}{done:List Str}
def RS.old(R:RS ks k here done rs W c)(hf:f∈rs):RS ks k here (done++[f]) rs W c:=
 (R.ki,R.w,R.hi,R.re,R.cl,λg hg=>(i6.mp hg).elim (R.dn g) λh=>by rw[d2.mp h];exact hf,R.sz,R.sw,R.m)
def RS.new(R:RS ks k here done rs W c)(hn:f ∉ rs)(hf:f∈yj ks here):RS ks k here (done++[f]) (rs++[f]) (W++[f]) c where
 ki:=i6.mpr (.inl R.ki)
 w:=λr hr=>by
  obtain h|h:=i6.mp hr
  ·exact i6.mpr (.inl (R.w r h))
  ·exact i6.mpr (.inr h)
 hi:=i6.mpr (.inl R.hi)
 re:=λr hr=>by
  obtain h|h:=i6.mp hr
  ·exact R.re r h
  ·rw[d2.mp h];exact .step (R.re _ R.hi) hf
 cl:=λr hr hw=>by
  obtain h|h:=i6.mp hr
  ·obtain e|e:=R.cl r h (λz=>hw (i6.mpr (.inl z)))
   ·exact .inl e
   ·exact .inr λg hg=>i6.mpr (.inl (e g hg))
  ·exact absurd (i6.mpr (.inr h)) hw
 dn:=λg hg=>by
  obtain h|h:=i6.mp hg
  ·exact i6.mpr (.inl (R.dn g h))
  ·exact i6.mpr (.inr h)
 sz:=by
  have:=CS (Ag hf) hn
  have:=R.sz
  simp only[i5,vr]
  lia
 sw:=by
  have:=R.sw
  simp only[i5]
  lia
 m:=by
  have:=CS (Ag hf) hn
  have:=R.m
  simp only[i5,vr]
  lia
structure RWt(ks:List Kd)(k:Str)(rs W:List Str):Prop where
 ki:k∈rs
 w:∀r∈W,r∈rs
 re:∀r∈rs,Reach ks k r
 cl:∀r∈rs,r ∉ W->∀f∈yj ks r,f∈rs
 sz:rs.length+un (lR ks) rs <=(lR ks).length+1
 sw:W.length<=rs.length
def RWt.pop(R:RWt ks k rs (W++[here])):RS ks k here [] rs W (2*un (lR ks) rs+(W++[here]).length) where
 ki:=R.ki
 w:=λr hr=>R.w r (i6.mpr (.inl hr))
 hi:=R.w _ ad
 re:=R.re
 cl:=λr hr hw=>by
  by_cases e:r=here
  ·exact .inl e
  ·exact .inr (R.cl r hr (by simp[hw,e]))
 dn:=λf hf=>by simp at hf
 sz:=R.sz
 sw:=by
  have:=R.sw
  simp only[i5,vr]at this
  lia
 m:=by simp
def RS.fin(R:RS ks k here done rs W c)(hd:done=yj ks here):RWt ks k rs W where
 ki:=R.ki
 w:=R.w
 re:=R.re
 sz:=R.sz
 sw:=R.sw
 cl:=λr hr hw=>by
  obtain e|e:=R.cl r hr hw
  ·subst e;subst hd;exact R.dn
  ·exact e
def RWt.all(R:RWt ks k rs []):s∈rs ↔ Reach ks k s:=by
 refine(R.re s,λh=>?_)
 induction h with
 |here=>exact R.ki
 |step _ q g=>exact R.cl _ g ad _ q
def RWt.start:RWt ks k [k] [k] where
 ki:=by simp
 w:=λr h=>h
 re:=λr h=>by rw[d2.mp h];exact .here
 cl:=λr h n=>absurd h n
 sz:=by have:=Ta (Y6:=lR ks) (rs:=[k]);simp;lia
 sw:=ka _
def ox{α:Type}{β:Type}{xs:List α}{f:α->List β}{c:α}(h:xs[i]?=Z c):(xs.take i).flatMap f++f c=(xs.take (i+1)).flatMap f:=by
 rw[pM,h];simp
open Classical in
noncomputable def cy(ks:List Kd)(k:Str)(xs:List Kd):List Str:=xs.flatMap λx=>if Reach ks k x.1 then x.2.map (·.1)else []
def GV{xs:List Kd}(h:xs[i]?=Z x)(hr:Reach ks k x.1):cy ks k (xs.take (i+1))=cy ks k (xs.take i)++x.2.map (·.1):=by
 unfold cy;rw[<- ox h,if_pos hr]
def LR{xs:List Kd}(h:xs[i]?=Z x)(hr:¬ Reach ks k x.1):cy ks k (xs.take (i+1))=cy ks k (xs.take i):=by
 unfold cy;rw[<- ox h,if_neg hr,qg]
def Reach.trans(h1:Reach ks a b)(h2:Reach ks b c):Reach ks a c:=by
 induction h2 with
 |here=>exact h1
 |step _ h g=>exact .step g h
def F5{as:List Str}:∀{bs:List Str},as.Nodup->(∀x∈as,x∈bs)->as.length<=bs.length:=by
 induction as with
 |nil=>intro bs _ _;exact v5 _
 |cons a as g =>
  intro bs nd sub;rw[uj]at nd;have ha:=sub a ad
  have z:=g nd.2 λx hx=>(Ys (λ(e:x=a)=>nd.1 (by rw[<- e];exact hx))).mpr (sub x (by simp[hx]))
  rw[Yb ha]at z
  have:=Yk ha
  simp only[pq]
  lia
variable{X:Cx}{gd:List (J×Obj)}{H:Hp}{t':Nat}{fp:List J}
def Inv.qU{σ:St}(I:Inv X gd σ H s)(k:∀b o,b ∉ fp->s.heap.get? b=Z o->h'.get? b=Z o)(hf:∀b∈fp,uG X gd H b):
  Inv X gd σ H {s with heap:=h',toks:=t'}:=by
 have K:∀b u,H b=Z u->b ∉ fp:=λb u e z=>by
  have:=(hf b z).1
  rw[e]at this;cases this
 refine I.step (λb P=>?_) (λb o _ _ g e _=>k b o g e) (λb o _ _ g e _=>(o.slots,k b o g e)) (λ_ _ _ _ n=>n)
  (λb o g e=>(o,k b o g e)) (λ_ _ e=>e) (λ_ _ _ e=>e) (λb ps e=>(#[],by rw[e];simp)) (λm hm=>?_) (λb u e=>?_) I.bare
 ·let(f0,f1,f2,V,f4,Q):=hf b P;exact(V,f1,f4,Q)
 ·let(o,es,ep,ho,r):=hm;exact(o,es,ep,k _ o (λz=>(hf _ z).2.1 U) ho,r)
 ·refine(I.hok b u e).dA (λc v g q=>k c v ?_ q) (λ_ q=>q) λ_ _ q=>q
  obtain z|z:=g
  ·rw[z];exact K b u e
  ·exact K c _ z
def SqB(K:BT)(tp:Bool)(H:Hp)(a:J)(xs:List V):Prop:=if tp=O then SqT K H a xs else SqL K H a xs
variable{a:J}
def Inv.Bp{σ:St}{xs:List V}(I:Inv X gd σ H s)(h:SqB X.K tp H a xs):∃its:List B,Vals xs its/\a8 s.heap tp a its.toArray/\xs.length<=kf:=by
 cases tp with
 |true =>
  let(its,r,p,z):=I.tuple (h);exact(its,r,(p),z)
 |false =>
  let(its,r,p,z):=I.list (h);exact(its,r,p.isList,z)
def Inv.HI{σ:St}{xs ys:List V}(I:Inv X gd σ H s)(h:SqB X.K tp H a xs)(h2:SqB X.K tp H a ys):xs=ys:=by
 cases tp with
 |true=>exact I.vK (h) (h2)
 |false=>exact I.zV (h) (h2)
def itc(tp:Bool):String:=if tp=O then "tuple_iterator" else "list_iterator"
variable{A:Db}{E:B->ϋ->Prop}
def jQ{s:ϋ}(h:a8 s.heap tp l xs)
  (g:Q (.ref s.heap.objs.size) {s with heap:=s.heap.push {cls:=.type (itc tp),data:=.fields #[.ref l,.int 0 0]}}):wpAny (model prog w) A (pyIter (.ref l)) Q E s:=by
 cases tp with
 |true=>exact wpAny_pyIter_tuple (h) g
 |false=>exact wpAny_pyIter_list (h) g
abbrev zH1(t1:Bool)(h:Do)(l1:J):Do:=h.push {cls:=.type (itc t1),data:=.fields #[.ref l1,.int 0 0]}
abbrev zH2(t1 t2:Bool)(h:Do)(l1 l2:J):Do:=(zH1 t1 h l1).push {cls:=.type (itc t2),data:=.fields #[.ref l2,.int 0 0]}
abbrev zH3(t1 t2:Bool)(h:Do)(l1 l2:J):Do:=(zH2 t1 t2 h l1 l2).push {cls:=.type "tuple",data:=.seq #[.ref h.objs.size,.ref (zH1 t1 h l1).objs.size]}
abbrev zH4(t1 t2:Bool)(h:Do)(l1 l2:J):Do:=(zH3 t1 t2 h l1 l2).push {cls:=.type "tuple",data:=.seq #[.none,.none]}
abbrev zH5(t1 t2:Bool)(h:Do)(l1 l2:J):Do:=(zH4 t1 t2 h l1 l2).push {cls:=.type "zip",data:=.fields #[.none,.bool ϊ,.bool ϊ,.ref (zH2 t1 t2 h l1 l2).objs.size,.ref (zH3 t1 t2 h l1 l2).objs.size]}
def vk(t1 t2:Bool)(l1 l2:J)(xs ys:Array B):
  Meets (Builtin.«zip.__new__» ([.type "zip",.ref l1,.ref l2],[])) (λ_ R s=>a8 s.heap t1 l1 xs/\a8 s.heap t2 l2 ys /\
   R (.ok (.ret (.ref (zH4 t1 t2 s.heap l1 l2).objs.size))) {s with heap:=zH5 t1 t2 s.heap l1 l2}):=
 .of_wp λprog w A R s h=>by
  let(hp,g,d,tk,os):=s;let(z,q,h):=h;have Q:=sub_zip;have P:=z;have K:a8 (ϋ.heap (hp.push {cls:=.type (itc t1),data:=.fields #[.ref l1,.int 0 0]},g,d,tk,os)) t2 l2 ys:=q.at λo e=>fC _ e
  wp_walk using jQ P,jQ K
  exact(_,U,h)
def jt(e:h.get? it=Z {cls:=.type (itc tp),data:=.fields #[.ref l,.int 0 0]}):aW h tp it l 0:=by
 cases tp with
 |true=>exact((_,e,U,U))
 |false=>exact((_,e,U,U))
theorem nG{A:Db}{E:B->ϋ->Prop}{s:ϋ}(P:a8 s.heap t1 l1 xs)(K:a8 s.heap t2 l2 ys)
  (h:∀h',IsZip h' (s.heap.objs.size+4) (s.heap.objs.size+2) (s.heap.objs.size+3) .none->IsPair h' (s.heap.objs.size+2) (.ref s.heap.objs.size) (.ref (s.heap.objs.size+1)) ->
   IsPair h' (s.heap.objs.size+3) .none .none->aW h' t1 s.heap.objs.size l1 0->aW h' t2 (s.heap.objs.size+1) l2 0 ->
   (∀c o,s.heap.get? c=Z o->h'.get? c=Z o)->Q (.ref (s.heap.objs.size+4)) {s with heap:=h'}):
  wpAny (model prog w) A (call (.type "zip") [.ref l1,.ref l2]) Q E s:=by
 refine callType_new F.called_zip ac (F.typeCall_zip_2 _ _) (F.newCall_zip_2 _ _) (λobj=>F.args_object_init_3 obj _ _) F.entry_zip_new
  (vk t1 t2 l1 l2 xs ys) (P,K,?_)
 have z:(zH1 t1 s.heap l1).objs.size=s.heap.objs.size+1:=wh ..;have q:(zH2 t1 t2 s.heap l1 l2).objs.size=s.heap.objs.size+2:=by rw[wh,z]
 have g:(zH3 t1 t2 s.heap l1 l2).objs.size=s.heap.objs.size+3:=by rw[wh,q]
 have z4:(zH4 t1 t2 s.heap l1 l2).objs.size=s.heap.objs.size+4:=by rw[wh,g]
 have V:(zH5 t1 t2 s.heap l1 l2).get? (zH4 t1 t2 s.heap l1 l2).objs.size=Z _:=ke _ U;have g4:(zH5 t1 t2 s.heap l1 l2).get? (zH3 t1 t2 s.heap l1 l2).objs.size=Z _:=fC _ (ke _ U);have g3:(zH5 t1 t2 s.heap l1 l2).get? (zH2 t1 t2 s.heap l1 l2).objs.size=Z _:=fC _ (fC _ (ke _ U));have g2:(zH5 t1 t2 s.heap l1 l2).get? (zH1 t1 s.heap l1).objs.size=Z _:=fC _ (fC _ (fC _ (ke _ U)));have g1:(zH5 t1 t2 s.heap l1 l2).get? s.heap.objs.size=Z _:=fC _ (fC _ (fC _ (fC _ (ke _ U))));rw[q,g,z4]at V;rw[z,q]at g3;rw[g]at g4;rw[z]at g2;rw[z4];exact((_,V,U),h _ V g3 g4 (jt g1) (jt g2) λc o x =>
  fC _ (fC _ (fC _ (fC _ (fC _ x)))))
def a8.obj(x:a8 h tp l xs):∃o,h.get? l=Z o:=by
 cases tp with
 |true=>let(o,ho,_):=(x);exact(o,ho)
 |false=>let(o,ho,_):=(x);exact(o,ho)
variable{n:Nat}
def pN{l1 l2:Nat}(h1:l1<n)(h2:l2<n):ZipApart (n+4) (n+2) (n+3) n (n+1) l1 l2:=by
 constructor <;>(lia)
def Fo(h:ws.Nodup):(ws.drop t++ws.take t).Nodup:=
 (List.perm_append_comm).nodup_iff.mp (by rw[List.take_append_drop];exact h)
variable{d:J}
def nV.other(D:nV H d l)(h1:q≠d)(h2:q≠l):nV (upd H q o) d l:=by
 let(s,n,ls,D):=D;exact(s,n,ls,by rw[au h1.symm];exact D.hd,by rw[au h2.symm];exact D.hl,D.s0,D.s1,D.n0,D.l0)
def names(ks:List Kd):List Str:=ks.flatMap λk=>k.2.map (·.1)
variable{x:Str}
def take_one{xs:List Str}(h:xs[i]?=Z x):xs.take i++[x]=xs.take (i+1):=by rw[pM,h];rfl
variable{es:List Ev}
theorem iL{K:BT}{k:Nat}{pos:Pos}(z:X.K=K)(q:X.calm=O)(h:PGs X es t)
  (hn:‹(assignEach es X.env).length=n›) (g:‹(assignEach es X.env).findIdx? (·.1)=none›):PG X (.Tuple es k pos) (Oq K n t):=z▸Rm q h hn g
abbrev pK(h:Do)(z TI TO:J)(a:J)(f:Bool):Prop:=
 h.get? z=Z {cls:=.type "zip",dict:=Y,data:=.fields #[rawInt a,.bool f,.bool ϊ,.ref TI,.ref TO],slots:=#[]}
variable{oa:Obj}
section
variable{prog:Da}{w:Cl}{s:ϋ}
theorem zM{TI TO:J}{f:Bool}{Q:Bool->ϋ->Prop}(K:pK s.heap z TI TO a f)(ha:s.heap.get? a=Z oa)
  (V:∀h',pK h' z TI TO a O->Xi z s.heap h'->Q ϊ {s with heap:=h'}):wpAny (model prog w) A (Builtin.SmallTypes.ownedTupleIsFree (.ref z)) Q E s:=by
 refine dF (wpAny_field K U U ?_);refine dF (W.kdx_alive ha (dF (wpAny_field K U (x:=.bool f) U ?_)));cases f with
 |true =>
  exact kb (V _ K (Heap.SameBut.refl _ _))
 |false =>
  exact dF (wpAny_setField_rec K ad λP q g=>(kb (V _ q g)))
theorem LM{TI TO:J}{f:Bool}{x y:B}{Q:Option B->ϋ->Prop}(D:ZipApart z TI TO i1 i2 l1 l2)
  (hz:pK s.heap z TI TO a f) (ha:s.heap.get? a=Z oa) (aP:IsPair s.heap TI (.ref i1) (.ref i2))
  (h1:aW s.heap t1 i1 l1 k1) (h2:aW s.heap t2 i2 l2 k2) (ay:a8 s.heap t1 l1 xs) (av:a8 s.heap t2 l2 ys) (hx:xs[k1]?=Z x) (hy:ys[k2]?=Z y)
  (hQ:∀h',pK h' z TI TO a O->aW h' t1 i1 l1 (k1+1)->aW h' t2 i2 l2 (k2+1)->IsPair h' s.heap.objs.size x y->h'.objs.size=s.heap.objs.size+1 ->
   (∀c o,c≠z->c≠i1->c≠i2->s.heap.get? c=Z o->h'.get? c=Z o)->Q (Z (.ref s.heap.objs.size)) {s with heap:=h'}):
  wpAny (model prog w) A (pyNext (.ref z)) Q E s:=by
 have hT:s.TypeIs (.ref z) "zip":=(_,hz,U);refine dF (WX (wpAny_callSpecial?_slot hT F.slot_zip_next
  (yK F.slot_zip_next hT F.entry_zip_next ?_ (F.args_zip_next_1 _))))
 show wpAny _ _ (field (.ref z) 2 >>= _) _ _ _;refine dF (wpAny_field hz U (x:=.bool ϊ) U (dF (wpAny_field hz U U (dF (wpAny_seqItems aP U (dF (zM hz ha λh₁ V g=>?_)))))))
 simp only[X0,if_false];rw[<- YI];simp only[Xu];refine dF (dF (dF (CF (dF (next_item (h1.at λo e=>g.extBut _ o D.i1z e) (ay.at λo e=>g.extBut _ o D.l1z e) hx λaQ ar q=>kb (kb (dF (dF (CF (dF (next_item (h2.at λo e=>q.extBut _ o D.i12.symm (g.extBut _ o D.i2z e)) (av.at λo e=>q.extBut _ o D.l2i1 (g.extBut _ o D.l2z e)) hy λP ak K=>kb (kb (kb ?_)))))))))))))
 show wpAny _ _ (newTuple [x,y] >>= _) _ _ _;refine dF (wpAny_newTuple ?_);have hsz:P.objs.size=s.heap.objs.size:=by rw[K.1,q.1,g.1]
 have up:∀c o,c≠z->c≠i1->c≠i2->s.heap.get? c=Z o->(P.push {cls:=.type "tuple",data:=.seq #[x,y]}).get? c=Z o:=λc o c1 c2 c3 e =>
  fC _ (K.extBut _ _ c3 (q.extBut _ _ c2 (g.extBut _ _ c1 e)))
 refine kb (_,U,kb ?_);rw[hsz];refine hQ _ (fC _ (K.extBut _ _ D.i2z.symm (q.extBut _ _ D.i1z.symm V))) ?_ ?_ ?_ ?_ up
 ·exact ar.at λo e=>fC _ (K.extBut _ o D.i12 e)
 ·exact ak.at λo e=>fC _ e
 ·rw[<- hsz];exact ke _ U
 ·rw[wh,hsz]
theorem yR{TI TO:J}{f:Bool}{Q:Option B->ϋ->Prop}(hh:A.handled=Y)(D:ZipApart z TI TO i1 i2 l1 l2)
  (hz:pK s.heap z TI TO a f) (ha:s.heap.get? a=Z oa) (ay:IsPair s.heap TI (.ref i1) (.ref i2))
  (h1:aW s.heap t1 i1 l1 k1) (h2:aW s.heap t2 i2 l2 k2) (ak:a8 s.heap t1 l1 xs) (av:a8 s.heap t2 l2 ys) (yg:xs[k1]?=Y\/ys[k2]?=Y)
  (hQ:∀h',(∀c o,c≠z->c≠i1->c≠i2->s.heap.get? c=Z o->h'.get? c=Z o)->Q Y {s with heap:=h'}):
  wpAny (model prog w) A (pyNext (.ref z)) Q E s:=by
 have hT:s.TypeIs (.ref z) "zip":=(_,hz,U);have fin:∀h' e,(∀c o,c≠z->c≠i1->c≠i2->s.heap.get? c=Z o->h'.get? c=Z o)->(∃ o,h'.get? e=Z o/\o.cls=.type "StopIteration") ->
   wpAny (model prog w) A (do if <- isInstance (.ref e) (.type "StopIteration")then pure Y else throw (.ref e)) Q E {s with heap:=h'}:=λh' e hk he=>by
  let(o,ho,hc):=he;exact dF (WT (o,ho,hc) isSubtype_stop (kb (hQ _ hk)))
 refine dF (WX (wpAny_callSpecial?_slot hT F.slot_zip_next
  (yK F.slot_zip_next hT F.entry_zip_next ?_ (F.args_zip_next_1 _))))
 show wpAny _ _ (field (.ref z) 2 >>= _) _ _ _;refine dF (wpAny_field hz U (x:=.bool ϊ) U (dF (wpAny_field hz U U (dF (wpAny_seqItems ay U (dF (zM hz ha λh₁ ar g=>?_)))))))
 simp only[X0,if_false];rw[<- YI];simp only[Xu];refine dF (dF (dF (CF ?_)));cases hx:xs[k1]? with
 |none =>
  exact dF (next_end hh (h1.at λo e=>g.extBut _ o D.i1z e) (ak.at λo e=>g.extBut _ o D.l1z e) hx λK e q he=>(fin K e (λc o c1 c2 _ x=>q _ _ c2 (g.extBut _ _ c1 x)) he))
 |some x =>
  have hy:ys[k2]?=none:=by obtain h|h:=yg;rw[hx]at h;cases h;exact h
  exact dF (next_item (h1.at λo e=>g.extBut _ o D.i1z e) (ak.at λo e=>g.extBut _ o D.l1z e) hx λK aP q=>kb (kb (dF (dF (CF (dF (next_end hh (h2.at λo e=>q.extBut _ o D.i12.symm (g.extBut _ o D.i2z e)) (av.at λo e=>q.extBut _ o D.l2i1 (g.extBut _ o D.l2z e)) hy λV e P he=>(fin V e (λc o c1 c2 c3 x=>P _ _ c3 (q.extBut _ _ c2 (g.extBut _ _ c1 x))) he))))))))
end
structure ZSt(h:Do)(z TI TO i1 i2 l1 l2 S:J)(t1 t2:Bool)(i:Nat):Prop where
 ti:IsPair h TI (.ref i1) (.ref i2)
 s1:aW h t1 i1 l1 i
 s2:aW h t2 i2 l2 i
 st:(IsZip h z TI TO .none/\∃a b,IsPair h TO a b)\/∃(a:J)(f:Bool)(oa:Obj),pK h z TI TO a f/\h.get? a=Z oa/\a≠z/\a≠S/\a≠i1/\a≠i2
variable{S:J}
def ZSt.keep{TI TO:J}(x:ZSt h z TI TO i1 i2 l1 l2 S t1 t2 i)(k:∀b o,b≠S->h.get? b=Z o->h'.get? b=Z o)(Q:z≠S)(q:TI≠S)(g:TO≠S)(h1:i1≠S)(h2:i2≠S):ZSt h' z TI TO i1 i2 l1 l2 S t1 t2 i:=
 (k _ _ q x.ti,x.s1.at λo e=>k _ o h1 e,x.s2.at λo e=>k _ o h2 e,by
  obtain⟨e,a,b,K⟩|⟨a,f,oa,e,K,n1,P,V⟩:=x.st
  ·exact .inl (k _ _ Q e,a,b,k _ _ g K)
  ·exact .inr (a,f,oa,k _ _ Q e,k _ _ P K,n1,P,V))
structure ZG(xs ys:Array B)(lo:Nat)(h:Do)(as:List J):Prop where
 rise:as.Pairwise (· < ·)
 above:∀a∈as,lo<=a
 pairs:∀(j:Nat)(a:J),as[j]?=Z a->∃x y,xs[j]?=Z x/\ys[j]?=Z y/\IsPair h a x y
def ZG.there{lo:Nat}(g:ZG xs ys lo h as)(ha:a∈as):a<h.objs.size:=by
 let(j,q):=List.mem_iff_getElem?.mp ha;let(_,_,_,_,e):=g.pairs j a q;exact j5 e
section
variable{prog:Da}{w:Cl}{s:ϋ}
def CL{E:B->ϋ->Prop}{TI TO:J}{k:Nat}{x y:B}{Q:Option B->ϋ->Prop}(D:ZipApart z TI TO i1 i2 l1 l2)
  (st:ZSt s.heap z TI TO i1 i2 l1 l2 S t1 t2 k) (hS:S<s.heap.objs.size) (K:a8 s.heap t1 l1 xs) (q:a8 s.heap t2 l2 ys) (hx:xs[k]?=Z x) (hy:ys[k]?=Z y)
  (hQ:∀h',ZSt h' z TI TO i1 i2 l1 l2 S t1 t2 (k+1)->IsPair h' s.heap.objs.size x y->h'.objs.size=s.heap.objs.size+1 ->
   (∀c o,c≠z->c≠TO->c≠i1->c≠i2->s.heap.get? c=Z o->h'.get? c=Z o)->Q (Z (.ref s.heap.objs.size)) {s with heap:=h'}):
  wpAny (model prog w) A (pyNext (.ref z)) Q E s:=by
 let(o1,g1,_):=st.s1.obj;let(o2,g2,_):=st.s2.obj;obtain⟨P,a,b,V⟩|⟨a,f,oa,P,ha,n1,n2,n3,n4⟩:=st.st
 ·refine GP D P st.ti V st.s1 st.s2 K q hx hy λh' g WS e1 e2 hp hsz hk=>hQ h' (hk _ _ D.TIz D.TITO D.TIi1 D.TIi2 st.ti,e1,e2,.inr (s.heap.objs.size,ϊ,_,g,hp,?_,?_,?_,?_)) hp hsz hk
  ·exact C3 (j5 P)
  ·exact C3 hS
  ·exact C3 (j5 g1)
  ·exact C3 (j5 g2)
 ·exact LM D P ha st.ti st.s1 st.s2 K q hx hy λh' g e1 e2 hp hsz hk=>hQ h' (hk _ _ D.TIz D.TIi1 D.TIi2 st.ti,e1,e2,.inr (a,O,oa,g,hk a oa n1 n3 n4 ha,n1,n2,n3,n4)) hp hsz λc o c1 _ c3 c4 e=>hk c o c1 c3 c4 e
def CM{TI TO:J}{k:Nat}{Q:Option B->ϋ->Prop}(hh:A.handled=Y)(D:ZipApart z TI TO i1 i2 l1 l2)
  (st:ZSt s.heap z TI TO i1 i2 l1 l2 S t1 t2 k) (q:a8 s.heap t1 l1 xs) (g:a8 s.heap t2 l2 ys) (V:xs[k]?=Y\/ys[k]?=Y)
  (hQ:∀h',(∀c o,c≠z->c≠TO->c≠i1->c≠i2->s.heap.get? c=Z o->h'.get? c=Z o)->Q Y {s with heap:=h'}):wpAny (model prog w) A (pyNext (.ref z)) Q E s:=by
 obtain⟨K,a,b,P⟩|⟨a,f,oa,K,ha,n1,n2,n3,n4⟩:=st.st
 ·exact LN hh D K st.ti P st.s1 st.s2 q g V hQ
 ·exact yR hh D K ha st.ti st.s1 st.s2 q g V λh' hk=>hQ h' λc o c1 _ c3 c4 e=>hk c o c1 c3 c4 e
def LI{TI TO:J}{t1 t2:Bool}{lo:Nat}(hh:A.handled=Y)(D:ZipApart z TI TO i1 i2 l1 l2)(ar:z≠S)(yh:TI≠S)(pF:TO≠S)(aQ:i1≠S)(aP:i2≠S)(ye:l1≠S)(yd:l2≠S)
  (oS:S<lo) (oz:z<lo) (aR:TO<lo) (o1:i1<lo) (o2:i2<lo) (en:n=min xs.size ys.size) (hn:n<=kf) (res:B) {h₁:Do}
  (hR:∀h' tk acc c as,(∀b o,b≠S->b≠z->b≠TO->b≠i1->b≠i2->h₁.get? b=Z o->h'.get? b=Z o)->h'.get? S=Z {cls:=.type "list",dict:=Y,data:=.seq acc c,slots:=#[]}->as.length=n->ZG xs ys lo h' as ->
   acc.toList=as.map B.ref->R (.ok (.ret res)) {s with heap:=h',toks:=tk}):
  ∀(k i:Nat)(h:Do)(tk c:Nat)(acc:Array B)(as:List J),n-i=k->i<=n->ZSt h z TI TO i1 i2 l1 l2 S t1 t2 i->a8 h t1 l1 xs->a8 h t2 l2 ys->(∀b o,b≠S->b≠z->b≠TO->b≠i1->b≠i2->h₁.get? b=Z o->h.get? b=Z o) ->
   h.get? S=Z {cls:=.type "list",dict:=Y,data:=.seq acc c,slots:=#[]}->acc.toList=as.map B.ref->as.length=i->ZG xs ys lo h as->lo<=h.objs.size ->
   codeAny (model prog w) A (.builtin "list.extend.loop" ([.ref S,.ref z,res],[])) R {s with heap:=h,toks:=tk}:=by
 have ne:∀{a b:Nat},a<lo->lo<=b->b≠a:=λh1 h2=>al
 intro k
 induction k with
 |zero =>
  intro i h tk c acc as hk hi av ak V pW hS gf K P ay;refine QG PySem.F.entry_extend_loop ?_;refine dF (CM (A:=A.in1) hh D av ak V ?_ λh' he=>?_)
  ·by_cases q:xs.size<=i
   ·exact .inl (W3 q)
   ·exact .inr (W3 al)
  refine kb (hR h' tk acc c as (λb o b1 b2 b3 b4 b5 e=>he b o b2 b3 b4 b5 (pW b o b1 b2 b3 b4 b5 e)) (he S _ ar.symm pF.symm aQ.symm aP.symm hS) al (P.rise,P.above,λj a Q=>?_) gf)
  let(x,y,e1,e2,e3):=P.pairs j a Q;have ab:=P.above a (gV Q);exact(x,y,e1,e2,he a _ (ne oz ab) (ne aR ab) (ne o1 ab) (ne o2 ab) e3)
 |succ k ih =>
  intro i h tk c acc as hk hi av ak V pW hS gf K P ay;have aV:=Xl hk;have hm:=Y5.mp (en▸aV);have hx:=WL hm.1;have hy:=WL hm.2;have hsz:acc.size=i:=by rw[<- W2,gf,cO,K]
  refine QG PySem.F.entry_extend_loop ?_;refine dF (CL (S:=S) D av (j5 hS) ak V hx hy λh' Ci ht hz g=>?_)
  have a3:=g S _ ar.symm pF.symm aQ.symm aP.symm hS;have up:∀b o,b≠S->h'.get? b=Z o->(h'.update S (Lp (·.push (B.ref h.objs.size)))).get? b=Z o:=λb o hb e=>(EA _ _ (Ne.symm hb)).trans e
  have a0:=j5 hS;refine dF ?_;refine Xb a3 U (kb (O3 PySem.F.plain_extend_loop _,ih (i+1) _ tk _ (acc.push (B.ref h.objs.size)) (as++[h.objs.size]) (by rw[Yl,hk];rfl) aV (Ci.keep up ar yh pF aQ aP)
   (ak.at λo e=>up _ o ye (g _ o D.l1z D.l1TO D.l1i1 D.l1i2 e)) (V.at λo e=>up _ o yd (g _ o D.l2z D.l2TO D.l2i1 D.l2i2 e))
   (λb o b1 b2 b3 b4 b5 e=>up b o b1 (g b o b2 b3 b4 b5 (pW b o b1 b2 b3 b4 b5 e))) (Fq _ a3 U) (by rw[Array.toList_push,gf,j3];rfl) (by rw[i5,K];rfl) (?_,?_,?_) ?_)) (by rw[hsz];lia) (by rw[Array.size_push,hsz];lia)
  ·refine List.pairwise_append.mpr (P.rise,List.pairwise_singleton _ _,λa ha b hb=>?_)
   rw[d2.mp hb];exact P.there ha
  ·intro a ha;obtain ha|ha:=i6.mp ha
   ·exact P.above a ha
   ·rw[d2.mp ha];exact ay
  ·intro j b Q;obtain h1|h1|h1:=Nat.lt_trichotomy j as.length
   ·rw[ui h1]at Q;let(x',y',e1,e2,e3):=P.pairs j b Q;have ab:=P.above b (gV Q);exact(x',y',e1,e2,up b _ (ne oS ab) (g b _ (ne oz ab) (ne aR ab) (ne o1 ab) (ne o2 ab) e3))
   ·subst h1;have hb:=(Q:)
    subst hb;exact(_,_,by rw[K];exact hx,by rw[K];exact hy,up _ _ (C3 a0) ht)
   ·have UO:(as++[h.objs.size])[j]?=none:=Ln (by rw[i5,vr];lia)
    rw[UO]at Q;cases Q
  ·have e:=up _ _ (C3 a0) ht
   have:=j5 e
   have Wo:=ay;exact qR Wo (uE this)
end
def A2:typeLookup (.type "zip") "__len__"=pure none:=bi
def yS:typeLookup (.type "zip") "__length_hint__"=pure none:=bi
section
variable{prog:Da}{w:Cl}{s:ϋ}
theorem EV{TI TO:J}(hh:A.handled=Y)(D:ZipApart z TI TO i1 i2 l1 l2)(q:z≠S)(yh:TI≠S)(pF:TO≠S)(ar:i1≠S)(ak:i2≠S)(ye:l1≠S)(yd:l2≠S)
  (hz:IsZip s.heap z TI TO .none) {ta tb:B} (V:IsPair s.heap TO ta tb) (av:IsPair s.heap TI (.ref i1) (.ref i2)) (Q:aW s.heap t1 i1 l1 0) (P:aW s.heap t2 i2 l2 0) (aP:a8 s.heap t1 l1 xs) (ay:a8 s.heap t2 l2 ys)
  (en:n=min xs.size ys.size) (hn:n<=kf) (res:B) (c₀:Nat) (hS:s.heap.get? S=Z (#[]^^^c₀))
  (hR:∀h' tk acc c as,(∀b o,b≠S->b≠z->b≠TO->b≠i1->b≠i2->s.heap.get? b=Z o->h'.get? b=Z o)->h'.get? S=Z {cls:=.type "list",dict:=Y,data:=.seq acc c,slots:=#[]}->as.length=n->ZG xs ys s.heap.objs.size h' as ->
   acc.toList=as.map B.ref->R (.ok (.ret res)) {s with heap:=h',toks:=tk}):
  wpAny (model prog w) A.in1 (Builtin.List.listExtendWith (.ref S) (.ref z) res)
   (λfin s'=>match fin with|.done f=>R (.ok f) s' |.again c'=>c'.quiet=O/\codeAny (model prog w) A c' R s') (λe s'=>R (.error e) s') s:=by
 have hT:s.TypeIs (.ref z) "zip":=(_,hz,U);let(aR,g1,_):=Q.obj;let(aQ,g2,_):=P.obj;refine dF (Lo hT ?_);have e1:Builtin.List.listSameRef (.ref S) (.ref z)=false:=by simp[Builtin.List.listSameRef,q.symm]
 have e2:(B.type "zip" == B.type "list")=false:=ac
 have e3:(B.type "zip" == B.type "tuple")=false:=ac
 simp only[e1,e2,e3,if_false];refine dF (wpAny_pyIter_zip hz (dF (CF ?_)));refine dF (OZ hT A2 ?_);refine dF (OZ hT yS (kb ?_));refine dF (VQ (dF ?_));refine dF (Xb hS U ?_);have g:=Fq (Lp (·.push B.none)) hS U;refine Xb g U ?_;have K:=Fq (Lp (·.pop)) g U;have oth:∀b o,b≠S->s.heap.get? b=Z o->((s.heap.update S (Lp (·.push B.none))).update S (Lp (·.pop))).get? b=Z o:=
  λb o hb e=>(EA _ _ (Ne.symm hb)).trans ((EA _ _ (Ne.symm hb)).trans e)
 have hsz:((s.heap.update S (Lp (·.push B.none))).update S (Lp (·.pop))).objs.size=s.heap.objs.size:=by
  rw[(Heap.SameBut.update (a:=S) ..).1,(Heap.SameBut.update (a:=S) ..).1]
 refine kb (O3 F.plain_extend_loop _,LI (s:=s) (n:=n) hh D q yh pF ar ak ye yd (j5 hS) (j5 hz) (j5 V) (j5 g1) (j5 g2) en hn res hR n 0 _ _ _ _ [] al (v5 _)
  (oth _ _ yh av,Q.at λo e=>oth _ o ar e,P.at λo e=>oth _ o ak e,.inl (oth _ _ q hz,ta,tb,oth _ _ pF V)) (aP.at λo e=>oth _ o ye e) (ay.at λo e=>oth _ o yd e) (λb o b1 _ _ _ _ e=>oth b o b1 e) K U U (List.Pairwise.nil,λ_ z=>(nomatch z),λj a hj=>by simp at hj) (by rw[hsz];exact ka _))
def LJ{TI TO:J}(hh:A.handled=Y)(D:ZipApart z TI TO i1 i2 l1 l2)(q:z≠S)(yh:TI≠S)(pF:TO≠S)(P:i1≠S)(K:i2≠S)(ye:l1≠S)(yd:l2≠S)
  (hz:IsZip s.heap z TI TO .none) {ta tb:B} (ak:IsPair s.heap TO ta tb) (ar:IsPair s.heap TI (.ref i1) (.ref i2)) (V:aW s.heap t1 i1 l1 0) (Q:aW s.heap t2 i2 l2 0) (aP:a8 s.heap t1 l1 xs) (ay:a8 s.heap t2 l2 ys)
  (en:n=min xs.size ys.size) (hn:n<=kf) (hS:s.heap.get? S=Z (~~~#[]))
  (hR:∀h' tk acc c as,(∀b o,b≠S->b≠z->b≠TO->b≠i1->b≠i2->s.heap.get? b=Z o->h'.get? b=Z o)->h'.get? S=Z {cls:=.type "list",dict:=Y,data:=.seq acc c,slots:=#[]}->as.length=n->ZG xs ys s.heap.objs.size h' as ->
   acc.toList=as.map B.ref->R (.ok (.ret .none)) {s with heap:=h',toks:=tk}):
  wpAny (model prog w) A.in1 (Builtin.«list.__init__» ([.ref S,.ref z],[]))
   (λfin s'=>match fin with|.done f=>R (.ok f) s' |.again c'=>c'.quiet=O/\codeAny (model prog w) A c' R s') (λe s'=>R (.error e) s') s:=by
 refine dF ?_;refine dF (wpAny_seqItems hS U (kb ?_));refine dF (Xb hS U ?_);have g:=Fq (Lp (λ_=>(#[]))) hS U
 have oth:∀b o,b≠S->s.heap.get? b=Z o->(s.heap.update S (Lp (λ_=>(#[])))).get? b=Z o:=
  λb o hb e=>(EA _ _ (Ne.symm hb)).trans e
 have hsz:(s.heap.update S (Lp (λ_=>(#[])))).objs.size=s.heap.objs.size:=(Heap.SameBut.update (a:=S) ..).1
 refine EV (xs:=xs) (ys:=ys) (n:=n) hh D q yh pF P K ye yd (oth _ _ q hz) (oth _ _ pF ak) (oth _ _ yh ar) (V.at λo e=>oth _ o P e) (Q.at λo e=>oth _ o K e) (aP.at λo e=>oth _ o ye e) (ay.at λo e=>oth _ o yd e) en hn .none _ g (λh' tk acc c as hk av hl hG gf=>?_)
 rw[hsz]at hG;exact hR h' tk acc c as (λb o b1 b2 b3 b4 b5 e=>hk b o b1 b2 b3 b4 b5 (oth b o b1 e)) av hl hG gf
def LL{E:B->ϋ->Prop}{Q:B->ϋ->Prop}{TI TO:J}(hh:A.handled=Y)(D:ZipApart z TI TO i1 i2 l1 l2)
  (hz:IsZip s.heap z TI TO .none) {ta tb:B} (P:IsPair s.heap TO ta tb) (V:IsPair s.heap TI (.ref i1) (.ref i2)) (K:aW s.heap t1 i1 l1 0) (q:aW s.heap t2 i2 l2 0) (ar:a8 s.heap t1 l1 xs) (ak:a8 s.heap t2 l2 ys)
  (en:n=min xs.size ys.size) (hn:n<=kf)
  (hQ:∀h' tk acc c as,(∀b o,b≠z->b≠TO->b≠i1->b≠i2->s.heap.get? b=Z o->h'.get? b=Z o)->h'.get? s.heap.objs.size=Z {cls:=.type "list",dict:=Y,data:=.seq acc c,slots:=#[]}->as.length=n->ZG xs ys (s.heap.objs.size+1) h' as ->
   acc.toList=as.map B.ref->Q (.ref s.heap.objs.size) {s with heap:=h',toks:=tk}):
  wpAny (model prog w) A (call (.type "list") [.ref z]) Q E s:=by
 refine callType_codes (Q₁:=λobj g=>obj=.ref s.heap.objs.size/\g={s with heap:=s.heap.push (~~~#[])}) PySem.F.called_list (PySem.F.typeCall_list_1 _) PySem.F.entry_list_init
  (code_list_new _ (U,U)) λobj g h₁=>?_
 let(U,U):=h₁;have hS:(s.heap.push (~~~#[])).get? s.heap.objs.size=Z (~~~#[]):=ke _ U;let(aR,g1,_):=K.obj;let(aQ,g2,_):=q.obj;let(aP,g3):=ar.obj;let(ay,g4):=ak.obj;have up:∀b o,s.heap.get? b=Z o->(s.heap.push (~~~#[])).get? b=Z o:=λb o e=>fC _ e
 refine((_,hS,U),PySem.F.args_list_init_2 _ _,LJ hh D (ri (j5 hz)) (ri (j5 V)) (ri (j5 P)) (ri (j5 g1)) (ri (j5 g2)) (ri (j5 g3)) (ri (j5 g4))
  (up _ _ hz) (up _ _ P) (up _ _ V) (K.at λo e=>up _ o e) (q.at λo e=>up _ o e) (ar.at λo e=>up _ o e) (ak.at λo e=>up _ o e) en hn hS (λh' tk acc c as hk av hl hG gf=>?_))
 rw[wh]at hG;exact(U,hQ h' tk acc c as (λb o b2 b3 b4 b5 e=>hk b o (ri (j5 e)) b2 b3 b4 b5 (up b o e)) av hl hG gf)
end
def Gw(h:Do)(m:Nat):Do:={h with objs:=h.objs.extract 0 m}
def nC(g:b<m):(Gw h m).get? b=h.get? b:=by
 unfold Gw Heap.get?;have e:(h.objs.extract 0 m)[b]?=h.objs[b]?:=by
  rw[Array.getElem?_extract];by_cases q:b<h.objs.size
  ·rw[if_pos al,Es]
  ·rw[if_neg al,W3 al]
 simp only[e]
def uo(hm:m<=h.objs.size):(Gw h m).objs.size=m:=by
 unfold Gw;rw[Array.size_extract]
 lia
def Oz(hm:m<=h.objs.size)(e:(Gw h m).get? b=Z u):h.get? b=Z u:=by
 have:=j5 e
 rw[uo hm]at this;rw[<- nC this];exact e
def oh(H:Hp):List (J×HO)->Hp
 |[]=>H
 |p::r=>oh (upd H p.1 p.2) r
theorem n8:∀{os:List (J×HO)}{H:Hp}{c:J},c ∉ os.map (·.1)->oh H os c=H c
 |[],_,_,_=>rfl
 |p::r,H,c,h=>by
  show oh (upd H p.1 p.2) r c=H c;rw[n8 (λz=>h (j1 _ z)),au λz=>h (by rw[z];exact j2)]
theorem og:∀{os:List (J×HO)}{H:Hp}{p:J×HO},(os.map (·.1)).Nodup->p∈os->oh H os p.1=Z p.2
 |q::r,H,p,hn,hp=>by
  have h':=uj.mp hn;show oh (upd H q.1 q.2) r p.1=Z p.2;obtain rfl|hp:=kO.mp hp
  ·rw[n8 h'.1,az]
  ·exact og h'.2 hp
theorem yW:∀as:List J,Vals (as.map V.ref) (as.map B.ref)
 |[]=>.nil
 |a::r=>.cons U (yW r)
theorem Inv.JX{σ:St}{s:ϋ}:∀{os:List (J×HO)}{H:Hp}{m:Nat},Inv X gd σ H {s with heap:=Gw h' m}->m<=h'.objs.size->(os.map (·.1)).Pairwise (· < ·)->(∀p∈os,m<=p.1/\p.1<h'.objs.size) ->
  (∀p∈os,∀(H2:Hp)(P:Do),P.get? p.1=h'.get? p.1->c9 X.prog X.w H2 P p.1 p.2)->Inv X gd σ (oh H os) {s with heap:=h'}
 |[],H,m,I,hm,_,_,_=>I.kept λb u e=>Oz hm e
 |p::r,H,m,I,hm,hp,Q,ho=>by
  have g:=YJ.mp hp;let(b1,b2):=Q p j2;have K:=b2;have V:=by
   refine I.laid (t':=s.toks) (λb u e=>?_) ?_ (ho p j2 _ _ (nC (Xf _)))
   ·have lt:=j5 e;rw[uo hm]at lt;have z:=ro lt (qR b1 (Nat.le_succ _));rw[nC z,<- nC lt];exact e
   ·rw[uo hm];exact b1
  exact Inv.JX (os:=r) V K g.2 (λq hq=>(g.1 q.1 (j0.mpr (q,hq,U)),(Q q (j1 _ hq)).2)) λq hq=>ho q (j1 _ hq)
def sg(K:BT)(tl:TA):TE:=λσ H R=>tl σ H λvs H1=>∃l1 l2 xs ys,vs=[.ref l1,.ref l2]/\SqT K H1 l1 xs/\SqT K H1 l2 ys/\∀(H2:Hp)(L:J)(ps:List J),H1 L=Y->ps.length=min xs.length ys.length->ps.Nodup->(∀p∈ps,H1 p=Y/\p≠L)->(∀c,c ∉ ps->c≠L->H2 c=H1 c)->H2 L=Z (.lst (ps.map V.ref))->(∀(j:Nat) p x y,ps[j]?=Z p->xs[j]?=Z x->ys[j]?=Z y->H2 p=Z (.tup [x,y]))->R (.ref L) H2
section
variable{a b:Ev}{tl:TA}{pos p bM p2:Pos}
def BQ(hg:Gl X "list")(hm:X.mg "list"=Y)(b0:Gl X "zip")(a5:X.mg "zip"=Y)(ha:PA X [a,b] tl)(hs:kg [a,b] X.env=[(ϊ,eval a X.env),(ϊ,eval b X.env)])(aP:AD X b)
  (ay:kg [.Call (.Name "zip" p2) [a,b] [] bM] X.env=(ϊ,eval (.Call (.Name "zip" p2) [a,b] [] bM) X.env)::kg [] X.env) (hc:X.calm=O):
  PE X (.Call (.Name "list" p) [.Call (.Name "zip" p2) [a,b] [] bM] [] pos) (sg X.K tl):=by
 intro gd s σ H R I h;refine Call_ (dE I hg hm bi (PyProof.Rows.callWith_type1 (T:="list") ?_ ay ap))
 rw[ay];refine Calls.spliced_cons ?_;refine Call_ (dE I b0 a5 bi (PyProof.Rows.callWith_type1 (T:="zip") (thn (ha bM gd s σ H _ I h) λus s1 (vs,H1,P,r1,q1)=>?_) (by rw[hs,aP]) (by rw[aP];rfl)))
 let(l1,l2,xs,ys,e,q2,q3,q):=q1;subst e;let(u1,u2,U,aR,aQ):=vals2 r1;cases aR;cases aQ;let(RV,ak,o1,z1):=P.Bp (tp:=O) q2;let(eT,Q,o2,z2):=P.Bp (tp:=O) q3;let(ct,e1):=o1.obj;let(cm,e2):=o2.obj;have g1:l1<s1.heap.objs.size:=j5 e1;have g2:l2<s1.heap.objs.size:=j5 e2;refine nG o1 o2 λh1 hz cg cf bN bp hk=>?_
 refine Calls.spliced_nil ?_;have nz:s1.heap.objs.size+4<h1.objs.size:=j5 hz;have a0:=ak.length;have aV:=Q.length;refine LL (t1:=O) (t2:=O) (xs:=RV.toArray) (ys:=eT.toArray) (n:=min xs.length ys.length) (P.ok.hd hc) (pN g1 g2) hz cf cg bN bp (o1.at λo e=>hk _ o e) (o2.at λo e=>hk _ o e) (by simp[a0,aV]) al λh' tk acc c as bj hS hl g gf=>?_
 have fr:∀b u,s1.heap.get? b=Z u->h'.get? b=Z u:=λb u e=>by
  have lt:b<s1.heap.objs.size:=j5 e;have ne:∀m:Nat,s1.heap.objs.size<=m->b≠m:=λm hm z=>absurd (z▸lt:m<s1.heap.objs.size) al
  exact bj b u (ne _ al) (ne _ al) (ne _ (ka _)) (ne _ al) (hk b u e)
 have I2:=P.kept (t':=tk) λb u e=>by rw[nC (j5 e)];exact fr b u e
 have lS:h1.objs.size<h'.objs.size:=j5 hS;have keys:(((Prod.mk h1.objs.size (HO.lst (as.map V.ref))) ::(as.zip (xs.zip ys)).map λp=>(Prod.mk p.1 (HO.tup [p.2.1,p.2.2]))).map (·.1))=h1.objs.size::as:=by
  rw[qS,rS]
  congr 1
  have:((λx:J×HO=>x.1) ∘ λp:J×V×V=>(p.1,HO.tup [p.2.1,p.2.2]))=Prod.fst:=rfl
  rw[this,Yg (by rw[P5];lia)]
 have pw:(h1.objs.size::as).Pairwise (· < ·):=YJ.mpr (λa ha=>g.above a ha,g.rise)
 have at':∀(j:Nat)(p:J×V×V),(as.zip (xs.zip ys))[j]?=Z p->as[j]?=Z p.1/\xs[j]?=Z p.2.1/\ys[j]?=Z p.2.2:=λj p hp=>by
  have h1:=GL.mp hp;have h2:=GL.mp h1.2;exact(h1.1,h2.1,h2.2)
 have I3:=Inv.JX (X:=X) (s:={s1 with toks:=tk}) (m:=s1.heap.objs.size) (h':=h') I2 al (by rw[keys];exact pw) (λp hp=>?_) (λp hp H2 hh e=>?_)
 ·have nd:(h1.objs.size::as).Nodup:=pw.imp λh=>ri h
  have av:=uj.mp nd;refine(.ref h1.objs.size,_,I3,U,q _ h1.objs.size as (P.hok.fresh al) hl av.2 (λp hp=>(P.hok.fresh ?_,λz=>av.1 (z▸hp))) (λc c1 c2=>?_) ?_ (λj p x y hp hx hy=>?_))
  ·have:=g.above p hp
   exact qR (show s1.heap.objs.size<=h1.objs.size+1 by lia) this
  ·exact n8 (by rw[keys];exact λz=>(kO.mp z).elim c2 c1)
  ·exact og (by rw[keys];exact nd) j2
  ·have hz:(as.zip (xs.zip ys))[j]?=Z (p,x,y):=GL.mpr (hp,GL.mpr (hx,hy));exact og (p:=(p,HO.tup [x,y])) (by rw[keys];exact nd) (j1 _ (j0.mpr (_,gV hz,U)))
 ·have:p.1∈h1.objs.size::as:=by rw[<- keys];exact j0.mpr (p,hp,U)
  obtain z|z:=kO.mp this
  ·rw[z];exact(al,lS)
  ·have ab:=g.above p.1 z;exact(qR (show s1.heap.objs.size<=h1.objs.size+1 by lia) ab,g.there z)
 ·obtain rfl|hp:=kO.mp hp
  ·refine(by rw[cO];lia,acc.toList,c,by rw[gf];exact yW as,?_)
   rw[e];exact hS
  ·let(t,ht,U):=j0.mp hp;let(j,hj):=List.getElem?_of_mem ht;let(a1,a2,a3):=at' j t hj;let(x,y,x1,y1,pr):=g.pairs j t.1 a1;let(u1,w1,r1):=ak.get a2;let(u2,w2,r2):=Q.get a3;rw[XE,w1]at x1;cases x1;rw[XE,w2]at y1;cases y1;have ar:hh.get? t.1=_:=e.trans pr;exact(by show 2<=kf;decide,[x,y],.cons r1 (.cons r2 .nil),((_,ar,U,_,U),_,ar,U))
end
section
variable{prog:Da}{w:Cl}{s:ϋ}
theorem Gn{i:Nat}{x old:B}{Q:Option B->ϋ->Prop}
  (he:IsEnum s.heap e it i old) (hit:aW s.heap tp it l i) (hl:a8 s.heap tp l items) (hx:items[i]?=Z x) (K:e≠it)
  (hQ:∀h',IsEnumOut h' e it ((i:Int)+1) x s.heap.objs.size->aW h' tp it l (i+1)->h'.get? s.heap.objs.size=Z {cls:=.type "tuple",data:=.seq #[.int i s.toks,x]}->h'.objs.size=s.heap.objs.size+1 ->
   (∀b o,b≠e->b≠it->s.heap.get? b=Z o->h'.get? b=Z o)->Q (Z (.ref s.heap.objs.size)) {s with heap:=h',toks:=s.toks+1}):wpAny (model prog w) A (pyNext (.ref e)) Q E s:=by
 have hT:s.TypeIs (.ref e) "enumerate":=(_,he,U);let(hp,g,d,tk,os):=s;refine dF (WX (wpAny_callSpecial?_slot hT F.slot_enumerate_next (yK F.slot_enumerate_next hT F.entry_enumerate_next ?_ (F.args_enumerate_next_1 _))));show wpAny _ _ (field (.ref e) 2 >>= _) _ _ _;refine dF (wpAny_field he U U ?_);refine dF (next_item hit hl hx λh1 Wi ar=>?_)
 have av:=(ar.2 e K).trans he;refine dF (wpAny_field av U U (dF (wpAny_field av U U (dF (wpAny_mkInt (dF (wpAny_setField_rec av ad λh2 b0 ak=>(dF (wpAny_setField_rec b0 ad λh3 bN V=>?_)))))))))
 show wpAny _ _ (newTuple [.int i tk,x] >>= _) _ _ (h3,g,d,tk+1,os);refine dF (wpAny_newTuple ?_);have P:IsEnum (h3.push {cls:=.type "tuple",data:=.seq #[.int i tk,x]}) e it ((i)+1) old:=fC _ bN;have hsz:h3.objs.size=hp.objs.size:=by rw[V.1,ak.1,ar.1]
 have a5:=j5 he;have aQ:(h3.push {cls:=.type "tuple",data:=.seq #[.int i tk,x]}).get? hp.objs.size=Z {cls:=.type "tuple",data:=.seq #[.int i tk,x]}:=by rw[<- hsz];exact ke _ U
 have aP:(h3.push {cls:=.type "tuple",data:=.seq #[.int i tk,x]}).objs.size=hp.objs.size+1:=by rw[wh,hsz]
 have a3:∀b o,b≠e->b≠it->hp.get? b=Z o->(h3.push {cls:=.type "tuple",data:=.seq #[.int i tk,x]}).get? b=Z o:=λb o q ay hb=>fC _ (V.extBut b o q (ak.extBut b o q (ar.extBut b o ay hb)))
 have UR:aW (h3.push {cls:=.type "tuple",data:=.seq #[.int i tk,x]}) tp it l (i+1):=Wi.at λo eo=>fC _ (V.extBut _ o K.symm (ak.extBut _ o K.symm eo))
 generalize h3.push {cls:=.type "tuple",data:=.seq #[.int i tk,x]}=h4 at P aQ aP a3 UR
 rw[hsz];refine dF (dF (wpAny_field P U U (kb (dF (VQ (dF (wpAny_field P U (x:=old) U (dF (wpAny_setField_rec P ad λh5 bM a0=>(dF (dF (wpAny_setField_rec bM ad λh6 bp aV=>(wpAny_setField_rec bp ad λh7 bj aR=>?_)))))))))))))
 have up:∀c o,c≠e->h4.get? c=Z o->h7.get? c=Z o:=λc o hc z=>aR.extBut _ _ hc (aV.extBut _ _ hc (a0.extBut _ _ hc z))
 refine dF (wpAny_letGo (kb (_,U,kb (hQ h7 bj (UR.at λo eo=>up _ o K.symm eo) (up _ _ (C3 a5) aQ) ?_ λb o q ay hb=>up b o q (a3 b o q ay hb)))))
 rw[aR.1,aV.1,a0.1,aP]
theorem KC{i:Nat}{old:B}{Q:Option B->ϋ->Prop}(z:A.handled=Y)
  (he:IsEnum s.heap e it i old) (hit:aW s.heap tp it l i) (hl:a8 s.heap tp l items) (hx:items[i]?=Y) (P:∀h',Yr it s.heap h'->Q Y {s with heap:=h'}):wpAny (model prog w) A (pyNext (.ref e)) Q E s:=by
 have hT:s.TypeIs (.ref e) "enumerate":=(_,he,U);refine dF (WX (wpAny_callSpecial?_slot hT F.slot_enumerate_next (yK F.slot_enumerate_next hT F.entry_enumerate_next ?_ (F.args_enumerate_next_1 _))));show wpAny _ _ (field (.ref e) 2 >>= _) _ _ _;refine dF (wpAny_field he U U (dF (next_end z hit hl hx λh' x q g=>?_)))
 let(o,ho,K):=g;exact dF (WT (o,ho,K) isSubtype_stop (kb (P _ q)))
abbrev eH1(tp:Bool)(h:Do)(l:J):Do:=h.push {cls:=.type (itc tp),data:=.fields #[.ref l,.int 0 0]}
abbrev eH2(tp:Bool)(h:Do)(l:J):Do:=(eH1 tp h l).push {cls:=.type "enumerate",data:=.fields #[.none,.bool ϊ,.ref h.objs.size,rawInt 0,.none,.none]}
def tG(tp:Bool)(l:J)(xs:Array B):
  Meets (Builtin.«enumerate.__new__» ([.type "enumerate",.ref l],[])) (λ_ R s=>a8 s.heap tp l xs/\R (.ok (.ret (.ref (eH1 tp s.heap l).objs.size))) {s with heap:=eH2 tp s.heap l}):=
 .of_wp λprog w A R s h=>by
  let(hl,h):=h;have q:=sub_enumerate;have g:=hl
  wp_walk
  refine wpAny_stack_any λst=>kb ?_
  split
  ·rename_i c _ _ _ _ _
   cases(c==B.type "enumerate")
   ·wp_walk using jQ g
    exact(_,U,h)
   ·wp_walk using jQ g
    exact(_,U,h)
  ·wp_walk using jQ g
   exact(_,U,h)
theorem vz(hl:a8 s.heap tp l xs)
  (h:∀h',IsEnum h' (s.heap.objs.size+1) s.heap.objs.size 0 .none->aW h' tp s.heap.objs.size l 0->(∀b o,s.heap.get? b=Z o->h'.get? b=Z o)->Q (.ref (s.heap.objs.size+1)) {s with heap:=h'}):
  wpAny (model prog w) A (call (.type "enumerate") [.ref l]) Q E s:=by
 refine callType_new F.called_enumerate ac (F.typeCall_enumerate_1 _) (F.newCall_enumerate_1 _) (λobj=>F.args_object_init_2 obj _) F.entry_enumerate_new (tG tp l xs) (hl,?_)
 have g:(eH1 tp s.heap l).objs.size=s.heap.objs.size+1:=wh ..;have g2:(eH2 tp s.heap l).get? (eH1 tp s.heap l).objs.size=Z _:=ke _ U;have g1:(eH2 tp s.heap l).get? s.heap.objs.size=Z _:=fC _ (ke _ U);rw[g]at g2 ⊢;exact((_,g2,U),h _ g2 (jt g1) λc o x=>fC _ (fC _ x))
end
def Ite(K:BT)(tp:Bool)(l:J):It:=
 (λi H=>∃xs x,SqB K tp H l xs/\xs[i]?=Z x,
   λi H v H'=>∃(p:J)(x:V),H p=Y/\v=.ref p/\H'=upd H p (.tup [.int i,x])/\∀xs,SqB K tp H l xs->xs[i]?=Z x,
   λi H=>∃xs,SqB K tp H l xs/\xs.length<=i)
variable{P:Da}{elts:List Ev}
theorem E5{K:BT}(e it l:J)(Q:e≠it):
  Turn P w K (.Tuple elts x1 pos) (Ite K tp l) [e,it] e (λi h=>(∃old,IsEnum h e it i old)/\aW h tp it l i) where
 mem:=by simp
 obj:=by
  rintro i h ⟨⟨old,h1⟩,h2⟩ c q
  simp only[kO,x2,or_false]at q;obtain rfl|rfl:=q
  ·exact(_,h1,λv e=>by cases e)
  ·exact h2.obj
 keep:=by
  rintro i h h' ⟨⟨old,h1⟩,h2⟩ k
  exact((old,k e ad _ h1),h2.at λo z=>k it ad o z)
 item:=by
  intro X hP hw hK q i gd s σ H E I hf st hg;subst hP hw hK;let((old,h1),h2):=st;let(xs,x,q1,e1):=hg;let(its,rv,o1,z1):=I.Bp q1;let(u1,av,ar):=rv.get e1;refine Gn h1 h2 o1 (x:=u1) (av:) Q λh' ay aQ aR V8 aP=>(_,U,(wpAny_letOwnedTupleGo_enum ay λak Oi R3=>?_))
  have hn:=I.hok.fresh (ka s.heap.objs.size);have le:=j5 h1;let(oi,aV,_):=h2.obj;have li:=j5 aV;have V0:∀b ∈ [e,it],b≠s.heap.objs.size:=λb g=>by
   simp only[kO,x2,or_false]at g;obtain rfl|rfl:=g
   ·exact ri le
   ·exact ri li
  have up:∀c o,c≠e->h'.get? c=Z o->ak.get? c=Z o:=λc o q z=>R3.extBut _ _ q z
  have I1:Inv X gd σ (upd H s.heap.objs.size (.tup [.int i,x])) {s with heap:=s.heap.push {cls:=.type "tuple",data:=.seq #[.int i s.toks,u1]},toks:=s.toks+1}:=
   I.laid (λb u z=>fC _ z) (ka _) (by show 2<=kf;decide,[.int i s.toks,u1],.cons (_,U) (.cons ar .nil),((_,ke _ U,U,_,U),_,ke _ U,U))
  have V:∀b ∈ [e,it],uG X gd (upd H s.heap.objs.size (.tup [.int i,x])) b:=λb g=>by
   let(f0,r):=hf b g;exact(by rw[au (V0 b g)];exact f0,r)
  have I2:=by
   refine I1.qU (h':=ak) (t':=s.toks+1) (λb o g z=>?_) V
   simp only[kO,x2,or_false,not_or]at g;let(b1,b2):=g;obtain⟨rfl,rfl⟩|z':=Yt z
   ·exact up _ _ b1 aR
   ·exact up _ _ b1 (aP b o b1 b2 z')
  exact(.ref s.heap.objs.size,upd H s.heap.objs.size (.tup [.int i,x]),I2,U,(_,x,hn,U,U,λzs hz=>by rw[I.HI hz q1];exact e1),(((_,(Oi:)),aQ.at λo z=>up _ _ Q.symm z)),λb g=>(V b g).1)
 done:=by
  intro X hP hw hK q i gd s σ H E I hf st hg;subst hP hw hK;let((old,h1),h2):=st;let(xs,q1,yg):=hg;let(its,rv,o1,z1):=I.Bp q1;have g1:=rv.length;refine KC (I.ok.hd q) h1 h2 o1 (by simp;lia) λh' k=>(U,I.qU (λb o g z=>?_) hf)
  simp only[kO,x2,or_false,not_or]at g;exact k b o g.2 z
 self:=λ_ _ _ _ _ st h=>let((_,z),_):=st;wpAny_pyIter_enum z h
def tY(K:BT)(tp:Bool)(ta:TA):TI:=λσ H R=>ta σ H λvs H1=>∃l,vs=[.ref l]/\(∃xs,SqB K tp H1 l xs)/\R (Ite K tp l) H1
variable{pos':Pos}
def Nh{a:Ev}(hg:Gl X "enumerate")(hm:X.mg "enumerate"=Y)(jU:bootBuiltins "enumerate"=Z (.type "enumerate"))(ha:PA X [a] ta)(hs:‹AD X a›):
  PI X (.Tuple elts x1 pos') (.Call (.Name "enumerate" p) [a] [] pos) (tY X.K tp ta):=by
 intro gd s σ H R I h;refine Call_ (dE I hg hm jU (PyProof.Rows.callWith_type1 (thn (ha pos gd s σ H _ I h) λus s1 (vs,H1,P,r1,q1)=>?_) hs U))
 let(l,e,(xs,q2),q):=q1;subst e;let(u1,U,Q):=vals1 r1;cases Q;let(its,rv,o1,z1):=P.Bp q2;refine vz o1 λh' he hi hk=>wpAny_pyIter_enum he ?_
 refine(_,[s1.heap.objs.size+1,s1.heap.objs.size],_,_,H1,U,P.kept hk,E5 _ _ l (λz=>absurd (z) al),((_,he),hi),λc V=>?_,q)
 have g:s1.heap.objs.size<=c:=by
  simp only[kO,x2,or_false]at V;obtain rfl|rfl:=V <;> first|exact Nat.le_add_right _ _|exact ka _
 exact P.Gm g (P.hok.fresh g)
end L2
namespace PySem
open Sem (wp)
def HQ:mroOf (.type "reversed")=pure [.type "reversed",.type "object"]:=bi
def Qk:typeLookup (.type "reversed") "__new__"=pure (Z (.builtin "reversed.__new__")):=bi
def xq:Slot "reversed" "__init__" "object.__init__":=
 .of (owner:="object") (n:="__init__") bi be be be (.inl be) bi
def HM:isSubtype (.type "reversed") (.type "reversed")=pure true:=bi
def Fm:TypeCalled "reversed" "reversed.__new__" "object.__init__":=
 (be,be,(_,_,HQ),madeBy_type HQ Qk be,be,bi,xq)
def y9(a:B):checkTypeCall "reversed" ([a],[])=pure ():=bi
def Bz(a:B):checkBuiltinCall "reversed.__new__" ([.type "reversed",a],[])=pure ():=bi
def xr:entryFor table "reversed.__new__"=Z Builtin.«reversed.__new__»:=entryFor_of_tree bi
def HN:Manifest.owners.lookup (String.ofList ['d','e','s','r','e','v','e','r'].reverse)=Z Manifest.sig_reversed:=bi
def dW:Slot "reversed" "__next__" "reversed.__next__":=
 .of (owner:="reversed") (n:="__next__") bi be be be (.inl be) bi
def kP:entryFor table "reversed.__next__"=Z Builtin.«reversed.__next__»:=entryFor_of_tree bi
def mv(a:B):argsOk "reversed.__next__" ([a],[]):=by
 kernel_rfl
def mq:Slot "reversed" "__iter__" "reversed.__iter__":=
 .of (owner:="reversed") (n:="__iter__") bi be be be (.inl be) bi
def xt(a:B):argsOk "reversed.__iter__" ([a],[]):=by
 unfold argsOk;rw[signature?_of (n:=['_','_','r','e','t','i','_','_']) bi HN]
 kernel_rfl
def uY:entryFor table "reversed.__iter__"=Z Builtin.«dict_keyiterator.__iter__»:=
 entryFor_alias (id':="dict_keyiterator.__iter__") bi ap be bi
def iF:Slot "reversed" "__length_hint__" "reversed.__length_hint__":=
 .of (owner:="reversed") (n:="__length_hint__") bi be be be (.inr be) bi
def uZ:entryFor table "reversed.__length_hint__"=Z Builtin.«reversed.__length_hint__»:=entryFor_of_tree bi
def xu(a:B):argsOk "reversed.__length_hint__" ([a],[]):=by
 kernel_rfl
def Fl:typeLookup (.type "reversed") "__len__"=pure none:=bi
def Be:typeLookup (.type "tuple") "__reversed__"=pure none:=bi
def wO:isSubtype (.type "tuple") (.type "dict")=pure false:=bi
section
variable{prog:Da}{w:Cl}{A:Db}{E:B->ϋ->Prop}{s:ϋ}
def Pd(l:J)(i:Int):Obj:={cls:=.type "reversed",data:=.fields #[.ref l,rawInt i]}
abbrev GK(h:Do)(a l:J)(i:Int):Prop:=h.get? a=Z {cls:=.type "reversed",dict:=Y,data:=.fields #[.ref l,rawInt i],slots:=#[]}
theorem HR(l:J)(items:Array B)(z:(items.size:Int)<2 ^ 63):
  Meets (Builtin.«reversed.__new__» ([.type "reversed",.ref l],[])) (λ_ R s=>s.heap.IsTuple l items /\
   R (.ok (.ret (.ref s.heap.objs.size))) {s with heap:=s.heap.push (Pd l ((items.size:Int)-1)),toks:=s.toks+1+1}):=
 .of_wp λprog w A R s h=>by
  let(hp,g,d,tk,os):=s;let(hl,h):=h;have hT:((hp,g,d,tk,os):ϋ).TypeIs (.ref l) "tuple":=by let(o,ho,q,_):=id hl;exact(o,ho,q)
  refine dF (Xq (a:=(B.type "reversed",[B.ref l])) ?_ ?_)
  ·unfold Builtin.SmallTypes.newClass;simp only[isType,HM,pure_bind,Bool.not_true,X0,if_false]
  refine dF (Xq (a:=()) (by first|rfl|kernel_rfl) (dF (Xq (a:=()) (by first|rfl|kernel_rfl) (dF (OZ hT Be (dF (dF (WT hT wO (dF (OZ hT F.slot_tuple_getitem.lookup ?_))))))))))
  refine kb (dF (PyProof.Rows.len_tuple hl al (dF (Xq U (dF ?_)))))
  unfold Builtin.SmallTypes.newRecord;exact W0 (kb (_,U,h))
theorem Mz{items:Array B}{Q:B->ϋ->Prop}(g:(items.size:Int)<2 ^ 63)(hl:s.heap.IsTuple l items)
  (h:Q (.ref s.heap.objs.size) {s with heap:=s.heap.push (Pd l ((items.size:Int)-1)),toks:=s.toks+1+1}):wpAny (model prog w) A (call (.type "reversed") [.ref l]) Q E s:=
 callType_new Fm ac (y9 _) (Bz _) (λobj=>F.args_object_init_2 obj _) xr (HR l items g) (hl,(_,ke _ U,U),h)
theorem Mx{i:Nat}{items:Array B}{x:B}{Q:Option B->ϋ->Prop}(vt:(items.size:Int)<2 ^ 63)(hr:GK s.heap a l (i:Int))(hl:s.heap.IsTuple l items)(hx:items[i]?=Z x)
  (V:∀h',GK h' a l ((i:Int)-1)->Xi a s.heap h'->Q (Z x) {s with heap:=h',toks:=s.toks+1}):wpAny (model prog w) A (pyNext (.ref a)) Q E s:=by
 have hT:s.TypeIs (.ref a) "reversed":=(_,hr,U);have z:s.TypeIs (.ref l) "tuple":=by let(o,ho,P,_):=id hl;exact(o,ho,P)
 have K:=(Array.getElem?_eq_some_iff.mp hx).1;refine dF (WX (wpAny_callSpecial?_slot hT dW (yK dW hT kP ?_ (mv _))));show wpAny _ _ (field (.ref a) 0 >>= _) _ _ _;refine dF (wpAny_field hr U U (dF (wpAny_field hr U U ?_)));refine dF (OZ z F.slot_tuple_getitem.lookup ?_);refine dF (wpAny_mkInt (dF (WX (PyProof.Rows.getItem_tuple hl al al ?_ hx ?_))))
 ·unfold seqIndex?;simp
  lia
 exact dF (wpAny_field hr U U (dF (wpAny_setField_rec hr ad λh' q g=>(kb (_,U,kb (V h' q g))))))
def Ql{Q:Option B->ϋ->Prop}(V:A.handled=Y)(hr:GK s.heap a l (-1))(hQ:∀h',Yr a s.heap h'->Q Y {s with heap:=h'}):wpAny (model prog w) A (pyNext (.ref a)) Q E s:=by
 have hT:s.TypeIs (.ref a) "reversed":=(_,hr,U);refine dF (WX (wpAny_callSpecial?_slot hT dW (yK dW hT kP ?_ (mv _))));show wpAny _ _ (field (.ref a) 0 >>= _) _ _ _;refine dF (wpAny_field hr U (x:=.ref l) U (dF (wpAny_field hr U U ?_)));refine dF (VQ (dF (dF (wpAny_setField_rec hr ad λh1 z q=>(wpAny_setField_rec z ad λh2 P g=>(dF (dF (dF (m:=firstArgMember _ _) (Xq ap (W0 (dF (wpAny_handled ?_)) (by size_fits)))))))))))
 rw[V];refine dF (kb (wpAny_throw ?_));exact dF (WT (_,ke _ U,U) isSubtype_stop (kb (hQ _ (λb o K e=>fC _ (fC _ (g.extBut b o K (q.extBut b o K e)))))))
def Mw{Q:B->ϋ->Prop}(hr:GK s.heap a l i)(h:Q (.ref a) s):wpAny (model prog w) A (pyIter (.ref a)) Q E s:=by
 have hT:s.TypeIs (.ref a) "reversed":=(_,hr,U);exact wpAny_pyIter_slot hT mq (yK mq hT uY (kb (_,U,"reversed",_,hT,dW.lookup,h)) (xt _))
end
section
variable{prog:Da}{w:Cl}{A:Db}{E:B->ϋ->Prop}{s:ϋ}
def My{items:Array B}{i:Nat}{Q:Bool->ϋ->Prop}(V:items.size<=kf)(P:(items.size:Int)<2 ^ 63)(hi:i<=items.size)(hr:GK s.heap I l ((i:Int)-1))(hl:s.heap.IsTuple l items)(z:∀b tk,s.toks<=tk->Q b {s with toks:=tk}):
  wpAny (model prog w) A (Builtin.List.listLengthHint (.ref I)) Q E s:=by
 have hT:s.TypeIs (.ref I) "reversed":=(_,hr,U);refine dF (OZ hT Fl ?_);refine dF (OZ hT iF.lookup ?_)
 generalize g:("reversed.__length_hint__")=q
 subst g;refine dF (WT hT HM ?_);refine dF (VQ (dF (Xq (iF.bind _) (dF (WX (yK iF hT uZ ?_ (xu _)))))));show wpAny _ _ (field (.ref I) 0 >>= _) _ _ _;refine dF (wpAny_field hr U U ?_);refine dF (PyProof.Rows.len_tuple hl al ?_)
 show wpAny _ _ (field (.ref I) 1 >>= _) _ _ _;refine dF (wpAny_field hr U U ?_);show wpAny _ _ (if(items.size:Int)<(i:Int)-1+1 then _ else _) _ _ _
 rw[if_neg al]
 refine dF (wpAny_mkInt (kb (_,U,?_)));refine dF (Xq U ?_);have f1:Builtin.List.listFitsIndex ((i:Int)-1+1)=true:=by unfold Builtin.List.listFitsIndex;simp;lia
 have f2:¬((i:Int)-1+1)<0:=al
 have K:Builtin.List.listTooLong ((i:Int)-1+1).toNat=false:=by unfold Builtin.List.listTooLong;simp;lia
 dsimp only;rw[if_neg (by rw[f1];decide),if_neg f2,if_neg (by rw[K];decide)]
 exact kb (z _ _ al)
def Walks.rv(hh:A.handled=Y)(I l:J)(K:l≠I)(items:Array B)(vt:(items.size:Int)<2 ^ 63):
  Walks prog w A I [I,l] [I] items.size (λi v=>items[items.size-1-i]?=Z v) (λi h=>i<=items.size/\GK h I l (((items.size-i:Nat):Int)-1)/\h.IsTuple l items) where
 sub:=λb g=>by simp at g;simp[g]
 frame:=λ_ _ _ x hk=>(x.1,hk I ad _ x.2.1,let(o,ho,r):=x.2.2;(o,hk l ad o ho,r))
 item:=λi s Q E hi x z=>by
  have e:((items.size-i:Nat):Int)-1=((items.size-1-i:Nat)):=al
  have hit:=x.2.1;rw[e]at hit;have hx:items[items.size-1-i]?=Z (items[items.size-1-i]' al):=WL al
  refine Mx vt hit x.2.2 hx λh' US q=>?_
  have e2:((items.size-1-i:Nat):Int)-1=((items.size-(i+1):Nat))-1:=al
  rw[e2]at US;exact z _ h' _ hx (hi,US,let(o,ho,r):=x.2.2;(o,q.extBut _ _ K ho,r)) λb o g V=>q.extBut b o (λh=>g (by simp[h])) V
 done:=λs Q E x z=>by
  have hit:=x.2.1;rw[XW]at hit;exact Ql hh hit λh' P=>z h' s.toks λb o g V=>P b o (λh=>g (by simp[h])) V
 self:=λ_ _ _ _ x z=>Mw x.2.1 z
end
end PySem
namespace L2
open PySem PySem.Spec PyProof.Rows
def oy(K:BT)(te:TE):TE:=λσ H Q=>te σ H λx H1=>∃l ys,x=.ref l/\SqT K H1 l ys/\∀q,H1 q=Y->Q (.ref q) (upd H1 q (.lst ys.reverse))
variable{X:Cx}{e:Ev}{te:TE}
def zz{p1 p2 bM pos:Pos}(hc:X.calm=O)(aP:Gl X "list")(av:X.mg "list"=Y)(ay:Gl X "reversed")(ar:X.mg "reversed"=Y)(he:PE X e te)
  (g:‹AD X e›) (ak:‹kg [.Call (.Name "reversed" p2) [e] [] bM] X.env=[(ϊ,eval (.Call (.Name "reversed" p2) [e] [] bM) X.env)]›):
  PE X (.Call (.Name "list" p1) [.Call (.Name "reversed" p2) [e] [] bM] [] pos) (oy X.K te):=by
 left;refine GN (dE I aP av boot_list (PyProof.Rows.callWith_type1 (Calls.spliced_cons (GN (dE I ay ar boot_reversed (PyProof.Rows.callWith_type1 ?_ g U)))) ak U));rw[g];refine Calls.spliced_cons (thn (he gd s σ H _ I h) λu s1 aQ=>?_)
 let(x,H1,I1,r1,l,ys,ex,hl,q):=aQ;subst ex;cases r1;refine Calls.spliced_nil ?_;let(its,rv,V,hz):=I1.tuple hl;have hlen:=rv.length;have aR:=iQ;have P:(its.toArray.size:Int)<2 ^ 63:=by rw[nP];lia
 have z:l<s1.heap.objs.size:=by let(_,e,_):=id V;exact j5 e
 refine Mz P V (Calls.spliced_nil ?_);have W:=Walks.rv (prog:=X.prog) (w:=X.w) (A:=X.A.in1.in1) (I.ok.hd hc) s1.heap.objs.size l (ri z) its.toArray P;exact v8 I1 z W (λi s' st=>(_,st.2.1,U)) ac ac (λs' Q' E' st hq=>My (by rw[nP];lia) P (ka _) (st.2.1:) st.2.2 hq)
  (v5 _,ke _ U,let(o,ho,r):=V;(o,fC _ ho,r)) (λacc h=>yV (rv:) h) (by rw[Xe];exact hz) (by rw[nP];lia) q
def Paired.at_{r:α->β->Prop}{xs:List α}(h:Paired r xs ys):∀{i:Nat}{y:β},ys[i]?=Z y->∃x,xs[i]?=Z x/\r x y:=by
 induction h with
 |nil=>intro i y h;simp at h
 |cons h1 _ q =>
  intro i y g;cases i with
  |zero=>simp at g;subst g;exact(_,U,h1)
  |succ i=>simpa using q (g:)
variable{kvs:List (Key×V)}
section
variable{gd:List (J×Obj)}{σ:St}{H:Hp}{s:ϋ}{a:J}{u u':HO}
def Inv.zc(I:Inv X gd σ H s)(ha:H a=Z u)(h1:∀xs,u ≠ .tup xs)(h2:∀c,u ≠ .own c)(h3:∀ps,u ≠ .tbl ps)(K:∀o v,X.ba a≠Z (.frz o v))(new:c9 X.prog X.w (upd H a u') s.heap a u'):Inv X gd σ (upd H a u') s:=by
 have ne:∀{b:J},H b=Y->b≠a:=λ{b} e z=>by rw[z,ha]at e;cases e
 refine(I.ok,I.os,I.bare,(I.base.keep,I.base.slot,λb o e n hx=>?_,I.base.there,λb xs e=>?_,λb o v e=>?_,λb ps e=>?_),I.loc,I.cell,?_,λx c e=>?_,λp hp=>?_,λb o e=>?_,I.len)
 ·have:=I.base.free b o e n hx
  rw[au (ne this)];exact this
 ·have:=I.base.sd b xs e
  rw[au λz=>by rw[z,ha]at this;exact h1 xs (Option.some.inj this)]
  exact this
 ·have:=I.base.kJ b o v e
  rw[au λz=>by rw[z]at e;exact K o v e]
  exact this
 ·let(more,this):=I.base.sf b ps e;refine(more,?_);rw[au λz=>by rw[z,ha]at this;exact h3 _ (Option.some.inj this)]
  exact this
 ·rw[au (ne I.free)];exact I.free
 ·rw[au (ne (I.gg x c e))];exact I.gg x c e
 ·let(p1,p2,p3):=I.pin p hp;exact(p1,by rw[au (ne p2)];exact p2,p3)
 ·by_cases g:b=a
  ·subst g;rw[az]at e;cases e;exact new
  ·rw[au g]at e;refine(I.hok b o e).dA (λ_ _ _ q=>q) (λc q=>?_) λc xs q=>?_
   ·rw[au λz=>by rw[z,ha]at q;exact h2 _ (Option.some.inj q)];exact q
   ·rw[au λz=>by rw[z,ha]at q;exact h1 _ (Option.some.inj q)];exact q
def Inv.freeze(I:Inv X gd σ H s)(ha:H a=Z (.dK kvs)):(∀o v,X.ba a≠Z (.frz o v))/\∃o,Inv X gd σ (upd H a (.frz o (.dK kvs))) s:=by
 have g:∀o v,X.ba a≠Z (.frz o v):=λo v e=>by
  have:=I.base.kJ a o v e
  rw[ha]at this;cases this
 let(z,hs,vs,r,o,es,ep,e,c):=(I.hok a _ ha);exact(g,o,I.zc ha nofun nofun nofun g (e,z,hs,vs,r,o,es,ep,e,c))
end
def Itd(a:J)(o:Obj)(kvs:List (Key×V)):It:=
 (λi H=>H a=Z (.frz o (.dK kvs))/\i<kvs.length,λi H v H'=>H'=H/\∃kv,kvs[i]?=Z kv/\v=kV kv.1,λi H=>H a=Z (.frz o (.dK kvs))/\kvs.length<=i)
variable{P:Da}
def Cb(h:(a6 P w).is k v=O):RelV (kV k) v:=by
 obtain⟨i,t,rfl,rfl⟩|⟨x,t,rfl,rfl⟩:=b7 h
 ·exact(t,U)
 ·exact(t,U)
variable{gd:List (J×Obj)}{H:Hp}{d:J}{ep:Nat}
def lO{σ:St}(I:Inv X gd σ H s)(hd:H d=Z (.frz o (.dK kvs)))(ho:o.data=.dict es ep):
  (d==sysModules)=ϊ/\∃vs,KV kvs vs/\s.heap.DictAt (a6 X.prog X.w) d vs ep:=by
 let(e,z,hs,vs,r,o',K,P,q,c,g,rest):=(I.hok d _ hd);rw[e]at q;cases q;rw[ho]at g;cases g;exact(hs,vs,r,o,es,e,c,ho,rest)
variable{tg:Ev}
theorem Bd{K:BT}(d it:J)(o:Obj)(kvs:List (Key×V))(es:Array Y2)(ep:Nat)(ho:o.data=.dict es ep):Turn P w K tg (Itd d o kvs) [it] it (λi h=>h.IsKeyIter it d i kvs.length ep) where
 mem:=by simp
 obj:=λi h st b q=>by
  have e:b=it:=(q:)
  subst e;let(o,e,c,d):=st;exact(o,e,λv z=>by rw[d]at z;cases z)
 keep:=λi h h' st k=>let(o,e,r):=st;(o,k it ad o e,r)
 item:=by
  intro X Q hw hK hc i gd s σ H E I hf st hg;subst Q hw hK;let(hd,ak):=hg;let(_,vs,r,at_):=lO I hd ho;have l1:=Paired.length r;have hv:vs[i]?=Z (vs[i]' al):=dN al
  let(kv,ek,e1,_):=Paired.at_ r hv;let(f0,f1,f2,f3,f4,f5):=hf it ad
  rw[l1]at st;refine wpAny_pyNext_dict_item st at_ hv λkey h' t6 g sb=>?_
  have I1:=I.turned (t':=s.toks) (λb o q e=>(sb.2 b q).trans e) f0 f1 f3 f4 f5
  let(oi,e,c,dd):=id g;rw[<- l1]at g;exact(key,U,D3 e c dd ac (kV kv.1,H,I1,Cb (by rw[e1];exact t6),(U,kv,ek,U),g,λb q=>(hf b q).1))
 done:=by
  intro X Q hw hK hc i gd s σ H E I hf st hg;subst Q hw hK;let(hd,hle):=hg;let(_,vs,r,at_):=lO I hd ho;have l1:=Paired.length r;let(f0,f1,f2,f3,f4,f5):=hf it ad
  rw[l1]at st;exact wpAny_pyNext_dict_end (I.ok.hd hc) st at_ (Ln al) λh' eb=>(U,I.turned (λb o q e=>eb b o q e) f0 f1 f3 f4 f5)
 self:=λ_ _ _ _ _ st h=>wpAny_pyIter_keyiter st h
def Kk(te:TE):TI:=λσ H R=>te σ H λx H1=>∃d o kvs,x=.ref d/\H1 d=Z (.frz o (.dK kvs))/\R (Itd d o kvs) H1
def Jl(he:PE X e te):PI X tg e (Kk te):=by
 intro gd s σ H R I h;refine thn (he gd s σ H _ I h) λu s1 K=>?_
 let(x,H1,g,r1,d,o,kvs,ex,hd,q):=K;subst ex;cases r1;let(eo,z,ak,V,r0,o',es,ep,Q,c,P,rest):=(g.hok d _ hd);rw[eo]at Q;cases Q;let(hs,vs,r,at_):=lO g hd P;have l1:=Paired.length r;refine wpAny_pyIter_dict hs at_ ?_;refine(_,[s1.heap.objs.size],_,_,H1,U,g.kept (λb o e=>fC _ e),Bd d _ o kvs es ep P,(_,ke _ U,U,by rw[l1];rfl),λc hc=>?_,q)
 rw[d2.mp hc];exact g.Gm (ka _) (g.hok.fresh (ka _))
end L2
namespace PySem
open Sem (wp)
open Builtin Builtin.ObjectAttr
section
variable{nm q:Str}{C N x:J}{bs bm bmB:List B}{sn:List Str}{sub:List B}{ab R9:Bool}{col:Option Bool}{dd:Option J}{k0 k1 k2 k3 k5:Option B}{Za newId sa owner:String}
 {mN mA:Str->Option B} {name:Str} {v:B} {S:List Str}
end
section
variable{nm q:Str}{C N x:J}{bs bm bmB:List B}{sn:List Str}{sub:List B}{ab R9:Bool}{col:Option Bool}{dd:Option J}{k0 k1 k2 k3 k5:Option B}{Za newId:String}
 {mN mA:Str->Option B} {name:Str} {v:B} {S:List Str} {o:Obj}
end
end PySem
namespace PySem
open Sem (wp)
def SV(h:Do)(e:J)(cls:B)(dx:Option J)(y:B):Prop:=
 ∃o vs g,h.get? e=Z o/\o.cls=cls/\o.dict=dx/\o.data=.fields vs/\vs[0]?=Z g/\vs[1]?=Z y
end PySem
namespace L2
open PySem PySem.Spec PyProof.Rows
def any_some{o:Option α}{f:α->Bool}(h:o.any f=O):∃a,o=Z a/\f a=true:=by
 cases o with
 |none=>cases h
 |some a=>exact(a,U,h)
def XAt(a C:J)(dx:Option J)(b:Bool)(h:Do):Prop:=∃y,SV h a (.ref C) dx y/\(b=O->y=.none)
def XD(dx:J)(fs:List (Str×V))(h:Do):Prop:=∃mA,h.Ns1 dx mA/\(∀f,j8 (fs.lookup f) (mA f))/\PySem.Within mA (fs.map (·.1))
def ExH(H:Hp)(a C:J)(b:Bool)(fs:List (Str×V)):Prop:=(fs=[]/\H a=Z (.ext (XAt a C Y b)))\/∃dx,dx≠a/\H a=Z (.ext (XAt a C (Z dx) b))/\H dx=Z (.ext (XD dx fs))
section
variable{P:Da}{w:Cl}{H:Hp}{h:Do}{d:J}{fs:List (Str×V)}
def XD.ok(x:XD d fs h):c9 P w H h d (.ext (XD d fs)):=by
 refine(x,?_,λh1 h2 (mA,(o,es,ep,e,r),z) k=>(mA,(o,es,ep,k o e,r),z))
 let(mA,(o,es,ep,e,r),z):=x;exact(o,e)
end
def len0{P:List B->Prop}(h:P [])(us:List B)(e:us.length=0):P us:=by rw[uC.mp e];exact h
def UB{P:List B->Prop}(h:∀a,P [a])(us:List B)(e:us.length=1):P us:=by
 cases us with
 |nil=>cases e
 |cons a r=>exact len0 (P:=λr=>P (a::r)) (h a) r (Nat.succ.inj e)
def UA{P:List B->Prop}(h:∀a b,P [a,b])(us:List B)(e:us.length=2):P us:=by
 cases us with
 |nil=>cases e
 |cons a r=>exact UB (P:=λr=>P (a::r)) (h a) r (Nat.succ.inj e)
def Uz{P:List B->Prop}(h:∀a b c,P [a,b,c])(us:List B)(e:us.length=3):P us:=by
 cases us with
 |nil=>cases e
 |cons a r=>exact UA (P:=λr=>P (a::r)) (h a) r (Nat.succ.inj e)
def Uy{P:List B->Prop}(h:∀a b c d,P [a,b,c,d])(us:List B)(e:us.length=4):P us:=by
 cases us with
 |nil=>cases e
 |cons a r=>exact Uz (P:=λr=>P (a::r)) (h a) r (Nat.succ.inj e)
def Ux{P:List B->Prop}(h:∀a b c d e,P [a,b,c,d,e])(us:List B)(e:us.length=5):P us:=by
 cases us with
 |nil=>cases e
 |cons a r=>exact Uy (P:=λr=>P (a::r)) (h a) r (Nat.succ.inj e)
set_option genInjectivity true in
inductive T where
 |n|b (x:Bool)|i (x:Int)|s (x:Str)|t (xs:List T)|l (xs:List T)|d (ks:List (Key×T))|cB|z (ns:List Int)|ty (x:String)|k (ws:List Str)|q|fd (o:Obj) (vs:List (Key×V)) (ks:List (Key×T))|xc (C:J) (ns:List Str) (ts:List T)|rm (u:Int)|ob (C:J) (ns:List Str) (ts:List T)|dp (a:J) (ks:List (Key×T))|lp (a:J) (xs:List T)|zl (xs:List T)|rf (a:J)|om (a C:J) (ns:List Str) (ts:List T)|fz (u:HO)
abbrev Dl:=List (J×J)
def FzL(K:BT)(H:Hp)(a:J)(xs:List V):Prop:=(∃o,H a=Z (.frz o (.lst xs))) \/
  ∃(o:Obj)(its:Array B)(n:Nat),K.lookup a=Z o/\o.cls=.type "list" /\ o.dict=Y/\o.data=.seq its n/\its.size<=kf/\Vals xs its.toList
variable{H:Hp}{a:J}
theorem FzL.sq{K:BT}(h:FzL K H a xs):SqL K H a xs:=by
 obtain h|h:=h
 ·exact .inl (.inr h)
 ·exact .inr h
def yJ(a C dx:J)(h:Do):Prop:=h.get? a=Z (W.instObj C dx)
inductive ObH(H:Hp)(a C:J)(fs:List (Str×V)):Prop
 |mk(dx:_)(h1:dx≠a)(h2:H a=Z (.ext (yJ a C dx)))(h3:H dx=Z (.ext (XD dx fs)))
mutual
inductive aK(K:BT)(dl:Dl)(H:Hp):V->T->List J->Prop where
 |n:aK K dl H .non .n []
 |b(x:Bool):aK K dl H (.bl x) (.b x) []
 |i(x:Int):aK K dl H (.int x) (.i x) []
 |s(x:Str):aK K dl H (.str x) (.s x) []
 |ty(x:String):aK K dl H (.ty x) (.ty x) []
 |t{a:J}{vs:List V}{ts:List T}{F:List J}:H a=Z (.tup vs)->aB K dl H vs ts F->aK K dl H (.ref a) (.t ts) F
 |l{a:J}{vs:List V}{ts:List T}{F:List J}:H a=Z (.lst vs)->aB K dl H vs ts F->aK K dl H (.ref a) (.l ts) (a::F)
 |d{a:J}{vs:List (Key×V)}{ts:List (Key×T)}{F:List J}:H a=Z (.dK vs)->a7 K dl H vs ts F->aK K dl H (.ref a) (.d ts) (a::F)
 |x{a l:J}:(a,l)∈dl->aK K dl H (.ref a) .cB []
 |z{a:J}{ns:List Int}:FzL K H a (ns.map V.int)->aK K dl H (.ref a) (.z ns) []
 |q{a:J}{xs:List V}:H a=Z (.lst xs)->aK K dl H (.ref a) .q []
 |fd{a:J}{o:Obj}{vs:List (Key×V)}{ts:List (Key×T)}:H a=Z (.frz o (.dK vs))->a7 K dl H vs ts []->aK K dl H (.ref a) (.fd o vs ts) []
 |k{a:J}{ws:List Str}:(∀H':Hp,SqT K H' a (ws.map V.str))->aK K dl H (.ref a) (.k ws) []
 |e{a C:J}{b:Bool}{ns:List Str}{vs:List V}{ts:List T}:ExH H a C b (ns.zip vs)->aB K dl H vs ts []->aK K dl H (.ref a) (.xc C ns ts) []
 |rm{a:J}{x u:Int}:H a=Z (.room x)->x<=u->aK K dl H (.ref a) (.rm u) []
 |ob{a C:J}{ns:List Str}{vs:List V}{ts:List T}:ObH H a C (ns.zip vs)->aB K dl H vs ts []->aK K dl H (.ref a) (.ob C ns ts) []
 |dp{a:J}{vs:List (Key×V)}{ts:List (Key×T)}{F:List J}:H a=Z (.dK vs)->a7 K dl H vs ts F->aK K dl H (.ref a) (.dp a ts) (a::F)
 |lp{a:J}{vs:List V}{ts:List T}{F:List J}:H a=Z (.lst vs)->aB K dl H vs ts F->aK K dl H (.ref a) (.lp a ts) (a::F)
 |zl{a:J}{o:Obj}{vs:List V}{ts:List T}:H a=Z (.frz o (.lst vs))->aB K dl H vs ts []->aK K dl H (.ref a) (.zl ts) []
 |rf(a:J):aK K dl H (.ref a) (.rf a) []
 |om{a C dx:J}{ns:List Str}{vs:List V}{ts:List T}{F:List J}:H a=Z (.ins C dx (ns.zip vs))->H dx=Z (.own a)->ns.length=ts.length->aB K dl H vs ts F->aK K dl H (.ref a) (.om a C ns ts) (a::dx::F)
 |fz{a:J}{o:Obj}{u:HO}:H a=Z (.frz o u)->aK K dl H (.ref a) (.fz u) []
inductive aB(K:BT)(dl:Dl)(H:Hp):List V->List T->List J->Prop where
 |nil:aB K dl H [] [] []
 |cons{v:V}{x:T}{vs:List V}{ts:List T}{F G:List J}:aK K dl H v x F->aB K dl H vs ts G->aB K dl H (v::vs) (x::ts) (F++G)
inductive a7(K:BT)(dl:Dl)(H:Hp):List (Key×V)->List (Key×T)->List J->Prop where
 |nil:a7 K dl H [] [] []
 |cons{k:Key}{v:V}{x:T}{vs:List (Key×V)}{ts:List (Key×T)}{F G:List J}:aK K dl H v x F->a7 K dl H vs ts G->a7 K dl H ((k,v)::vs) ((k,x)::ts) (F++G)
end
def HO.mt:HO->Bool
 |.lst _=>O
 |.dK _=>O
 |.ins _ _ _=>O
 |.own _=>O
 |_=>ϊ
inductive gm(H:Hp)(b:J):Prop
 |mk(o:_)(h1:H b=Z o)(h2:o.mt=O)
def gm.no(h:gm H b)(e:H b=Y):False:=by
 let(_,h,_):=h;rw[e]at h;cases h
structure TF(H H':Hp):Prop where
 t:∀a vs,H a=Z (.tup vs)->H' a=Z (.tup vs)
 f:∀a o u,H a=Z (.frz o u)->H' a=Z (.frz o u)
 x:∀a φ,H a=Z (.ext φ)->H' a=Z (.ext φ)
 q:∀a xs,H a=Z (.lst xs)->∃ys,H' a=Z (.lst ys)
 r:∀a x,H a=Z (.room x)->∃y,y<=x/\H' a=Z (.room y)
variable{H':Hp}{C:J}
def ObH.tf(h:ObH H a C fs)(k:TF H H'):ObH H' a C fs:=by
 let(d,h1,h2,h3):=h;exact(d,h1,k.x _ _ h2,k.x _ _ h3)
def ExH.tf(h:ExH H a C b fs)(k:TF H H'):ExH H' a C b fs:=by
 obtain⟨h1,h2⟩|⟨d,h1,h2,h3⟩:=h
 ·exact .inl (h1,k.x _ _ h2)
 ·exact .inr (d,h1,k.x _ _ h2,k.x _ _ h3)
theorem FzL.tf{K:BT}(h:FzL K H a vs)(k:TF H H'):FzL K H' a vs:=by
 obtain⟨o,h⟩|h:=h
 ·exact .inl (o,k.f _ _ _ h)
 ·exact .inr h
def bY{α:Type}{p:α->Prop}:∀b∈([]:List α),p b:=λ_ h=>absurd h x2
variable{dl:Dl}{dl':Dl}
theorem aK.dA{K:BT}(k:TF H H')(hd:∀p∈dl,p∈dl'){t:T}(h:aK K dl H v t F):(∀b∈F,∀o,H b=Z o->H' b=Z o)->aK K dl' H' v t F:=
 aK.rec (motive_2:=λv t F _=>(∀b∈F,∀o,H b=Z o->H' b=Z o)->aB K dl' H' v t F) (motive_3:=λv t F _=>(∀b∈F,∀o,H b=Z o->H' b=Z o)->a7 K dl' H' v t F)
  (λ_=>.n) (λx _=>.b x) (λx _=>.i x) (λx _=>.s x) (λx _=>.ty x) (λh _ g q=>.t (k.t _ _ h) (g q))
  (λh _ g q=>.l (q _ j2 _ h) (g λb P=>q b (j1 _ P))) (λh _ g q=>.d (q _ j2 _ h) (g λb P=>q b (j1 _ P)))
  (λh _=>.x (hd _ h)) (λh _=>.z (h.tf k)) (λh _=>Exists.elim (k.q _ _ h) λ_ e=>.q e) (λh _ g _=>.fd (k.f _ _ _ h) (g bY)) (λh _=>.k h) (λh _ g _=>.e (h.tf k) (g bY))
  (λh hx _=>Exists.elim (k.r _ _ h) λ_ e=>.rm e.2 (XX e.1 hx)) (λh _ g _=>.ob (h.tf k) (g bY)) (λh _ g q=>.dp (q _ j2 _ h) (g λb P=>q b (j1 _ P))) (λh _ g q=>.lp (q _ j2 _ h) (g λb P=>q b (j1 _ P))) (λh _ g _=>.zl (k.f _ _ _ h) (g bY)) (λa _=>.rf a) (λh1 h2 h3 _ g q=>.om (q _ j2 _ h1) (q _ (j1 _ j2) _ h2) h3 (g λb P=>q b (j1 _ (j1 _ P)))) (λh _=>.fz (k.f _ _ _ h))
  (λ_=>.nil) (λ_ _ i1 i2 q=>.cons (i1 λb P=>q b (pL _ P)) (i2 λb P=>q b (lY _ P)))
  (λ_=>.nil) (λ_ _ i1 i2 q=>.cons (i1 λb P=>q b (pL _ P)) (i2 λb P=>q b (lY _ P))) h
@[elab_as_elim]
theorem aB.ind{K:BT}{M:List V->List T->List J->Prop}(nil:M [] [] [])(cons:∀v x vs ts F G,aK K dl H v x F->aB K dl H vs ts G->M vs ts G->M (v::vs) (x::ts) (F++G)){vs:List V}{ts:List T}{F:List J}(h:aB K dl H vs ts F):M vs ts F:=
 aB.rec (motive_1:=λ_ _ _ _=>True) (motive_3:=λ_ _ _ _=>True) trivial (λ_=>trivial) (λ_=>trivial) (λ_=>trivial) (λ_=>trivial) (λ_ _ _=>trivial) (λ_ _ _=>trivial) (λ_ _ _=>trivial)
  (λ_=>trivial) (λ_=>trivial) (λ_=>trivial) (λ_ _ _=>trivial) (λ_=>trivial) (λ_ _ _=>trivial) (λ_ _=>trivial) (λ_ _ _=>trivial) (λ_ _ _=>trivial) (λ_ _ _=>trivial) (λ_ _ _=>trivial) (λ_=>trivial) (λ_ _ _ _ _=>trivial) (λ_=>trivial) nil (λh r _ g=>cons _ _ _ _ _ _ h r g) trivial (λ_ _ _ _=>trivial) h
@[elab_as_elim]
theorem a7.ind{K:BT}{M:List (Key×V)->List (Key×T)->List J->Prop}(nil:M [] [] [])(cons:∀k v x vs ts F G,aK K dl H v x F->a7 K dl H vs ts G->M vs ts G->M ((k,v)::vs) ((k,x)::ts) (F++G)){vs:List (Key×V)}{ts:List (Key×T)}{F:List J}(h:a7 K dl H vs ts F):M vs ts F:=
 a7.rec (motive_1:=λ_ _ _ _=>True) (motive_2:=λ_ _ _ _=>True) trivial (λ_=>trivial) (λ_=>trivial) (λ_=>trivial) (λ_=>trivial) (λ_ _ _=>trivial) (λ_ _ _=>trivial) (λ_ _ _=>trivial)
  (λ_=>trivial) (λ_=>trivial) (λ_=>trivial) (λ_ _ _=>trivial) (λ_=>trivial) (λ_ _ _=>trivial) (λ_ _=>trivial) (λ_ _ _=>trivial) (λ_ _ _=>trivial) (λ_ _ _=>trivial) (λ_ _ _=>trivial) (λ_=>trivial) (λ_ _ _ _ _=>trivial) (λ_=>trivial) trivial (λ_ _ _ _=>trivial) nil (λh r _ g=>cons _ _ _ _ _ _ _ h r g) h
theorem aB.dA{K:BT}(k:TF H H')(hd:∀p∈dl,p∈dl')(h:aB K dl H vs ts F):(∀b∈F,∀o,H b=Z o->H' b=Z o)->aB K dl' H' vs ts F:=
 h.ind (λ_=>.nil) (λ_ _ _ _ _ _ h _ z q=>.cons (h.dA k hd λb g=>q b (pL _ g)) (z λb g=>q b (lY _ g)))
theorem a7.dA{K:BT}(k:TF H H')(hd:∀p∈dl,p∈dl')(h:a7 K dl H vs ts F):(∀b∈F,∀o,H b=Z o->H' b=Z o)->a7 K dl' H' vs ts F:=
 h.ind (λ_=>.nil) (λ_ _ _ _ _ _ _ h _ z q=>.cons (h.dA k hd λb g=>q b (pL _ g)) (z λb g=>q b (lY _ g)))
variable{G:List J}
def ot(h:∀b∈F,gm H b)(r:∀b∈G,gm H b):∀b∈F++G,gm H b:=λb g=>(i6.mp g).elim (h b) (r b)
theorem aK.there{K:BT}{t:T}(h:aK K dl H v t F):∀b∈F,gm H b:=
 aK.rec
  bY (λ_=>bY) (λ_=>bY) (λ_=>bY) (λ_=>bY) (λ_ _ g=>g)
  (λh _ g b q=>(kO.mp q).elim (λe=>by rw[e];exact(_,h,U)) (g b)) (λh _ g b q=>(kO.mp q).elim (λe=>by rw[e];exact(_,h,U)) (g b))
  (λ_=>bY) (λ_=>bY) (λ_=>bY) (λ_ _ _=>bY) (λ_=>bY) (λ_ _ _=>bY)
  (λ_ _=>bY) (λ_ _ _=>bY) (λh _ g b q=>(kO.mp q).elim (λe=>by rw[e];exact(_,h,U)) (g b)) (λh _ g b q=>(kO.mp q).elim (λe=>by rw[e];exact(_,h,U)) (g b)) (λ_ _ _=>bY) (λ_=>bY) (λh1 h2 _ _ g b q=>(kO.mp q).elim (λe=>by rw[e];exact(_,h1,U)) λq=>(kO.mp q).elim (λe=>by rw[e];exact(_,h2,U)) (g b)) (λ_=>bY)
  bY (λ_ _ i1 i2=>ot i1 i2) bY (λ_ _ i1 i2=>ot i1 i2) h
theorem aB.there{K:BT}(h:aB K dl H vs ts F):∀b∈F,gm H b:=h.ind bY (λ_ _ _ _ _ _ h _ g=>ot h.there g)
def Nd(dl:Dl)(b:J):Prop:=∀p∈dl,b≠p.1/\b≠p.2
def Dls(dl:Dl)(H:Hp):Prop:=∀p∈dl,nV H p.1 p.2
def Dls.nd(D:Dls dl H)(h:H b=Z o)(h1:∀xs,o ≠ .lst xs)(h2:∀ks,o ≠ .dK ks):Nd dl b:=λp hp=>by
 let(s,n,ls,Q):=D p hp;exact(ja h Q.hd (h2 _),ja h Q.hl (h1 _))
def Dls.nd0(D:Dls dl H)(h:H b=Y):Nd dl b:=λp hp=>by
 let(s,n,ls,Q):=D p hp;exact((bg Q.hd h).symm,(bg Q.hl h).symm)
def NR(o:HO):Prop:=∀x,o ≠ .room x
structure Evo(dl:Dl)(H H':Hp):Prop where
 k:∀b o,H b=Z o->Nd dl b->NR o->H' b=Z o
 d:Dls dl H'
 r:∀a x,H a=Z (.room x)->∃y,y<=x/\H' a=Z (.room y)
def NR.of(h:gm H b)(e:H b=Z o):NR o:=λx z=>by
 let(_,h,m):=h;rw[e,z]at h;cases h;cases m
def Evo.refl(D:Dls dl H):Evo dl H H:=(λ_ _ h _ _=>h,D,λ_ x h=>(x,E3 _,h))
variable{H1:Hp}{H2:Hp}
def Evo.trans(a:Evo dl H H1)(b:Evo dl H1 H2):Evo dl H H2:=(λc o h n r=>b.k c o (a.k c o h n r) n r,b.d,λc x h=>let(y,q,e):=a.r c x h;let(z,g,K):=b.r c y e;(z,XX g q,K))
def Evo.tf(e:Evo dl H H')(D:Dls dl H):TF H H':=
 (λa vs h=>e.k a _ h (D.nd h nofun nofun) nofun,λa o u h=>e.k a _ h (D.nd h nofun nofun) nofun,λa φ h=>e.k a _ h (D.nd h nofun nofun) nofun,λa xs h=>(by
  by_cases hn:Nd dl a
  ·exact(xs,e.k a _ h hn nofun)
  ·obtain⟨p,hp,z⟩:∃p∈dl,¬(a≠p.1/\a≠p.2):=Classical.byContradiction λc=>hn λp hp=>Classical.byContradiction λz=>c (p,hp,z)
   let(s,n,ls,Q):=D p hp;let(s',q,ls',Q'):=e.d p hp;have h1:=ja h Q.hd (λz=>nomatch z)
   have h2:=Classical.byContradiction λg=>z (h1,g)
   exact(_,by rw[h2];exact Q'.hl)),e.r)
theorem Evo.new(e:Evo dl H H1)(hp:H1 p=Y):Evo dl H (upd H1 p o):=
 (λc u h n r=>by rw[au (bg (e.k c u h n r) hp)];exact e.k c u h n r,λq hq=>(e.d q hq).new hp,λc x h=>let(y,z,g):=e.r c x h;(y,z,by rw[au (bg g hp)];exact g))
def Evo.free(e:Evo dl H H')(hp:H' p=Y):H p=none:=by
 cases q:H p with
 |none=>rfl
 |some o =>
  by_cases hn:NR o
  ·rw[e.k p o q (e.d.nd0 hp) hn]at hp;cases hp
  ·obtain⟨x,hx⟩:∃x,o=.room x:=Classical.byContradiction λc=>hn λx z=>c (x,z)
   subst hx;let(y,_,g):=e.r p x q;rw[g]at hp;cases hp
structure Rp(K:BT)(dl:Dl)(H:Hp)(v:V)(t:T)(F:List J):Prop where
 r:aK K dl H v t F
 n:∀b∈F,Nd dl b
structure Rps(K:BT)(dl:Dl)(H:Hp)(vs:List V)(ts:List T)(F:List J):Prop where
 r:aB K dl H vs ts F
 n:∀b∈F,Nd dl b
theorem Rp.evo{K:BT}(h:Rp K dl H v t F)(D:Dls dl H)(e:Evo dl H H'):Rp K dl H' v t F:=
 (h.r.dA (e.tf D) (λ_ q=>q) λb g o q=>e.k b o q (h.n b g) (.of (h.r.there b g) q),h.n)
theorem Rps.evo{K:BT}(h:Rps K dl H v t F)(D:Dls dl H)(e:Evo dl H H'):Rps K dl H' v t F:=
 (h.r.dA (e.tf D) (λ_ q=>q) λb g o q=>e.k b o q (h.n b g) (.of (h.r.there b g) q),h.n)
inductive Sl where
 |no|o (t:T)|r (t:T)
abbrev Sq:=List Sl
def Sl.get:Sl->Option T
 |.no=>Y
 |.o t=>Z t
 |.r t=>Z t
structure RdR(K:BT)(dl:Dl)(H:Hp)(σ:St)(q:Sq):Prop where
 d:Dls dl H
 g:∀(i:Nat)(x:Sl)(t:T),q[i]?=Z x->x.get=Z t->∃v F,σ[i]?=Z (Z v)/\Rp K dl H v t F
theorem RdR.evo{K:BT}(h:RdR K dl H σ q)(e:Evo dl H H'):RdR K dl H' σ q:=
 (e.d,λi x t h1 h2=>let(v,F,h3,h4):=h.g i x t h1 h2;(v,F,h3,h4.evo h.d e))
abbrev QE:=Sq->(T->Prop)->Prop
abbrev QT:=Sq->(Bool->Prop)->Prop
abbrev QA:=Sq->(List T->Prop)->Prop
def i3(K:BT)(te:TE)(tq:QE):Prop:=∀(dl:Dl)(H:Hp)(σ:St)(q:Sq)(Q:T->Prop)(R:V->Hp->Prop),RdR K dl H σ q->tq q Q ->
 (∀v t F H',Evo dl H H'->Rp K dl H' v t F->Q t->R v H')->te σ H R
def kM(K:BT)(te:TE)(tq:QE):Prop:=∀(dl:Dl)(H:Hp)(σ:St)(q:Sq)(Q:T->Prop)(R:V->Hp->Prop),RdR K dl H σ q->tq q Q ->
 (∀v t F H',Evo dl H H'->Rp K dl H' v t F->(∀b∈F,H b=Y)->F.Nodup->Q t->R v H')->te σ H R
def lT(K:BT)(te:TT)(tq:QT):Prop:=∀(dl:Dl)(H:Hp)(σ:St)(q:Sq)(Q:Bool->Prop)(R:Bool->Hp->Prop),RdR K dl H σ q->tq q Q ->
 (∀b H',Evo dl H H'->Q b->R b H')->te σ H R
def OT(K:BT)(n:Nat)(te:TA)(tq:QA):Prop:=∀(dl:Dl)(H:Hp)(σ:St)(q:Sq)(Q:List T->Prop)(R:List V->Hp->Prop),RdR K dl H σ q->tq q Q ->
 (∀vs ts F H',Evo dl H H'->Rps K dl H' vs ts F->vs.length=n->Q ts->R vs H')->te σ H R
def Vp(K:BT)(n:Nat)(te:TA)(tq:QA):Prop:=∀(dl:Dl)(H:Hp)(σ:St)(q:Sq)(Q:List T->Prop)(R:List V->Hp->Prop),RdR K dl H σ q->tq q Q ->
 (∀vs ts F H',Evo dl H H'->Rps K dl H' vs ts F->vs.length=n->(∀b∈F,H b=Y)->F.Nodup->Q ts->R vs H')->te σ H R
structure QPE(X:Cx)(K:BT)(e:Ev)(te:TE)(tq:QE):Prop where
 h:PE X e te
 s:i3 K te tq
structure QPF(X:Cx)(K:BT)(e:Ev)(te:TE)(tq:QE):Prop where
 h:PE X e te
 s:kM K te tq
structure QPT(X:Cx)(K:BT)(e:Ev)(te:TT)(tq:QT):Prop where
 h:PT X e te
 s:lT K te tq
structure QPW(X:Cx)(K:BT)(e:Ev)(te:TT)(tq:QT):Prop where
 h:PW X e te
 s:lT K te tq
structure QPA(X:Cx)(K:BT)(es:List Ev)(te:TA)(tq:QA):Prop where
 h:PA X es te
 s:OT K es.length te tq
structure yI(X:Cx)(K:BT)(es:List Ev)(te:TA)(tq:QA):Prop where
 h:PA X es te
 s:Vp K es.length te tq
variable{x:Str}{ws:List Str}
section
variable{X:Cx}{K:BT}{a b e:Ev}{ta tb te:TE}{qa qb qe:QE}{pos:Pos}
def Zc(h:QPF X K e te qe):QPE X K e te qe:=(h.h,λdl H σ q Q R rd hq k=>h.s dl H σ q Q R rd hq λv t F H' e r _ _ z=>k v t F H' e r z)
mutual
def T.im:T->Bool
 |.t xs=>T.ims xs
 |.l _=>ϊ
 |.d _=>ϊ
 |.dp _ _=>ϊ
 |.lp _ _=>ϊ
 |.om _ _ _ _=>ϊ
 |_=>O
def T.ims:List T->Bool
 |[]=>O
 |x::r=>x.im&&T.ims r
end
def tX{x y:Bool}(h:x=O->F=[])(r:y=O->G=[])(q:(x&&y)=O):F++G=[]:=by rw[h (uB _ _▸q).1,r (uB _ _▸q).2];rfl
theorem aK.im{t:T}(h:aK K dl H v t F):t.im=O->F=[]:=
 aK.rec (motive_3:=λ_ _ _ _=>True)
  (λ_=>rfl) (λ_ _=>rfl) (λ_ _=>rfl) (λ_ _=>rfl) (λ_ _=>rfl) (λ_ _ g=>g) (λ_ _ _ h=>absurd h qr) (λ_ _ _ h=>absurd h qr)
  (λ_ _=>rfl) (λ_ _=>rfl) (λ_ _=>rfl) (λ_ _ _ _=>rfl) (λ_ _=>rfl) (λ_ _ _ _=>rfl) (λ_ _ _=>rfl) (λ_ _ _ _=>rfl) (λ_ _ _ h=>absurd h qr) (λ_ _ _ h=>absurd h qr) (λ_ _ _ _=>rfl) (λ_ _=>rfl) (λ_ _ _ _ _ h=>absurd h qr) (λ_ _=>rfl) (λ_=>rfl) (λ_ _ i1 i2=>tX i1 i2) trivial (λ_ _ _ _=>trivial) h
theorem aB.im(h:aB K dl H v t F):T.ims t=O->F=[]:=h.ind (λ_=>rfl) (λ_ _ _ _ _ _ h _ g=>tX h.im g)
inductive Ex2{α:Type}(p:α->Prop)(Q:α->Prop):Prop
 |mk(x:α)(h:p x)(k:Q x)
inductive Ex3{α β:Type}(p:α->Prop)(g:α->β)(Q:β->Prop):Prop
 |mk(x:α)(h:p x)(k:Q (g x))
inductive Ex4{α β:Type}(p r:α->Prop)(g:α->β)(Q:β->Prop):Prop
 |mk(x:α)(h:p x)(h2:r x)(k:Q (g x))
def on1(ts:List T)(P:T->Prop):Prop:=match ts with|[t]=>P t|_=>False
def on1.inv(h:on1 ts P):∃t,ts=[t]/\P t:=by
 cases ts with
 |nil=>exact h.elim
 |cons t r=>cases r with
  |nil=>exact(t,U,h)
  |cons=>exact h.elim
def on2(ts:List T)(P:T->T->Prop):Prop:=match ts with|[t,u]=>P t u|_=>False
def on2.inv(h:on2 ts P):∃t u,ts=[t,u]/\P t u:=by
 cases ts with
 |nil=>exact h.elim
 |cons t r=>cases r with
  |nil=>exact h.elim
  |cons u r=>cases r with
   |nil=>exact(t,u,U,h)
   |cons=>exact h.elim
def qQ(qe:QE):QE:=λq Q=>qe q λt=>match t with|.l _=>Q .q|_=>False
def qIm(qe:QE):QE:=λq Q=>qe q λt=>t.im=O/\Q t
theorem Zd(h:QPE X K e te qe):QPF X K e te (qIm qe):=(h.h,λdl H σ q Q R rd hq k=>h.s dl H σ q _ R rd hq λv t F H' e r (P,g)=>by
 have f:=r.r.im P;subst f;exact k v t [] H' e r bY kc g)
def aM(i:Nat):QE:=λq Q=>match q[i]? with
 |some (.o t)=>Q t
 |some (.r t)=>Q t
 |_=>False
def Mc(i:Nat):i3 K (b8 i) (aM i):=by
 intro dl H σ q Q R rd hq k;unfold aM at hq
 split at hq
 ·rename_i t e;let(v,F,h1,h2):=rd.g i _ t e U;exact(v,h1,k v t F H (.refl rd.d) h2 hq)
 ·rename_i t e;let(v,F,h1,h2):=rd.g i _ t e U;exact(v,h1,k v t F H (.refl rd.d) h2 hq)
 ·exact hq.elim
def qv(i:Nat)(q:‹X.N[i]?=Z x›)(hv:Vis X.env.scope x:=by first|exact Or.inl rfl|exact Or.inr (Or.inl U)|exact Or.inr (Or.inr U))(hd:autoParam (AS x) zdc._auto_1)
  (g:autoParam ((x ==("__classdict__":Str))=false) zdc._auto_1):QPE X K (.Name x pos) (b8 i) (aM i):=(Jn q hv hd g,Mc i)
def qC(t:T):QE:=λ_ Q=>Q t
def vN(h:∀dl H,aK K dl H v t []):kM K (tC v) (qC t):=λdl H σ q Q R rd hq k=>k v t [] H (.refl rd.d) (h dl H,bY) bY kc hq
def br:QPF X K (.Constant (.int i) j pos) (tC (.int i)) (qC (.i i)):=(bV,vN λ_ _=>.i i)
def Dk{b j pos}:QPF X K (.Constant (.bool b) j pos) (tC (.bl b)) (qC (.b b)):=(Up,vN λ_ _=>.b b)
def cz:QPF X K (.Constant .none j pos) (tC .non) (qC .n):=(Rq,vN λ_ _=>.n)
def aH:QPF X K (.Constant (.str x) j pos) (tC (.str x)) (qC (.s x)):=(dB,vN λ_ _=>.s x)
def Pg(hg:Gl X x)(hm:X.mg x=Y)(hv:bootBuiltins x=Z (.type n))(hn:autoParam (x ≠ "__name__") zdc._auto_1)(hd:autoParam (AS x) zdc._auto_1):QPF X K (.Name x pos) (tC (.ty n)) (qC (.ty n)):=
 (Np hg hm hv U hn hd,vN λ_ _=>.ty n)
theorem lD:∀(ws:List Str),aB K dl H (ws.map V.str) (ws.map T.s) []
 |[]=>.nil
 |w::r=>.cons (.s w) (lD r)
theorem iG:∀(ws:List Int),aB K dl H (ws.map V.int) (ws.map T.i) []
 |[]=>.nil
 |w::r=>.cons (.i w) (iG r)
def Iw(hg:Gl X x)(hm:X.mg x=Z (.ref y))(hk:∀H,SqT K H y (ws.map V.str))(hd:autoParam (AS x) zdc._auto_1):QPF X K (.Name x pos) (tC (.ref y)) (qC (.k ws)):=
 (Js hg hm hd,vN λdl H=>.k hk)
abbrev Q2:=T->T->(T->Prop)->Prop
def GH(K:BT)(r:R2)(rq:Q2):Prop:=∀(dl:Dl)(H:Hp)(x y:V)(t u:T)(F G:List J)(Q:T->Prop)(R:V->Hp->Prop),Dls dl H->Rp K dl H x t F->Rp K dl H y u G->rq t u Q ->
 (∀v z F' H',Evo dl H H'->Rp K dl H' v z F'->Q z->R v H')->r x y H R
def dO(K:BT)(r:R2)(rq:Q2):Prop:=∀(dl:Dl)(H:Hp)(x y:V)(t u:T)(F G:List J)(Q:T->Prop)(R:V->Hp->Prop),Dls dl H->Rp K dl H x t F->Rp K dl H y u G->rq t u Q ->
 (∀v z F' H',Evo dl H H'->Rp K dl H' v z F'->(∀b∈F',H b=Y)->F'.Nodup->Q z->R v H')->r x y H R
variable{rq:Q2}
def dO.w(h:dO K r rq):GH K r rq:=λdl H x y t u F G Q R d a b hq k=>h dl H x y t u F G Q R d a b hq λv z F' H' e r _ _ g=>k v z F' H' e r g
def qOp(rq:Q2)(qa qb:QE):QE:=λq Q=>qa q λt=>qb q λu=>rq t u Q
def sx(ho:GH K r rq)(ha:i3 K ta qa)(hb:i3 K tb qb):i3 K (tOp r ta tb) (qOp rq qa qb):=by
 intro dl H σ q Q R rd hq k;exact ha dl H σ q _ _ rd hq λv t F H1 e1 r1 P=>(hb dl H1 σ q _ _ (rd.evo e1) P λw u G H2 V r2 g=>(ho dl H2 v w t u F G Q R V.d (r1.evo e1.d V) r2 g λv' z F' H3 e3 r3 hz=>k v' z F' H3 ((e1.trans V).trans e3) r3 hz))
def C6(ho:dO K r rq)(ha:i3 K ta qa)(hb:i3 K tb qb):kM K (tOp r ta tb) (qOp rq qa qb):=by
 intro dl H σ q Q R rd hq k;exact ha dl H σ q _ _ rd hq λv t F H1 P r1 ak=>(hb dl H1 σ q _ _ (rd.evo P) ak λw u G H2 g r2 V=>(ho dl H2 v w t u F G Q R g.d (r1.evo P.d g) r2 V λv' z F' H3 e3 r3 f3 n3 hz=>k v' z F' H3 ((P.trans g).trans e3) r3 (λb hb=>(P.trans g).free (f3 b hb)) n3 hz))
def lF(ho:OpR X (binaryOp op) r)(hs:dO K r rq)(ha:QPE X K a ta qa)(g:QPE X K b tb qb):QPF X K (.BinOp a op b pos) (tOp r ta tb) (qOp rq qa qb):=(cR ho ha.h g.h,C6 hs ha.s g.s)
end
end L2
namespace L2
open PySem PySem.Spec PyProof.Rows
variable{x:Str}{C:J}{a:J}{ns:List Int}{ws:List Str}{G:List J}
section
variable{X:Cx}{K:BT}{dl:Dl}{H:Hp}{v:V}{F:List J}
def WG(K:BT)(dl:Dl)(H:Hp)(v:V)(F:List J):T->Prop
 |.n=>v=.non/\F=[]
 |.b x=>v=.bl x/\F=[]
 |.i x=>v=.int x/\F=[]
 |.s x=>v=.str x/\F=[]
 |.ty x=>v=.ty x
 |.t ts=>∃a vs,v=.ref a/\H a=Z (.tup vs)/\aB K dl H vs ts F
 |.l ts=>∃a vs G,v=.ref a/\F=a::G/\H a=Z (.lst vs)/\aB K dl H vs ts G
 |.d ts=>∃a vs G,v=.ref a/\F=a::G/\H a=Z (.dK vs)/\a7 K dl H vs ts G
 |.cB=>∃a l,v=.ref a/\(a,l)∈dl/\F=[]
 |.z ns=>∃a,v=.ref a/\FzL K H a (ns.map V.int)/\F=[]
 |.k ws=>∃a,v=.ref a/\(∀H',SqT K H' a (ws.map V.str))/\F=[]
 |.xc C ns ts=>∃a b vs,v=.ref a/\F=[]/\ExH H a C b (ns.zip vs)/\aB K dl H vs ts []
 |.q=>True
 |.fd _ _ _=>True
 |.rm u=>∃a x,v=.ref a/\H a=Z (.room x)/\x<=u/\F=[]
 |.ob C ns ts=>∃a vs,v=.ref a/\F=[]/\ObH H a C (ns.zip vs)/\aB K dl H vs ts []
 |.dp a ts=>∃vs G,v=.ref a/\F=a::G/\H a=Z (.dK vs)/\a7 K dl H vs ts G
 |.lp a ts=>∃vs G,v=.ref a/\F=a::G/\H a=Z (.lst vs)/\aB K dl H vs ts G
 |.zl ts=>∃a o vs,v=.ref a/\F=[]/\H a=Z (.frz o (.lst vs))/\aB K dl H vs ts []
 |.rf a=>v=.ref a/\F=[]
 |.om a C ns ts=>∃dx vs G,v=.ref a/\F=a::dx::G/\H a=Z (.ins C dx (ns.zip vs))/\H dx=Z (.own a)/\ns.length=ts.length/\aB K dl H vs ts G
 |.fz u=>∃a o,v=.ref a/\F=[]/\H a=Z (.frz o u)
def aK.inv{t:T}(h:aK K dl H v t F):WG K dl H v F t:=
 aK.rec (motive_2:=λ_ _ _ _=>True) (motive_3:=λ_ _ _ _=>True) (U,U) (λ_=>(U,U)) (λ_=>(U,U)) (λ_=>(U,U)) (λ_=>rfl)
  (λh r _=>(_,_,U,h,r)) (λh r _=>(_,_,_,U,U,h,r)) (λh r _=>(_,_,_,U,U,h,r)) (λh=>(_,_,U,h,U)) (λh=>(_,U,h,U)) (λ_=>trivial) (λ_ _ _=>trivial) (λh=>(_,U,h,U)) (λh r _=>(_,_,_,U,U,h,r)) (λh hx=>(_,_,U,h,hx,U)) (λh r _=>(_,_,U,U,h,r)) (λh r _=>(_,_,U,U,h,r)) (λh r _=>(_,_,U,U,h,r)) (λh r _=>(_,_,_,U,U,h,r)) (λ_=>(U,U)) (λh1 h2 h3 r _=>(_,_,_,U,U,h1,h2,h3,r)) (λh=>(_,_,U,U,h))
  trivial (λ_ _ _ _=>trivial) trivial (λ_ _ _ _=>trivial) h
theorem aK.int{x:Int}(h:aK K dl H v (.i x) F):v=.int x/\F=[]:=h.inv
theorem aK.str(h:aK K dl H v (.s x) F):v=.str x/\F=[]:=h.inv
theorem aK.bl{x:Bool}(h:aK K dl H v (.b x) F):v=.bl x/\F=[]:=h.inv
theorem aK.non(h:aK K dl H v .n F):v=.non/\F=[]:=h.inv
def aK.tyy{x:String}(h:aK K dl H v (.ty x) F):v=.ty x:=h.inv
theorem aK.tup(h:aK K dl H v (.t ts) F):∃a vs,v=.ref a/\H a=Z (.tup vs)/\aB K dl H vs ts F:=h.inv
theorem aK.lst(h:aK K dl H v (.l ts) F):∃a vs G,v=.ref a/\F=a::G/\H a=Z (.lst vs)/\aB K dl H vs ts G:=h.inv
def aK.dic(h:aK K dl H v (.d ts) F):∃a vs G,v=.ref a/\F=a::G/\H a=Z (.dK vs)/\a7 K dl H vs ts G:=h.inv
def aK.roo(h:aK K dl H v (.rm u) F):∃a x,v=.ref a/\H a=Z (.room x)/\x<=u/\F=[]:=h.inv
def aK.obj{ns:List Str}(h:aK K dl H v (.ob C ns ts) F):∃a vs,v=.ref a/\F=[]/\ObH H a C (ns.zip vs)/\aB K dl H vs ts []:=h.inv
def aK.dpp(h:aK K dl H v (.dp a ts) F):∃vs G,v=.ref a/\F=a::G/\H a=Z (.dK vs)/\a7 K dl H vs ts G:=h.inv
def aK.lpp(h:aK K dl H v (.lp a ts) F):∃vs G,v=.ref a/\F=a::G/\H a=Z (.lst vs)/\aB K dl H vs ts G:=h.inv
def aK.zls(h:aK K dl H v (.zl ts) F):∃a o vs,v=.ref a/\F=[]/\H a=Z (.frz o (.lst vs))/\aB K dl H vs ts []:=h.inv
def aK.omm{ns:List Str}(h:aK K dl H v (.om a C ns ts) F):∃dx vs G,v=.ref a/\F=a::dx::G/\H a=Z (.ins C dx (ns.zip vs))/\H dx=Z (.own a)/\ns.length=ts.length/\aB K dl H vs ts G:=h.inv
def aK.dea(h:aK K dl H v .cB F):∃a l,v=.ref a/\(a,l)∈dl/\F=[]:=h.inv
def aK.scr(h:aK K dl H v (.z ns) F):∃a,v=.ref a/\FzL K H a (ns.map V.int)/\F=[]:=h.inv
def aK.kst(h:aK K dl H v (.k ws) F):∃a,v=.ref a/\(∀H',SqT K H' a (ws.map V.str))/\F=[]:=h.inv
def aB.len(h:aB K dl H vs ts F):vs.length=ts.length:=h.ind U λ_ _ _ _ _ _ _ _ g=>congrArg (· + 1) g
def a7.len(h:a7 K dl H vs ts F):vs.length=ts.length:=h.ind U λ_ _ _ _ _ _ _ _ _ g=>congrArg (· + 1) g
def aB.U1{i:Nat}(h:aB K dl H vs ts F)(e:ts[i]?=Z t):∃v G,vs[i]?=Z v/\aK K dl H v t G/\G.Sublist F:=
 h.ind (λ_ _ e=>nomatch e) (λv x vs ts F G h _ g i t e=>by
  cases i with
  |zero=>cases e;exact(v,F,U,h,List.sublist_append_left _ _)
  |succ i =>
   let(w,q,h1,h2,h3):=g i t e;exact(w,q,h1,h2,h3.trans (X3 _ _))) i t e
def aB.get{i:Nat}(h:aB K dl H vs ts F)(e:ts[i]?=Z t):∃v G,vs[i]?=Z v/\aK K dl H v t G/\∀b∈G,b∈F:=
 Exists.elim (h.U1 e) λv z=>Exists.elim z λG z=>(v,G,z.1,z.2.1,λ_ g=>z.2.2.subset g)
def aB.append{vs ws:List V}(h:aB K dl H vs ts F)(h2:aB K dl H ws us G):aB K dl H (vs++ws) (ts++us) (F++G):=
 h.ind h2 λ_ _ _ _ _ _ h _ g=>by rw[u6];exact .cons h g
def aB.iO(h:aB K dl H vs ts F):vs=[] ↔ ts=[]:=by
 cases h with
 |nil=>simp
 |cons _ _=>simp
theorem aB.drop:∀{vs:List V}{ts:List T}{F:List J}(n:Nat),aB K dl H vs ts F->∃G,aB K dl H (vs.drop n) (ts.drop n) G/\G.Sublist F
 |_,_,F,0,h=>(F,h,List.Sublist.refl _)
 |_,_,_,_+1,.nil=>([],.nil,List.Sublist.refl _)
 |_,_,_,n+1,.cons h r=>by
  let(G,h1,h2):=aB.drop n r;exact(G,h1,h2.trans (X3 _ _))
theorem aB.take:∀{vs:List V}{ts:List T}{F:List J}(n:Nat),aB K dl H vs ts F->∃G,aB K dl H (vs.take n) (ts.take n) G/\G.Sublist F
 |_,_,F,0,h=>([],.nil,Yh _)
 |_,_,_,_+1,.nil=>([],.nil,List.Sublist.refl _)
 |_,_,_,n+1,.cons h r=>by
  let(G,h1,h2):=aB.take n r;exact(_,.cons h h1,h2.append_left _)
def Rp.sub(r:aK K dl H v t G)(n:∀b∈F,Nd dl b)(h:∀b∈G,b∈F):Rp K dl H v t G:=(r,λb g=>n b (h b g))
def Rp.c(r:aK K dl H v t []):Rp K dl H v t []:=(r,bY)
theorem Rps.tup(h:Rps K dl H vs ts F)(D:Dls dl H)(hp:H p=Y):Rp K dl (upd H p (.tup vs)) (.ref p) (.t ts) F:=
 have h2:=h.evo D ((Evo.refl D).new hp)
 (.t az h2.r,h2.n)
theorem Rps.lst(h:Rps K dl H vs ts F)(D:Dls dl H)(hp:H p=Y):Rp K dl (upd H p (.lst vs)) (.ref p) (.l ts) (p::F):=
 have h2:=h.evo D ((Evo.refl D).new hp)
 (.l az h2.r,λb g=>by
  obtain e|g:=kO.mp g
  ·rw[e];exact D.nd0 hp
  ·exact h2.n b g)
theorem Rps.fresh(h:Rps K dl H vs ts F)(hp:H p=Y)(hn:F.Nodup):(p::F).Nodup:=uj.mpr (λz=>(h.r.there p z).no hp,hn)
def qII(C:Int->Int->Prop)(g:Int->Int->T):Q2:=λt u Q=>match t with
 |.i a=>match u with|.i b=>C a b/\Q (g a b)|_=>False
 |_=>False
def HF{C:Int->Int->Prop}(hg:∀a b dl H,aK K dl H (g a b) (g' a b) []):dO K (rI C g) (qII C g'):=by
 intro dl H x y t u F G Q R D P q hq k;unfold qII at hq
 split at hq
 ·split at hq
  ·let(U,U):=P.r.int;let(U,U):=q.r.int;exact(_,_,U,U,hq.1,k _ _ [] H (.refl D) (.c (hg _ _ _ _)) bY kc hq.2)
  ·exact hq.elim
 ·exact hq.elim
def qI0(g:Int->Int->T):Q2:=λt u Q=>match t with
 |.i a=>match u with|.i b=>Q (g a b)|_=>False
 |_=>False
def oE(hg:∀a b dl H,aK K dl H (g a b) (g' a b) []):dO K (rI0 g) (qI0 g'):=by
 intro dl H x y t u F G Q R D P q hq k;unfold qI0 at hq
 split at hq
 ·split at hq
  ·let(U,U):=P.r.int;let(U,U):=q.r.int;exact(_,_,U,U,k _ _ [] H (.refl D) (.c (hg _ _ _ _)) bY kc hq)
  ·exact hq.elim
 ·exact hq.elim
def ND:OpR X (binaryOp .Add) (λx y H Q=>∃a b xs ys,x=.ref a/\y=.ref b/\SqT X.K H a xs/\SqT X.K H b ys/\xs.length+ys.length<=kf /\
  (xs=[]->Q (.ref b) H)/\(xs ≠ []->ys=[]->Q (.ref a) H)/\(xs ≠ []->ys ≠ []->∀p,H p=Y->Q (.ref p) (upd H p (.tup (xs++ys))))):=by
 intro gd s σ H x y v u Q I rx V h;let(a,b,xs,ys,U,U,ha,hb,hz,q0,q1,q2):=h;by_cases hx:xs=[]
 ·cases rx;cases V;let(its,r1,p1,_):=I.tuple ha;let(eT,r2,p2,_):=I.tuple hb;have e:=r1.iO.mpr hx;subst e;let((cls,dd,data,sl),ho,hc,n,hd):=id p1;let((Ws,P,data2,q),g,z,n2,hd2):=id p2;subst hc hd z hd2;exact concat_meets (_,ho,U) (_,g,U) noFill_tuple_add seq_tuple_add PySem.F.slot_tuple_add PySem.F.entry_tuple_add (PySem.F.args_tuple_add_2 _ _)
   (tuple_addW0 a b ([]).toArray eT.toArray n n2 dd P sl q ad) (ho,g,(.ref b,H,I,U,q0 hx))
 ·exact NF gd s σ H _ _ v u Q I rx V (a,b,xs,ys,U,U,ha,hb,hx,hz,q1 hx,q2 hx)
def Ij(K:BT):R2:=λx y H Q=>rI0 (λi j=>.int (i+j)) x y H Q\/(∃i j,x=.str i/\y=.str j/\i.length+j.length<=kf/\Q (.str (i++j)) H)\/TQ x y H Q \/
 (∃a b xs ys,x=.ref a/\y=.ref b/\SqT K H a xs/\SqT K H b ys/\xs.length+ys.length<=kf /\
  (xs=[]->Q (.ref b) H)/\(xs ≠ []->ys=[]->Q (.ref a) H)/\(xs ≠ []->ys ≠ []->∀p,H p=Y->Q (.ref p) (upd H p (.tup (xs++ys)))))
def NG(g:X.K=K):OpR X (binaryOp .Add) (Ij K):=by subst g;exact oV.or (BW.or (Ru.or ND))
def kH:Q2:=λt u Q=>match t with
 |.i a=>match u with|.i b=>Q (.i (a+b))|_=>False
 |.s a=>match u with|.s b=>a.length+b.length<=kf/\Q (.s (a++b))|_=>False
 |.l a=>match u with|.l b=>a.length+b.length<=kf/\T.ims a=O/\T.ims b=O/\Q (.l (a++b))|_=>False
 |.t a=>match u with|.t b=>a.length+b.length<=kf/\T.ims a=O/\T.ims b=O/\Q (.t (a++b))|_=>False
 |_=>False
def Mr:dO K (Ij K) kH:=by
 intro dl H x y t u F G Q R D q g hq k;have no:∀b,b∈([])->H b=none:=bY
 cases t with
 |i a =>
  dsimp only[kH]at hq
  split at hq
  ·let(U,U):=q.r.int;let(U,U):=g.r.int;exact .inl (_,_,U,U,k _ _ [] H (.refl D) (.c (.i _)) no kc hq)
  ·exact hq.elim
 |s a =>
  dsimp only[kH]at hq
  split at hq
  ·let(U,U):=q.r.str;let(U,U):=g.r.str;exact .inr (.inl (_,_,U,U,hq.1,k _ _ [] H (.refl D) (.c (.s _)) no kc hq.2))
  ·exact hq.elim
 |l a =>
  dsimp only[kH]at hq
  split at hq
  ·let(a,vs,F1,U,U,h1,s1):=q.r.lst;let(b,ws,G1,U,U,h2,s2):=g.r.lst;obtain rfl:=s1.im hq.2.1;obtain rfl:=s2.im hq.2.2.1;refine .inr (.inr (.inl (a,b,vs,ws,U,U,h1,h2,by rw[s1.len,s2.len];exact hq.1,λp hp=>?_)))
   have rs:Rps K dl H (vs++ws) _ ([]++[]):=(s1.append s2,λc V=>nomatch V)
   exact k _ _ _ _ ((Evo.refl D).new hp) (rs.lst D hp) (λb hb=>by rw[d2.mp hb];exact hp) ad hq.2.2.2
  ·exact hq.elim
 |t a =>
  dsimp only[kH]at hq
  split at hq
  ·let(a,vs,U,h1,s1):=q.r.tup;let(b,ws,U,h2,s2):=g.r.tup;obtain rfl:=s1.im hq.2.1;obtain rfl:=s2.im hq.2.2.1;refine .inr (.inr (.inr (a,b,vs,ws,U,U,SqT.of h1,SqT.of h2,by rw[s1.len,s2.len];exact hq.1,λe=>?_,λe1 e2=>?_,λ_ _ p hp=>?_)))
   ·refine k _ _ [] H (.refl D) g no kc ?_;have z:=s1.iO.mp e;subst z;exact hq.2.2.2
   ·refine k _ _ [] H (.refl D) q no kc ?_;have z:=s2.iO.mp e2;subst z;have P:=hq.2.2.2;rw[qg]at P;exact P
   ·have rs:Rps K dl H (vs++ws) _ ([]++[]):=(s1.append s2,λc V=>nomatch V)
    exact k _ _ _ _ ((Evo.refl D).new hp) (rs.tup D hp) no kc hq.2.2.2
  ·exact hq.elim
 |_=>exact hq.elim
def MT:Q2:=λt u Q=>match t with
 |.i a=>match u with|.i b=>LF a b/\Q (.i (a*b))|_=>False
 |.s a=>match u with|.i b=>0<=b/\b<=1000/\a.length<=1000/\Q (.s (jn a b.toNat))|_=>False
 |_=>False
def Ib:R2:=λx y H Q=>rI LF (λi j=>.int (i*j)) x y H Q\/(∃z n,x=.str z/\y=.int n/\0<=n/\n<=1000/\z.length<=1000/\Q (.str (jn z n.toNat)) H)
def NC:OpR X (binaryOp .Mult) Ib:=lJ.or BV
def Ml:dO K Ib MT:=by
 intro dl H x y t u F G Q R D q g hq k;cases t with
 |i a =>
  dsimp only[MT]at hq
  split at hq
  ·let(U,U):=q.r.int;let(U,U):=g.r.int;exact .inl (_,_,U,U,hq.1,k _ _ [] H (.refl D) (.c (.i _)) bY kc hq.2)
  ·exact hq.elim
 |s a =>
  dsimp only[MT]at hq
  split at hq
  ·let(U,U):=q.r.str;let(U,U):=g.r.int;exact .inr (_,_,U,U,hq.1,hq.2.1,hq.2.2.1,k _ _ [] H (.refl D) (.c (.s _)) bY kc hq.2.2.2)
  ·exact hq.elim
 |_=>exact hq.elim
end
section
variable{X:Cx}{K:BT}{a b:Ev}{ta tb:TE}{qa qb:QE}{pos:Pos}
def aS(ha:QPE X K a ta qa)(g:QPE X K b tb qb)(q:‹X.K=K›):QPF X K (.BinOp a .Add b pos) (tOp (Ij K) ta tb) (qOp kH qa qb):=lF (NG q) Mr ha g
def oP(ha:QPE X K a ta qa)(g:QPE X K b tb qb):QPF X K (.BinOp a .Sub b pos) (tOp (rI0 λi j=>.int (i-j)) ta tb) (qOp (qI0 λi j=>.i (i-j)) qa qb):=lF BU (oE λ_ _ _ _=>.i _) ha g
def fA(ha:QPE X K a ta qa)(g:QPE X K b tb qb):QPF X K (.BinOp a .Mult b pos) (tOp Ib ta tb) (qOp MT qa qb):=lF NC Ml ha g
def Iv(ha:QPE X K a ta qa)(g:QPE X K b tb qb):QPF X K (.BinOp a .Mod b pos) (tOp (rI (λ_ j=>0<j) λi j=>.int (i % j)) ta tb) (qOp (qII (λ_ j=>0<j) λi j=>.i (i % j)) qa qb):=lF iM (HF λ_ _ _ _=>.i _) ha g
def Dj(ha:QPE X K a ta qa)(g:QPE X K b tb qb):QPF X K (.BinOp a .FloorDiv b pos) (tOp (rI LG λi j=>.int (i / j)) ta tb) (qOp (qII LG λi j=>.i (i / j)) qa qb):=lF zH (HF λ_ _ _ _=>.i _) ha g
def Qv(ha:QPE X K a ta qa)(g:QPE X K b tb qb):QPF X K (.BinOp a .Pow b pos) (tOp (rI SX λi j=>.int (i ^ j.toNat)) ta tb) (qOp (qII SX λi j=>.i (i ^ j.toNat)) qa qb):=lF JD (HF λ_ _ _ _=>.i _) ha g
end
variable{dl:Dl}{H:Hp}{neg:Bool}{op:CmpOp}{rq:Q2}{j:Nat}
section
variable{X:Cx}{K:BT}{a b c e:Ev}{es rest:List Ev}{ta tb te:TE}{qa qb qe:QE}{tA tB:TT}{qA qB:QT}{tl:TA}{ql:QA}{pos:Pos}
def T.v:T->V
 |.n=>.non|.b x=>.bl x|.i x=>.int x|.s x=>.str x|_=>.ty ""
def T.fl:T->Bool
 |.n=>O|.b _=>O|.i _=>O|.s _=>O|_=>ϊ
theorem aK.v{v:V}{t:T}(h:aK K dl H v t F)(f:t.fl=O):v=t.v/\F=[]:=by
 cases h <;> first|exact(U,U)|exact absurd (f) qr
def qEq:Q2:=λt u Q=>(t.fl&&u.fl&&Mt t.v u.v)=O/\Q (.b (decide (t.v=u.v)))
def qNe:Q2:=λt u Q=>(t.fl&&u.fl&&Mt t.v u.v)=O/\Q (.b (!decide (t.v=u.v)))
def Qj:dO K rEq qEq:=by
 intro dl H x y t u F G Q R D q g hq k;let(h,hq):=hq;rw[uB,uB]at h;let(U,U):=q.r.v h.1.1;let(U,U):=g.r.v h.1.2;exact(h.2,k _ _ [] H (.refl D) (.c (.b _)) bY kc hq)
def wY:dO K rNe qNe:=by
 intro dl H x y t u F G Q R D q g hq k;let(h,hq):=hq;rw[uB,uB]at h;let(U,U):=q.r.v h.1.1;let(U,U):=g.r.v h.1.2;exact(h.2,k _ _ [] H (.refl D) (.c (.b _)) bY kc hq)
def FC(neg:Bool):Q2:=λt u Q=>match u with
 |.n=>Q (.b (match t with|.n=>!neg|_=>neg))
 |_=>False
def aK.VN{v:V}{t:T}(h:aK K dl H v t F):decide (v=.non)=match(generalizing:=false) t with|.n=>!false|_=>false:=by cases h <;> rfl
def aK.VO{v:V}{t:T}(h:aK K dl H v t F):(!decide (v=.non))=match(generalizing:=false) t with|.n=>!true|_=>true:=by cases h <;> rfl
def me:dO K (λx y H Q=>y=.non/\Q (.bl (decide (x=.non))) H) (FC ϊ):=by
 intro dl H x y t u F G Q R D q g hq k;unfold FC at hq
 split at hq
 ·let(U,U):=g.r.non;refine(U,k _ _ [] H (.refl D) (.c (.b _)) bY kc ?_)
  rw[q.r.VN];exact hq
 ·exact hq.elim
def js:dO K (λx y H Q=>y=.non/\Q (.bl (!decide (x=.non))) H) (FC O):=by
 intro dl H x y t u F G Q R D q g hq k;unfold FC at hq
 split at hq
 ·let(U,U):=g.r.non;refine(U,k _ _ [] H (.refl D) (.c (.b _)) bY kc ?_)
  rw[q.r.VO];exact hq
 ·exact hq.elim
def inT(x:T)(xs:List T):Bool:=xs.any λy=>eqV y.v x.v
def fls(xs:List T):Bool:=xs.all T.fl
theorem aB.vs{vs:List V}(h:aB K dl H vs ts F):fls ts=O->vs=ts.map T.v/\F=[]:=
 h.ind (λ_=>(U,U)) λ_ _ _ _ _ _ h _ g f=>by
  have f:(_&&_)=true:=f;rw[uB]at f;let(U,U):=h.v f.1;let(U,U):=g f.2;exact(U,U)
def ua(f:fls ts=O):(ts.map T.v).all gh=true:=by
 rw[RY];intro x hx;let(t,g,U):=j0.mp hx
 have:=RY.mp f t g
 cases t <;> first|rfl|exact absurd this qr
def Ot{t:T}(f:t.fl=O):gh t.v=true:=by cases t <;> first|rfl|exact absurd f qr
def MF(K:BT)(neg:Bool):R2:=λx y H Q=>rIn K neg x y H Q\/∃i j,x=.str i/\y=.str j/\Q (.bl (if neg then !(!(Builtin.Str.occurrences j i 0 j.length 1).isEmpty)else !(Builtin.Str.occurrences j i 0 j.length 1).isEmpty)) H
def xQ(g:X.K=K):OpR X (compareOp .In) (MF K ϊ):=by subst g;exact FR.or FQ
def FP(g:X.K=K):OpR X (compareOp .NotIn) (MF K O):=by subst g;exact xP.or xO
def qIn(neg:Bool):Q2:=λt u Q=>match u with
 |.l xs=>(t.fl&&fls xs)=O/\Q (.b (if neg then !inT t xs else inT t xs))
 |.t xs=>(t.fl&&fls xs)=O/\Q (.b (if neg then !inT t xs else inT t xs))
 |.k ws=>match t with
  |.s y=>Q (.b (if neg then !inT (.s y) (ws.map T.s)else inT (.s y) (ws.map T.s)))
  |_=>False
 |.s z=>match t with
  |.s y=>Q (.b (if neg then !(!(Builtin.Str.occurrences z y 0 z.length 1).isEmpty)else !(Builtin.Str.occurrences z y 0 z.length 1).isEmpty))
  |_=>False
 |_=>False
def sy:dO K (MF K neg) (qIn neg):=by
 intro dl H x y t u F G Q R D q g hq k;have go:∀xs p vs,y=.ref p->(SqL K H p vs\/SqT K H p vs)->(∃G,aB K dl H vs xs G)->(t.fl&&fls xs)=O/\Q (.b (if neg then !inT t xs else inT t xs))->MF K neg x y H R:=by
  rintro xs p vs rfl hs ⟨G,rs⟩ ⟨f,hq⟩
  rw[uB]at f;let(U,U):=q.r.v f.1;let(U,_):=rs.vs f.2;refine .inl (p,_,U,hs,Ot f.1,ua f.2,k _ (.b _) [] H (.refl D) (.c (.b _)) bY kc ?_)
  have e:inV t.v (xs.map T.v)=inT t xs:=by unfold inV inT;rw[W4];rfl
  rw[e];exact hq
 cases u with
 |l xs =>
  let(p,vs,G,U,_,h1,h2):=g.r.lst;exact go _ p vs U (.inl (SqL.of h1)) (_,h2) hq
 |t xs =>
  let(p,vs,U,h1,h2):=g.r.tup;exact go _ p vs U (.inr (SqT.of h1)) (_,h2) hq
 |k ws =>
  dsimp only[qIn]at hq
  split at hq
  ·let(p,U,h1,_):=g.r.kst;refine go _ p _ U (.inr (h1 H)) (_,lD _) (?_,hq);rw[uB];refine(U,?_);unfold fls;rw[YN,RY];exact λ_ _=>rfl
  ·exact hq.elim
 |s z =>
  dsimp only[qIn]at hq
  split at hq
  ·let(U,U):=q.r.str;let(U,U):=g.r.str;exact .inr (_,_,U,U,k _ _ [] H (.refl D) (.c (.b _)) bY kc hq)
  ·exact hq.elim
 |_=>exact hq.elim
def jE(ho:OpR X (compareOp op) r)(hs:dO K r rq)(hm:behindInMarks op b=ϊ)(ha:QPE X K a ta qa)(g:QPE X K b tb qb):QPF X K (.Compare a [op] [b] pos) (tOp r ta tb) (qOp rq qa qb):=
 (Nn ho ha.h g.h hm,C6 hs ha.s g.s)
def kQ(qe:QE):QT:=λq Q=>qe q λt=>match t with
 |.b x=>Q x
 |_=>False
def Hu(h:i3 K te qe):lT K (CU te) (kQ qe):=by
 intro dl H σ q Q R rd hq k;refine h dl H σ q _ _ rd hq λv t F H' e r g=>?_
 split at g
 ·let(U,U):=r.r.bl;exact(_,U,k _ H' e g)
 ·exact g.elim
def bG(ho:OpR X (compareOp op) r)(hs:dO K r rq)(hm:behindInMarks op b=ϊ)(ha:QPE X K a ta qa)(g:QPE X K b tb qb):QPT X K (.Compare a [op] [b] pos) (CU (tOp r ta tb)) (kQ (qOp rq qa qb)):=
 (mB ho ha.h g.h hm,Hu (sx hs.w ha.s g.s))
def TV(qe:QE):QT:=λq Q=>qe q λt=>match t with
 |.b x=>Q x
 |.n=>Q ϊ
 |.i x=>Q (x != 0)
 |.s x=>x.length<=kf/\Q ((x.length:Int) != 0)
 |.l xs=>Q (!xs.isEmpty)
 |.t xs=>Q (!xs.isEmpty)
 |.d xs=>Q (!xs.isEmpty)
 |_=>False
def Mf(h:i3 K te qe):lT K (λσ H Q=>te σ H λx H'=>∃k,OS K x H' k/\Q k H') (TV qe):=by
 intro dl H σ q Q R rd hq k;refine h dl H σ q _ _ rd hq λv t F H' e r g=>?_
 have emp:∀{α β:Type}{xs:List α}{ys:List β},xs.length=ys.length->(!xs.isEmpty) = !ys.isEmpty:=λ{α β xs ys} h=>by
  cases xs <;> cases ys <;> first|rfl|(simp at h)
 cases t with
 |b x =>
  let(U,U):=r.r.bl;exact(_,U,k _ H' e g)
 |n =>
  let(U,U):=r.r.non;exact(_,U,k _ H' e g)
 |i x =>
  let(U,U):=r.r.int;exact(_,U,k _ H' e g)
 |s x =>
  let(U,U):=r.r.str;exact(_,(g.1,U),k _ H' e g.2)
 |l xs =>
  let(p,vs,G,U,_,h1,h2):=r.r.lst;exact(_,.inl (vs,SqL.of h1,U),k _ H' e (by rw[emp h2.len];exact g))
 |t xs =>
  let(p,vs,U,h1,h2):=r.r.tup;exact(_,.inr (.inl (vs,SqT.of h1,U)),k _ H' e (by rw[emp h2.len];exact g))
 |d xs =>
  let(p,vs,G,U,_,h1,h2):=r.r.dic;exact(_,.inr (.inr (vs,h1,U)),k _ H' e (by rw[emp h2.len];exact g))
 |_=>exact g.elim
def fX(h:QPE X K e te qe)(he:∀whole,isTrue e X.env whole=(do let v <- whole;standAt e.pos;holding [v] (truthy v)):=by intro _;rfl)(g:‹X.K=K›):
  QPT X K e (λσ H Q=>te σ H λx H'=>∃k,OS K x H' k/\Q k H') (TV qe):=(by subst g;exact IY h.h he,Mf h.s)
def T1(t:QT):QT:=λq Q=>t q λc=>Q (!c)
def Ub(t u:QT):QT:=λq Q=>t q λc=>if c=O then u q Q else Q ϊ
def qOr(t u:QT):QT:=λq Q=>t q λc=>if c=O then Q O else u q Q
def Mj(h:lT K tA qA):lT K (P9 tA) (T1 qA):=λdl H σ q _ R rd hq k=>h dl H σ q _ _ rd hq λb H' e g=>k _ H' e g
def Mq(h:lT K tA qA)(h2:lT K tB qB):lT K (Qc tA tB) (Ub qA qB):=λdl H σ q Q R rd hq k=>h dl H σ q _ _ rd hq λb H' e g=>by
 cases b with
 |false=>exact k _ H' e g
 |true=>exact h2 dl H' σ q Q R (rd.evo e) g λc H2 P z=>k c H2 (e.trans P) z
def Qi(h:lT K tA qA)(h2:lT K tB qB):lT K (tOr tA tB) (qOr qA qB):=λdl H σ q Q R rd hq k=>h dl H σ q _ _ rd hq λb H' e g=>by
 cases b with
 |true=>exact k _ H' e g
 |false=>exact h2 dl H' σ q Q R (rd.evo e) g λc H2 P z=>k c H2 (e.trans P) z
def BE(h:QPT X K a tA qA):QPT X K (.UnaryOp .Not a pos) (P9 tA) (T1 qA):=(Q5 h.h,Mj h.s)
def xx(h:QPT X K a tA qA):QPW X K (.BoolOp .And [a] pos) tA qA:=(Dt h.h,h.s)
def Ik(h:QPT X K a tA qA):QPW X K (.BoolOp .Or [a] pos) tA qA:=(QV h.h,h.s)
def BD(h:QPT X K a tA qA)(h2:QPW X K (.BoolOp .And (b::rest) pos) tB qB):QPW X K (.BoolOp .And (a::b::rest) pos) (Qc tA tB) (Ub qA qB):=(IP h.h h2.h,Mq h.s h2.s)
def De(h:QPT X K a tA qA)(h2:QPW X K (.BoolOp .Or (b::rest) pos) tB qB):QPW X K (.BoolOp .Or (a::b::rest) pos) (tOr tA tB) (qOr qA qB):=(Uc h.h h2.h,Qi h.s h2.s)
theorem QPW.pt(h:QPW X K e tA qA):QPT X K e tA qA:=(h.h.pt,h.s)
def IM(qa qb:QE):QE:=λq Q=>qa q λt=>match t with
 |.b c=>if c=O then qb q Q else Q (.b ϊ)
 |_=>False
def Pk(qa:QE):QE:=λq Q=>qa q λt=>match t with
 |.b c=>Q (.b (!c))
 |_=>False
def HE(h:i3 K ta qa)(h2:kM K tb qb):kM K (Hk ta tb) (IM qa qb):=λdl H σ q Q R rd hq k=>h dl H σ q _ _ rd hq λv t F H' e r g=>by
 split at g
 ·rename_i c;let(U,U):=r.r.bl;refine(c,U,?_);cases c with
  |false=>exact k _ _ [] H' e r bY kc g
  |true=>exact h2 dl H' σ q Q R (rd.evo e) g λw u G H2 e2 P f2 V z=>k w u G H2 (e.trans e2) P (λb hb=>e.free (f2 b hb)) V z
 ·exact g.elim
def Hw(h:i3 K ta qa):kM K (He ta) (Pk qa):=λdl H σ q Q R rd hq k=>h dl H σ q _ _ rd hq λv t F H' e r g=>by
 split at g
 ·rename_i c;let(U,U):=r.r.bl;exact(c,U,k _ _ [] H' e (.c (.b _)) bY kc g)
 ·exact g.elim
def Iu{op}(h:QPF X K a ta qa):QPF X K (.BoolOp op [a] pos) ta qa:=(Rn h.h,h.s)
def IA(ha:QPE X K a ta qa)(g:QPF X K (.BoolOp .And (b::rest) pos) tb qb):QPF X K (.BoolOp .And (a::b::rest) pos) (Hk ta tb) (IM qa qb):=(Rr ha.h g.h,HE ha.s g.s)
def Qw(ha:QPE X K a ta qa):QPF X K (.UnaryOp .Not a pos) (He ta) (Pk qa):=(Ro ha.h,Hw ha.s)
def jD(ha:QPE X K a ta qa):QPF X K (.UnaryOp .USub a pos) (tUn (rU λi=>.int (-i)) ta) (λq Q=>qa q λt=>match t with|.i x=>Q (.i (-x))|_=>False):=(Uo P1 ha.h,λdl H σ q Q R rd hq k=>ha.s dl H σ q _ _ rd hq λv t F H' e r g=>by
 split at g
 ·let(U,U):=r.r.int;exact(_,U,k _ _ [] H' e (.c (.i _)) bY kc g)
 ·exact g.elim)
def cb:QA:=λ_ Q=>Q []
def aD(qa:QE)(ql:QA):QA:=λq Q=>qa q λt=>ql q λts=>Q (t::ts)
def ai:yI X K [] ix cb:=(dC,λdl H σ q Q R rd hq k=>k [] [] [] H (.refl rd.d) (.nil,bY) U bY kc hq)
def yI.w(h:yI X K es tl ql):QPA X K es tl ql:=(h.h,λdl H σ q Q R rd hq k=>h.s dl H σ q Q R rd hq λvs ts F H' e r l _ _ z=>k vs ts F H' e r l z)
theorem Rps.cons(h:Rp K dl H v t F)(r:Rps K dl H vs ts G):Rps K dl H (v::vs) (t::ts) (F++G):=(.cons h.r r.r,λb g=>(i6.mp g).elim (h.n b) (r.n b))
def ae(ha:QPE X K e te qe)(hr:QPA X K es tl ql)(hs:‹AC X e es›):QPA X K (e::es) (di te tl) (aD qe ql):=
 (bX ha.h hr.h hs,λdl H σ q Q R rd hq k=>ha.s dl H σ q _ _ rd hq λv t F H1 g r1 hz=>hr.s dl H1 σ q _ _ (rd.evo g) hz λvs ts G H2 P V l2 z=>k _ _ _ H2 (g.trans P) (.cons (r1.evo g.d P) V) (by simp[l2]) z)
def af(ha:QPF X K e te qe)(hr:yI X K es tl ql)(hs:‹AC X e es›):yI X K (e::es) (di te tl) (aD qe ql):=
 (bX ha.h hr.h hs,λdl H σ q Q R rd hq k=>ha.s dl H σ q _ _ rd hq λv t F H1 g r1 f1 n1 hz=>hr.s dl H1 σ q _ _ (rd.evo g) hz λvs ts G H2 e2 r2 l2 f2 n2 z =>
  k _ _ _ H2 (g.trans e2) (.cons (r1.evo g.d e2) r2) (by simp[l2]) (λb P=>(i6.mp P).elim (f1 b) λP=>g.free (f2 b P)) (uF.mpr (n1,n2,λx hx y hy V=>by
   subst V;exact(r1.r.there x hx).no (f2 x hy))) z)
def iJ(ql:QA):QE:=λq Q=>ql q λts=>Q (.t ts)
def IH(ql:QA):QE:=λq Q=>ql q λts=>Q (.l ts)
def aq(h:yI X K es tl ql)(hz:autoParam (es.length<=1000) zdc._auto_1):QPF X K (.Tuple es P pos) (P6 tl) (iJ ql):=(Jo h.h,λdl H σ q Q R rd hq k=>h.s dl H σ q _ _ rd hq λvs ts F H1 g V l1 f1 n1 z =>
 (uE (aC al),λp hp=>k _ _ F _ (g.new hp) (V.tup g.d hp) f1 n1 z))
def ML(h:QPA X K es tl ql)(hz:autoParam (es.length<=1000) zdc._auto_1):QPE X K (.Tuple es P pos) (P6 tl) (iJ ql):=(Jo h.h,λdl H σ q Q R rd hq k=>h.s dl H σ q _ _ rd hq λvs ts F H1 g V l1 z =>
 (uE (aC al),λp hp=>k _ _ F _ (g.new hp) (V.tup g.d hp) z))
def aO(h:yI X K es tl ql)(hz:autoParam (es.length<=1000) zdc._auto_1):QPF X K (.List es pos) (Qa tl) (IH ql):=(Jq h.h,λdl H σ q Q R rd hq k=>h.s dl H σ q _ _ rd hq λvs ts F H1 P V l1 f1 n1 z =>
 (uE (aC al),λp hp=>k _ _ (p::F) _ (P.new hp) (V.lst P.d hp) (λb g=>by
  obtain e|g:=kO.mp g
  ·rw[e];exact P.free hp
  ·exact f1 b g) (V.fresh hp n1) z))
def my(h:strsOf es=Z ws)(hl:‹es.length=ws.length›):yI X K es (λ_ H Q=>Q (ws.map V.str) H) (λ_ Q=>Q (ws.map T.s)):=
 (Nr h,λdl H σ q Q R rd hq k=>k _ _ [] H (.refl rd.d) (lD ws,bY) (by rw[cO];exact hl.symm) bY kc hq)
def qIx:Q2:=λt u Q=>match u with
 |.i k=>match t with
  |.l xs=>Ex2 (λx=>atI xs k=Z x) Q
  |.t xs=>Ex2 (λx=>atI xs k=Z x) Q
  |.z ns=>Ex3 (λx=>atI ns k=Z x) (λx=>(.i x)) Q
  |.zl xs=>Ex2 (λx=>atI xs k=Z x) Q
  |.s z=>z.length<=kf/\Ex3 (λc=>atI z.cps.toList k=Z c) (λc=>(.s ⟨#[c]⟩)) Q
  |_=>False
 |_=>False
def nL{ys:List β}{x:α}(h:atI xs k=Z x)(hl:xs.length=ys.length):∃j:Nat,xs[j]?=Z x/\ixN ys.length k=Z j:=by
 unfold atI at h;cases e:ixN xs.length k with
 |none=>rw[e]at h;cases h
 |some j=>rw[e]at h;exact(j,h,by rw[<- hl];exact e)
def uv{xs:List α}{x:α}(h:ixN xs.length k=Z j)(hx:xs[j]?=Z x):atI xs k=Z x:=by unfold atI;rw[h];exact hx
def Hz:GH K (rIx K) qIx:=by
 intro dl H x y t u F G Q R D g r2 hq k;unfold qIx at hq
 split at hq
 ·rename_i k0;let(U,U):=r2.r.int;cases t with
  |l xs =>
   let(p,vs,G,U,U,h1,h2):=g.r.lst;let(z,q,hq):=hq;let(j,P,hi):=nL q h2.len.symm;let(v,G',hv,rv,hs):=h2.get P;exact .inl (p,vs,k0,v,U,U,SqL.of h1,uv hi hv,k v z G' H (.refl D) (Rp.sub rv g.n λb hb=>j1 _ (hs b hb)) hq)
  |t xs =>
   let(p,vs,U,h1,h2):=g.r.tup;let(z,q,hq):=hq;let(j,P,hi):=nL q h2.len.symm;let(v,G',hv,rv,hs):=h2.get P;exact .inr (.inl (p,vs,k0,v,U,U,SqT.of h1,uv hi hv,k v z G' H (.refl D) (Rp.sub rv g.n hs) hq))
  |z ns =>
   let(p,U,h1,_):=g.r.scr;let(z,q,hq):=hq;refine .inl (p,_,k0,.int z,U,U,h1.sq,?_,k _ _ [] H (.refl D) (.c (.i _)) hq);let(j,P,hi):=nL (ys:=(_:List Int).map V.int) q (by rw[cO])
   exact uv hi (by rw[fy,P];rfl)
  |zl xs =>
   let(p,o,vs,U,U,h1,h2):=g.r.zls;let(z,q,hq):=hq;let(j,P,hi):=nL q h2.len.symm;let(v,G',hv,rv,hs):=h2.get P;exact .inl (p,vs,k0,v,U,U,.inl (.inr (o,h1)),uv hi hv,k v z G' H (.refl D) (Rp.sub rv g.n hs) hq)
  |s z =>
   let(U,U):=g.r.str;let(hl,c,hc,hq):=hq;exact .inr (.inr (_,k0,c,U,U,hl,hc,k _ _ [] H (.refl D) (.c (.s _)) hq))
  |_=>exact hq.elim
 ·exact hq.elim
def ao(ha:QPE X K a ta qa)(g:QPE X K b tb qb)(hs:kF b:=by intro _ _;rfl)(q:‹X.K=K›):QPE X K (.Subscript a b pos) (tOp (rIx K) ta tb) (qOp qIx qa qb):=(by subst q;exact vT Cc ha.h g.h hs,sx Hz ha.s g.s)
end
variable{A:Db}{E:B->ϋ->Prop}{items:Array B}{Q:B->ϋ->Prop}{p2:Pos}{n:Nat}{r:List V->Hp->VK->Prop}{us:List B}
section
variable{X:Cx}{K:BT}{a b c e:Ev}{es:List Ev}{te:TE}{qe:QE}{tl:TA}{ql:QA}{pos p:Pos}
abbrev QO:=Sq->(Option Int->Prop)->Prop
def WB(K:BT)(t:TO)(tq:QO):Prop:=∀(dl:Dl)(H:Hp)(σ:St)(q:Sq)(Q:Option Int->Prop)(R:Option Int->Hp->Prop),RdR K dl H σ q->tq q Q->(∀o H',Evo dl H H'->Q o->R o H')->t σ H R
structure QPO(X:Cx)(K:BT)(e:Option Ev)(t:TO)(tq:QO):Prop where
 h:PO X e t
 s:WB K t tq
def iH:QPO X K Y CV (λ_ Q=>Q Y):=(Nf,λ_ _ _ _ _ _ rd hq k=>k Y _ (.refl rd.d) hq)
def fI(h:QPE X K e te qe):QPO X K (Z e) (O6 te) (λq Q=>qe q λt=>match t with|.i x=>Q (Z x)|_=>False):=(xI h.h,λdl H σ q Q R rd hq k=>h.s dl H σ q _ _ rd hq λv t F H' e r g=>by
 split at g
 ·let(U,U):=r.r.int;exact(_,U,k _ H' e g)
 ·exact g.elim)
def fj{α:Type}(xs:List α)(lo hi:Option Int):List α:=(xs.drop (HT.sIx xs.length 0 lo)).take (HT.sIx xs.length xs.length hi-HT.sIx xs.length 0 lo)
def aB.cut{vs:List V}(lo hi:Option Int)(h:aB K dl H vs ts F):∃G,aB K dl H (nE vs lo hi) (fj ts lo hi) G/\G.Sublist F:=by
 unfold nE fj;rw[h.len];let(G,h1,s1):=h.drop (HT.sIx ts.length 0 lo);let(g,h2,s2):=h1.take (HT.sIx ts.length ts.length hi-HT.sIx ts.length 0 lo);exact(g,h2,s2.trans s1)
def kI{s:ϋ}{t sl:J}{V P:B}{lo hi:Option Int}(g:IsTup s.heap t items)(hs:s.heap.IsSliceOf sl V P .none)(pl:IsPart V lo)(pu:IsPart P hi)
  (hw:HT.sIx items.size 0 lo=0/\HT.sIx items.size items.size hi=items.size)
  (h:Q (.ref t) s):wpAny (model prog w) A (getItem (.ref t) (.ref sl)) Q E s:=by
 let(os,q,z,ak):=id hs;have K:s.TypeIs (.ref sl) "slice":=(os,q,z);have hT:=g.typeIs;unfold getItem
 try with_reducible refine CF ?_
 refine dF (wpAny_sequenceKey g.typeIs ac ?_)
 refine dF (wpAny_callSpecial?_slot g.typeIs PyProof.Rows.slot_tuple_getitem
  (yK PyProof.Rows.slot_tuple_getitem g.typeIs entry_tuple_getitem ?_ (args_tuple_getitem _ _)))
 show wpAny _ _ (Builtin.Tuple.tupleItemsOf (.ref t) >>= _) _ _ s;refine dF (tupleItemsOf_ g (dF (Lo K (dF (HT.gY hs pl pu ?_)))));have hy:(((HT.sIx items.size 0 lo):Int)==0&&(1:Int)==1&&(HT.sIx items.size items.size hi-HT.sIx items.size 0 lo)==items.size)=true:=by
  rw[hw.1,hw.2];simp
 show wpAny _ _ (if(((HT.sIx items.size 0 lo):Int)==0&&(1)==1&&(HT.sIx items.size items.size hi-HT.sIx items.size 0 lo)==items.size)=O then _ else _) _ _ s
 rw[if_pos hy];exact dF (dF (Lo hT (kb (by exact dF (VQ (kb (_,U,kb h)))))))
inductive Tv(K:BT)(x:V)(lo:Option Int)(hi:Option Int)(H:Hp)(Q:VK):Prop
 |mk(a xs:_)(h1:x=.ref a)(h2:SqT K H a xs)(h3:((HT.sIx xs.length 0 lo=0/\HT.sIx xs.length xs.length hi=xs.length)->Q (.ref a) H))(h4:(¬(HT.sIx xs.length 0 lo=0/\HT.sIx xs.length xs.length hi=xs.length)->∀p,H p=Y->Q (.ref p) (upd H p (.tup (nE xs lo hi)))))
def Mb:SlR X (Tv X.K):=by
 intro gd s σ H x v V P lo hi sl Q I g hs q pu h;let(a,xs,U,hx,q1,q2):=h;by_cases hw:HT.sIx xs.length 0 lo=0/\HT.sIx xs.length xs.length hi=xs.length
 ·cases g;let(its,r,z,hz):=I.tuple hx;have hlen:its.toArray.size=xs.length:=r.length.symm;exact("tuple",_,PyProof.Rows.slot_tuple_getitem.lookup,z.typeIs,kI z hs q pu (by rw[hlen];exact hw) (.ref a,H,I,U,q1 hw))
 ·exact Qg gd s σ H _ v V P lo hi sl Q I g hs q pu (a,xs,U,hx,hw,q2 hw)
def Gv{xs:List α}{lo hi:Option Int}(h:HT.sIx xs.length 0 lo=0/\HT.sIx xs.length xs.length hi=xs.length):fj xs lo hi=xs:=by
 unfold fj;rw[h.1,h.2];simp
def Tz(K:BT):V->Option Int->Option Int->Hp->VK->Prop:=λx lo hi H Q=>Tx K x lo hi H Q\/Tv K x lo hi H Q\/Tw x lo hi H Q
def Vw(g:X.K=K):SlR X (Tz K):=by subst g;exact C4.or (Mb.or Qh)
def qSl(qe:QE)(l u:QO):QE:=λq Q=>qe q λt=>l q λlo=>u q λhi=>match t with
 |.l xs=>T.ims xs=O/\Q (.l (fj xs lo hi))
 |.t xs=>T.ims xs=O/\Q (.t (fj xs lo hi))
 |.z ns=>Q (.l ((fj ns lo hi).map T.i))
 |.zl xs=>Q (.l (fj xs lo hi))
 |.s z=>z.length<=kf/\Q (.s (Txt.slice z lo hi))
 |_=>False
def fh(he:QPE X K e te qe)(hl:QPO X K l ak av)(hu:QPO X K u ar ay)(hK:‹X.K=K›):QPF X K (.Subscript e (.Slice l u Y p2) pos) (tSl (Tz K) te ak ar) (qSl qe av ay):=
 (zy (Vw hK) he.h hl.h hu.h,λdl H σ q Q R rd hq k=>he.s dl H σ q _ _ rd hq λv t F H1 e1 r1 g=>hl.s dl H1 σ q _ _ (rd.evo e1) g λlo H2 e2 g=>hu.s dl H2 σ q _ _ ((rd.evo e1).evo e2) g λhi H3 e3 g=>by
  have r3:=(r1.evo e1.d e2).evo e2.d e3;have P:=(e1.trans e2).trans e3;have no:∀b,b∈([])->H b=none:=bY
  cases t with
  |l xs =>
   let(p,vs,G,U,U,h1,h2):=r3.r.lst;obtain rfl:=h2.im g.1;let(G,h3,s3):=h2.cut lo hi;obtain rfl:=Yi.mp s3;refine .inl (p,vs,U,SqL.of h1,λp hp=>?_)
   have rs:Rps K dl H3 (nE vs lo hi) _ []:=(h3,λc hc=>nomatch hc)
   exact k _ _ _ _ (P.new hp) (rs.lst e3.d hp) (λb hb=>by rw[d2.mp hb];exact P.free hp) ad g.2
  |t xs =>
   let(p,vs,U,h1,h2):=r3.r.tup;obtain rfl:=h2.im g.1;let(G,h3,s3):=h2.cut lo hi;obtain rfl:=Yi.mp s3;refine .inr (.inl (p,vs,U,SqT.of h1,λhw=>?_,λ_ p hp=>?_))
   ·refine k _ _ _ _ P r3 no kc ?_;rw[h2.len]at hw;have aP:=g.2;rw[Gv hw]at aP;exact aP
   ·have rs:Rps K dl H3 (nE vs lo hi) _ []:=(h3,λc hc=>nomatch hc)
    exact k _ _ _ _ (P.new hp) (rs.tup e3.d hp) no kc g.2
  |z ns =>
   let(p,U,h1,_):=r3.r.scr;refine .inl (p,_,U,h1.sq,λp hp=>?_)
   have e:nE (ns.map V.int) lo hi=(fj ns lo hi).map V.int:=by unfold nE fj;rw[cO,<- Ya,<- XI]
   rw[e];have rs:Rps K dl H3 ((fj ns lo hi).map V.int) ((fj ns lo hi).map T.i) []:=(iG _,λc hc=>nomatch hc)
   exact k _ _ _ _ (P.new hp) (rs.lst e3.d hp) (λb hb=>by rw[d2.mp hb];exact P.free hp) ad g
  |zl xs =>
   let(p,o,vs,U,U,h1,h2):=r3.r.zls;let(G,h3,s3):=h2.cut lo hi;obtain rfl:=Yi.mp s3;refine .inl (p,vs,U,.inl (.inr (o,h1)),λp hp=>?_)
   have rs:Rps K dl H3 (nE vs lo hi) _ []:=(h3,λc hc=>nomatch hc)
   exact k _ _ _ _ (P.new hp) (rs.lst e3.d hp) (λb hb=>by rw[d2.mp hb];exact P.free hp) ad g
  |s z =>
   let(U,U):=r3.r.str;exact .inr (.inr (_,U,g.1,k _ _ [] H3 P (.c (.s _)) no kc g.2))
  |_=>exact g.elim)
abbrev QC:=List T->(T->Prop)->Prop
def kN(K:BT)(r:List V->Hp->VK->Prop)(rq:QC):Prop:=∀(dl:Dl)(H:Hp)(vs:List V)(ts:List T)(F:List J)(Q:T->Prop)(R:V->Hp->Prop),Dls dl H->Rps K dl H vs ts F->rq ts Q ->
 (∀v z F' H',Evo dl H H'->Rp K dl H' v z F'->(∀b∈F',H b=Y)->F'.Nodup->Q z->R v H')->r vs H R
def qCB(rq:QC)(ql:QA):QE:=λq Q=>ql q λts=>rq ts Q
def HC{rq:QC}(h:kN K r rq)(hl:OT K n tl ql):kM K (tCB r tl) (qCB rq ql):=λdl H σ q Q R rd hq k=>hl dl H σ q _ _ rd hq λvs ts F H1 P r1 _ g =>
 h dl H1 vs ts F Q R P.d r1 g λv z F' H2 e2 V f2 n2 g=>k v z F' H2 (P.trans e2) V (λb hb=>P.free (f2 b hb)) n2 g
def bA{id:String}{rq:QC}(z:cx X (.builtin id) r)(hs:kN K r rq)(hg:Gl X x)(hm:X.mg x=Y)(hv:bootBuiltins x=Z (.builtin id))(ha:QPA X K (e::es) tl ql)(hn:autoParam (x ≠ "__name__") zdc._auto_1)(q:autoParam (AS x) zdc._auto_1)
  (he:‹AC X e es›) (g:‹AM X pos es›):QPF X K (.Call (.Name x p) (e::es) [] pos) (tCB r tl) (qCB rq ql):=(sW z hg hm hv ha.h hn q he g,HC hs ha.s)
def aL{id:String}{rq:QC}(z:cx X (.type id) r)(hs:kN K r rq)(hg:Gl X x)(hm:X.mg x=Y)(hv:bootBuiltins x=Z (.type id))(ha:QPA X K (e::es) tl ql)(hn:autoParam (x ≠ "__name__") zdc._auto_1)(q:autoParam (AS x) zdc._auto_1)
  (he:‹AC X e es›) (g:‹AM X pos es›):QPF X K (.Call (.Name x p) (e::es) [] pos) (tCB r tl) (qCB rq ql):=(vU z hg hm hv ha.h hn q he g,HC hs ha.s)
def Rps.one(h:Rps K dl H vs [t] F):∃v,vs=[v]/\Rp K dl H v t F:=by
 let(r,n):=h;cases r with
 |cons q g =>
  cases g;rw[qg]at n;rw[qg];exact(_,U,q,n)
def Rps.two(h:Rps K dl H vs [t,u] F):∃v w Q P,vs=[v,w]/\Rp K dl H v t Q/\Rp K dl H w u P:=by
 let(r,n):=h;cases r with
 |cons z q =>
  let(w,U,h2):=Rps.one (q,λb g=>n b (lY _ g))
  exact(_,w,_,_,U,(z,λb g=>n b (pL _ g)),h2)
def Ic(K:BT):List V->Hp->VK->Prop:=λxs H Q=>(∃p ys,xs=[.ref p]/\(SqL K H p ys\/SqT K H p ys)/\Q (.int ys.length) H)\/(∃z,xs=[.str z]/\z.length<=kf/\Q (.int z.length) H)\/∃a kvs,xs=[V.ref a]/\H a=Z (.dK kvs)/\Q (.int kvs.length) H
def GB(g:X.K=K):cx X (.builtin "len") (Ic K):=by subst g;exact nH.or (yB.or GA)
def FA:QC:=λts Q=>on1 ts λt=>match t with
 |.l xs=>Q (.i xs.length)
 |.t xs=>Q (.i xs.length)
 |.z xs=>Q (.i xs.length)
 |.zl xs=>Q (.i xs.length)
 |.d xs=>Q (.i xs.length)
 |.s x=>x.length<=kf/\Q (.i x.length)
 |_=>False
def Mm:kN K (Ic K) FA:=by
 intro dl H vs ts F Q R D r hq k;have fin:∀n,Q (.i n)->R (.int n) H:=λn hq=>k _ _ [] H (.refl D) (.c (.i _)) bY kc hq
 replace hq:=on1.inv hq
 let(t,U,hq):=hq;let(v,U,g):=r.one;cases t with
 |l xs =>
  let(p,vs,G,U,_,h1,h2):=g.r.lst;exact .inl (p,vs,U,.inl (SqL.of h1),fin _ (by rw[h2.len];exact hq))
 |t xs =>
  let(p,vs,U,h1,h2):=g.r.tup;exact .inl (p,vs,U,.inr (SqT.of h1),fin _ (by rw[h2.len];exact hq))
 |z xs =>
  let(p,U,h1,_):=g.r.scr;exact .inl (p,_,U,.inl h1.sq,fin _ (by rw[cO];exact hq))
 |zl xs =>
  let(p,o,vs,U,_,h1,h2):=g.r.zls;exact .inl (p,vs,U,.inl (.inl (.inr (o,h1))),fin _ (by rw[h2.len];exact hq))
 |d xs =>
  let(p,vs,G,U,_,h1,h2):=g.r.dic;exact .inr (.inr (p,vs,U,h1,fin _ (by rw[h2.len];exact hq)))
 |s x =>
  let(U,_):=g.r.str;exact .inr (.inl (_,U,hq.1,fin _ hq.2))
 |_=>exact hq.elim
def qI2(g:Int->Int->Int):QC:=λts Q=>on2 ts λt u=>match t with
 |.i a=>match u with
  |.i b=>Q (.i (g a b))
  |_=>False
 |_=>False
def oC:kN K (λxs H Q=>∃i j,xs=[.int i,.int j]/\Q (.int (g i j)) H) (qI2 g):=by
 intro dl H vs ts F Q R D r hq k
 replace hq:=on2.inv hq
 let(t,u,U,hq):=hq
 split at hq
 ·split at hq
  ·let(v,w,F1,V,U,P,q):=r.two;let(U,_):=P.r.int;let(U,_):=q.r.int;exact(_,_,U,k _ _ [] H (.refl D) (.c (.i _)) bY kc hq)
  ·exact hq.elim
 ·exact hq.elim
def VD:QC:=λts Q=>on1 ts λt=>match t with
 |.i a=>Q (.i a)
 |.b k=>Q (.i (if k then 1 else 0))
 |_=>False
def qV:kN K (λxs H Q=>(∃i,xs=[.int i]/\Q (.int i) H)\/∃k,xs=[.bl k]/\Q (.int (if k then 1 else 0)) H) VD:=by
 intro dl H vs ts F Q R D r hq k
 replace hq:=on1.inv hq
 let(t,U,hq):=hq;cases t with
 |i a =>
  let(v,U,g):=r.one;let(U,_):=g.r.int;exact .inl (_,U,k _ _ [] H (.refl D) (.c (.i _)) bY kc hq)
 |b c =>
  let(v,U,g):=r.one;let(U,_):=g.r.bl;exact .inr (_,U,k _ _ [] H (.refl D) (.c (.i _)) bY kc hq)
 |_=>exact hq.elim
def Qz:QC:=λts Q=>on1 ts λt=>match t with
 |.l xs=>T.ims xs=O/\Q (.t xs)
 |.t xs=>T.ims xs=O/\Q (.t xs)
 |_=>False
def bK(g:X.K=K):cx X (.type "tuple") (λxs H Q=>∃p ys,xs=[.ref p]/\((SqL K H p ys/\∀l,H l=Y->Q (.ref l) (upd H l (.tup ys)))\/(SqT K H p ys/\Q (.ref p) H))):=by subst g;exact vy
def bS:kN K (λxs H Q=>∃p ys,xs=[.ref p]/\((SqL K H p ys/\∀l,H l=Y->Q (.ref l) (upd H l (.tup ys)))\/(SqT K H p ys/\Q (.ref p) H))) Qz:=by
 intro dl H vs ts F Q R D r hq k;have no:∀b,b∈([])->H b=none:=bY
 replace hq:=on1.inv hq
 let(t,U,hq):=hq;cases t with
 |l xs =>
  let(v,U,g):=r.one;let(p,vs,G,U,U,h1,h2):=g.r.lst;obtain rfl:=h2.im hq.1;refine(p,vs,U,.inl (SqL.of h1,λl hl=>?_))
  have rs:Rps K dl H vs _ []:=(h2,λc q=>nomatch q)
  exact k _ _ _ _ ((Evo.refl D).new hl) (rs.tup D hl) no kc hq.2
 |t xs =>
  let(v,U,g):=r.one;let(p,vs,U,h1,h2):=g.r.tup;obtain rfl:=h2.im hq.1;exact(p,vs,U,.inr (SqT.of h1,k _ _ [] H (.refl D) g no kc hq.2))
 |_=>exact hq.elim
def QD:QC:=λts Q=>on1 ts λt=>match t with
 |.l xs=>T.ims xs=O/\Q (.l xs)
 |.t xs=>T.ims xs=O/\Q (.l xs)
 |_=>False
def pH(g:X.K=K):cx X (.type "list") (λxs H Q=>∃p ys,xs=[.ref p]/\(SqL K H p ys\/SqT K H p ys)/\∀l,H l=Y->Q (.ref l) (upd H l (.lst ys))):=by subst g;exact yA
def Fc:kN K (λxs H Q=>∃p ys,xs=[.ref p]/\(SqL K H p ys\/SqT K H p ys)/\∀l,H l=Y->Q (.ref l) (upd H l (.lst ys))) QD:=by
 intro dl H vs ts F Q R D r hq k
 replace hq:=on1.inv hq
 let(t,U,hq):=hq;cases t with
 |l xs =>
  let(v,U,g):=r.one;let(p,vs,G,U,U,h1,h2):=g.r.lst;obtain rfl:=h2.im hq.1;refine(p,vs,U,.inl (SqL.of h1),λl hl=>?_)
  have rs:Rps K dl H vs _ []:=(h2,λc q=>nomatch q)
  exact k _ _ _ _ ((Evo.refl D).new hl) (rs.lst D hl) (λb z=>by rw[d2.mp z];exact hl) ad hq.2
 |t xs =>
  let(v,U,g):=r.one;let(p,vs,U,h1,h2):=g.r.tup;obtain rfl:=h2.im hq.1;refine(p,vs,U,.inr (SqT.of h1),λl hl=>?_)
  have rs:Rps K dl H vs _ []:=(h2,λc q=>nomatch q)
  exact k _ _ _ _ ((Evo.refl D).new hl) (rs.lst D hl) (λb z=>by rw[d2.mp z];exact hl) ad hq.2
 |_=>exact hq.elim
def picks{α:Type}(f:T->Option α):List T->Option (List α)
 |[]=>Z []
 |t::r=>(f t).bind λa=>(picks f r).map (a :: ·)
theorem aB.picks{f:T->Option α}{g:α->V}(hf:∀(v:V)(t:T)(F:List J)(a:α),aK K dl H v t F->f t=Z a->v=g a){vs:List V}(h:aB K dl H vs ts F):∀{bs:List α},L2.picks f ts=Z bs->vs=bs.map g:=
 h.ind (M:=λvs ts F=>∀{bs:List α},L2.picks f ts=Z bs->vs=bs.map g) (λe=>by cases e;rfl) λv t vs ts F G h _ q bs e=>by
  let(a,Q,P):=Yf.mp e;let(as,z,U):=gs.mp P;rw[hf v t F a h Q,q z];rfl
def asB:T->Option Bool
 |.b x=>Z x
 |_=>Y
def asI:T->Option Int
 |.i x=>Z x
 |_=>Y
abbrev bls:List T->Option (List Bool):=picks asB
theorem aB.bls{vs:List V}(h:aB K dl H vs ts F)(e:L2.bls ts=Z bs):vs=bs.map V.bl:=
 h.picks (λv t F a h e=>by cases t <;> first|(cases e;exact h.bl.1)|cases e) e
def VF:QC:=λts Q=>on1 ts λt=>match t with
 |.l xs=>Ex3 (λbs=>bls xs=Z bs) (λbs=>(.b (bs.all id))) Q
 |_=>False
def kE(q:X.K=K)(g:X.calm=O):cx X (.builtin "all") (λxs H Q=>∃(l:J)(bs:List Bool),xs=[.ref l]/\SqL K H l (bs.map V.bl)/\Q (.bl (bs.all id)) H):=by subst q;exact K6 g
def qX:kN K (λxs H Q=>∃(l:J)(bs:List Bool),xs=[.ref l]/\SqL K H l (bs.map V.bl)/\Q (.bl (bs.all id)) H) VF:=by
 intro dl H vs ts F Q R D r hq k
 replace hq:=on1.inv hq
 let(t,U,hq):=hq
 split at hq
 ·let(v,U,g):=r.one;let(p,vs,G,U,U,h1,h2):=g.r.lst;let(bs,q,hq):=hq;have e:=h2.bls q;subst e;exact(p,bs,U,SqL.of h1,k _ _ [] H (.refl D) (.c (.b _)) bY kc hq)
 ·exact hq.elim
def T.tyN:T->Option String
 |.n=>Z "NoneType" |.b _=>Z "bool" |.i _=>Z "int" |.s _=>Z "str" |.l _=>Z "list" |.q=>Z "list" |.t _=>Z "tuple" |.d _=>Z "dict" |_=>Y
def aK.Vu{v:V}{t:T}{n:String}(h:aK K dl H v t F)(e:t.tyN=Z n):kL K H v (.type n):=by
 cases h <;> first|(cases e;constructor;assumption)|(cases e;constructor)|(cases e)
theorem wq(g:X.K=K):cx X (.builtin "isinstance") (λxs H Q=>∃x T t b,xs=[x,.ty T]/\kL K H x t/\W.kitOne K t (.type T)=Z b/\Q (.bl b) H):=by subst g;exact K5
def UI(a b:String):Bool:=a==b ||(a == "bool" && b == "int")
def T5:QC:=λts Q=>match ts with
 |[t,.ty n]=>match t.tyN with
  |some m=>(n == "tuple" || n == "list" || n == "str" || n == "int" || n == "bool" || n == "dict")=O/\Q (.b (UI m n))
  |none=>False
 |_=>False
theorem N9{n m:String}(h:(n == "tuple" || n == "list" || n == "str" || n == "int" || n == "bool" || n == "dict")=O)(hm:m ∈ ["NoneType","bool","int","str","list","tuple","dict"]):W.kitOne K (.type m) (.type n)=Z (UI m n):=by
 simp only[Bool.or_eq_true,beq_iff_eq]at h;simp only[kO,x2,or_false]at hm;obtain((((rfl|rfl)|rfl)|rfl)|rfl)|rfl:=h <;> obtain rfl|rfl|rfl|rfl|rfl|rfl|rfl:=hm <;> rfl
def LZ{t:T}(h:t.tyN=Z m):m ∈ ["NoneType","bool","int","str","list","tuple","dict"]:=by
 cases t <;> cases h <;> decide
theorem C7:kN K (λxs H Q=>∃x T t b,xs=[x,.ty T]/\kL K H x t/\W.kitOne K t (.type T)=Z b/\Q (.bl b) H) T5:=by
 intro dl H vs ts F Q R D r hq k;unfold T5 at hq
 split at hq
 ·let(v,w,V,P,U,q,g):=r.two;have e:=g.r.tyy;subst e
  split at hq
  ·rename_i m em;exact(v,_,_,_,U,q.r.Vu em,N9 hq.1 (LZ em),k _ _ [] H (.refl D) (.c (.b _)) bY kc hq.2)
  ·exact hq.elim
 ·exact hq.elim
def L8(ns:List Int):preSum (λi=>ns.getD i 0) ns.length=ns.sum:=by
 have h:∀n,n<=ns.length->preSum (λi=>ns.getD i 0) n=(ns.take n).sum:=λn=>by
  induction n with
  |zero=>simp[preSum]
  |succ n q =>
   intro hn;have g:=by omega
   show preSum _ n+ns.getD n 0=_;rw[q al,pM,Xn,dN g]
   simp only[Option.toList_some,Yp,CD,List.sum_nil,YZ,Xs]
 rw[h _ (ka _),mu]
def GY{v:B}(r:Vals (ns.map V.int) us)(h:us[i]?=Z v):∃t,v=.int (ns.getD i 0) t:=by
 have hl:=r.length;rw[cO]at hl;have hi:i<ns.length:=by have:=(g5.mp h).1;lia
 let(u,h1,t,h2):=r.get (i:=i) (x:=.int ns[i]) (by simp[hi])
 rw[h]at h1;cases h1;exact(t,by rw[h2];simp[hi])
def fT(hK:X.K=K)(hc:X.calm=O):cx X (.builtin "sum") (λxs H Q=>∃(l:J)(ns:List Int),xs=[.ref l]/\SqL K H l (ns.map V.int)/\Q (.int ns.sum) H):=by
 subst hK;intro gd s σ H xs us Q I r h;let(l,ns,U,hl,q):=h;let(u,U,ru):=vals1 r;cases ru;let(its,rv,z,hz):=I.list hl;have g:l<s.heap.objs.size:=by let(_,e,_):=z.isList;exact j5 e
 have hlen:its.toArray.size=ns.length:=by
  have e:=rv.length;rw[cO]at e;simp[e]
 refine call_sum_walkG (wpAny_pyIter_list z.isList ((s.heap.objs.size,[s.heap.objs.size,l],[s.heap.objs.size],its.toArray.size,_,_,λi=>ns.getD i 0,U,Walks.list (show X.A.in1.handled=Y from I.ok.hd hc) s.heap.objs.size l (ri g) its.toArray,((_,ke _ U,U,U),z.isList.push _),?_,?_,λh' tk t' hk=>?_)))
 ·intro b P;rw[wh];obtain e|P:=kO.mp P
  ·rw[e];exact Xf _
  ·rw[d2.mp P];exact X7 g
 ·intro i v hP;exact GY rv (hP:)
 ·refine(.int ns.sum,H,I.kept λb o e=>hk b o (ri (j5 e):) (fC _ e),(t',?_),q)
  rw[hlen,L8]
abbrev ins:List T->Option (List Int):=picks asI
theorem aB.ins{vs:List V}(h:aB K dl H vs ts F)(e:L2.ins ts=Z bs):vs=bs.map V.int:=
 h.picks (λv t F a h e=>by cases t <;> first|(cases e;exact h.int.1)|cases e) e
def ins_map(bs:List Int):ins (bs.map T.i)=Z bs:=by
 induction bs with
 |nil=>rfl
 |cons b r g=>show(ins (r.map T.i)).map (b :: ·)=_;rw[g];rfl
def VB:QC:=λts Q=>on1 ts λt=>match t with
 |.l xs=>Ex3 (λbs=>ins xs=Z bs) (λbs=>(.i bs.sum)) Q
 |_=>False
def kq:kN K (λxs H Q=>∃(l:J)(ns:List Int),xs=[.ref l]/\SqL K H l (ns.map V.int)/\Q (.int ns.sum) H) VB:=by
 intro dl H vs ts F Q R D r hq k
 replace hq:=on1.inv hq
 let(t,U,hq):=hq
 split at hq
 ·let(v,U,g):=r.one;let(p,vs,G,U,U,h1,h2):=g.r.lst;let(bs,q,hq):=hq;have e:=h2.ins q;subst e;exact(p,bs,U,SqL.of h1,k _ _ [] H (.refl D) (.c (.i _)) bY kc hq)
 ·exact hq.elim
end
structure dP where
 nx:Sq->Prop
 rt:T->Prop
 bk:Sq->Prop:=λ_=>False
 ct:Sq->Prop:=λ_=>False
 ru:Sq->T->Prop:=λ_ _=>False
abbrev QS:=dP->Sq->Prop
def dP.lp(D:dP)(N:Sq->Prop):dP:={D with nx:=N,ct:=N,bk:=D.nx}
def dP.fn(Q:T->Prop):dP:={nx:=λ_=>Q .n,rt:=Q}
structure Frm(dl:Dl)(ba H:Hp):Prop where
 k:∀b o,ba b=Z o->Nd dl b->NR o->H b=Z o
 r:∀a x,ba a=Z (.room x)->∃y,y<=x/\H a=Z (.room y)
variable{ba:Hp}
def Frm.evo(f:Frm dl ba H)(D:Dls dl H):Evo dl ba H:=(f.k,D,f.r)
def Frm.refl:Frm dl H H:=(λ_ _ h _ _=>h,λ_ x h=>(x,E3 _,h))
variable{H':Hp}
def Frm.trans(f:Frm dl ba H)(e:Evo dl H H'):Frm dl ba H':=(λb o h n r=>e.k b o (f.k b o h n r) n r,λa x h=>let(y,q,h1):=f.r a x h;let(z,g,h2):=e.r a y h1;(z,XX g q,h2))
structure Rel(K:BT)(dl:Dl)(ba:Hp)(hs:List (V×T))(H:Hp)(σ:St)(q:Sq)(F:Nat->List J):Prop where
 d:Dls dl H
 g:∀(i:Nat)(x:Sl)(t:T),q[i]?=Z x->x.get=Z t->∃v,σ[i]?=Z (Z v)/\Rp K dl H v t (F i)
 n:∀(i:Nat)(x:Sl),q[i]?=Z x->x.get=Y->F i=[]
 z:∀(i:Nat),q.length<=i->F i=[]
 o:∀(i:Nat)(t:T),q[i]?=Z (.o t)->(F i).Nodup/\(∀b∈F i,ba b=Y)/\(∀j,j≠i->∀b∈F i,b ∉ F j)
 h:∀p∈hs,∃Fp,Rp K dl H p.1 p.2 Fp/\∀(i:Nat)(t:T),q[i]?=Z (.o t)->∀b∈F i,b ∉ Fp
 f:Frm dl ba H
 l:q.length=σ.length
def j7(K:BT)(dl:Dl)(ba:Hp)(hs:List (V×T))(H:Hp)(σ:St)(q:Sq):Prop:=∃F,Rel K dl ba hs H σ q F
variable{F':List J}
section
variable{K:BT}{hs:List (V×T)}{σ:St}{q:Sq}{F:Nat->List J}
def Rel.rd(r:Rel K dl ba hs H σ q F):RdR K dl H σ q:=(r.d,λi x t h1 h2=>let(v,e,p):=r.g i x t h1 h2;(v,F i,e,p))
def Rel.fz(r:Rel K dl ba hs H σ q F)(h:H b=Y):ba b=none:=(r.f.evo r.d).free h
def Rel.iw(r:Rel K dl ba hs H σ q F)(P:b∈F i):gm H b:=by
 by_cases hi:i<q.length
 ·have e:q[i]?=Z q[i]:=by simp[hi]
  cases ex:q[i].get with
  |none=>rw[r.n i _ e ex]at P;cases P
  |some t =>
   let(v,_,p):=r.g i _ t e ex;exact p.r.there b P
 ·rw[r.z i al]at P;cases P
theorem Rel.evo(r:Rel K dl ba hs H σ q F)(e:Evo dl H H'):Rel K dl ba hs H' σ q F where
 d:=e.d
 g:=λi x t h1 h2=>let(v,P,p):=r.g i x t h1 h2;(v,P,p.evo r.d e)
 n:=r.n
 z:=r.z
 o:=r.o
 h:=λp hp=>let(Fp,h1,h2):=r.h p hp;(Fp,h1.evo r.d e,h2)
 f:=r.f.trans e
 l:=r.l
def Ff(F:Nat->List J)(i:Nat)(x:List J):Nat->List Addr:=λj=>if j=i then x else F j
def bJ{x:List J}:Ff F i x i=x:=if_pos U
def bq{x:List J}(h:j≠i):Ff F i x j=F j:=if_neg h
def get_set{xs:List α}{x y:α}(h:(xs.set i x)[j]?=Z y):(j=i/\y=x/\i<xs.length)\/(j≠i/\xs[j]?=Z y):=by
 by_cases e:j=i
 ·subst e;rw[List.getElem?_set_self']at h;by_cases hl:j<xs.length
  ·rw[dN hl]at h;exact .inl (U,(Option.some.inj h).symm,hl)
  ·rw[Ln al]at h;cases h
 ·rw[QL (λz=>e z.symm)]at h
  exact .inr (e,h)
def Rel.put(r:Rel K dl ba hs H σ q F)(hi:i<q.length)(e:Evo dl H H')(hv:Rp K dl H' v t F')(hf:∀b∈F',H b=Y)(hn:F'.Nodup):Rel K dl ba hs H' (σ.set i (Z v)) (q.set i (.o t)) (Ff F i F'):=by
 have r':=r.evo e;have out:∀j,∀b∈F',b ∉ F j:=λj b P Q=>(r.iw Q).no (hf b P)
 refine(e.d,λj x u h1 h2=>?_,λj x h1 h2=>?_,λj Q=>?_,λj u h1=>?_,λp hp=>?_,r'.f,by simp[r.l])
 ·obtain⟨rfl,rfl,_⟩|⟨ne,h1⟩:=get_set h1
  ·cases h2;exact(v,by rw[SU (by rw[<- r.l];exact hi)],by rw[bJ];exact hv)
  ·let(w,h3,h4):=r'.g j x u h1 h2;exact(w,by rw[QL (λz=>ne z.symm)];exact h3,by rw[bq ne];exact h4)
 ·obtain⟨rfl,rfl,_⟩|⟨ne,h1⟩:=get_set h1
  ·cases h2
  ·rw[bq ne];exact r.n j x h1 h2
 ·rw[WE]at Q;rw[bq al]
  exact r.z j Q
 ·obtain⟨rfl,_,_⟩|⟨ne,h1⟩:=get_set h1
  ·rw[bJ];exact(hn,λb P=>r.fz (hf b P),λk hk b P=>by rw[bq hk];exact out k b P)
  ·rw[bq ne];let(o1,o2,o3):=r.o j u h1;refine(o1,o2,λk hk b P=>?_)
   by_cases ek:k=i
   ·subst ek;rw[bJ];exact λz=>out j b z P
   ·rw[bq ek];exact o3 k hk b P
 ·let(Fp,h1,h2):=r.h p hp;refine(Fp,h1.evo r.d e,λj u Q b P z=>?_)
  obtain⟨rfl,_,_⟩|⟨ne,Q⟩:=get_set Q
  ·rw[bJ]at P;exact gm.no (h1.r.there b z) (hf b P)
  ·rw[bq ne]at P;exact h2 j u Q b P z
def Rel.Q0(r:Rel K dl ba hs H σ q F)(hi:i<q.length)(hv:Rp K dl H v t F')(hf:∀(j:Nat)(u:T),q[j]?=Z (.o u)->j≠i->∀b∈F j,b ∉ F'):Rel K dl ba hs H (σ.set i (Z v)) (q.set i (.r t)) (Ff F i F'):=by
 refine(r.d,λj x u h1 h2=>?_,λj x h1 h2=>?_,λj P=>?_,λj u h1=>?_,λp hp=>?_,r.f,by simp[r.l])
 ·obtain⟨rfl,rfl,_⟩|⟨ne,h1⟩:=get_set h1
  ·cases h2;exact(v,by rw[SU (by rw[<- r.l];exact hi)],by rw[bJ];exact hv)
  ·let(w,h3,h4):=r.g j x u h1 h2;exact(w,by rw[QL (λz=>ne z.symm)];exact h3,by rw[bq ne];exact h4)
 ·obtain⟨rfl,rfl,_⟩|⟨ne,h1⟩:=get_set h1
  ·cases h2
  ·rw[bq ne];exact r.n j x h1 h2
 ·rw[WE]at P;rw[bq al]
  exact r.z j P
 ·obtain⟨rfl,e,_⟩|⟨ne,h1⟩:=get_set h1
  ·cases e
  ·rw[bq ne];let(o1,o2,o3):=r.o j u h1;refine(o1,o2,λk hk b Q=>?_)
   have z:=hf j u h1 ne b Q;by_cases ek:k=i
   ·subst ek;rw[bJ];exact z
   ·rw[bq ek];exact o3 k hk b Q
 ·let(Fp,h1,h2):=r.h p hp;refine(Fp,h1,λj u P b Q z=>?_)
  obtain⟨rfl,e,_⟩|⟨ne,P⟩:=get_set P
  ·cases e
  ·rw[bq ne]at Q;exact h2 j u P b Q z
def Rel.hold(r:Rel K dl ba hs H σ q F)(hv:Rp K dl H v t F')(hf:∀(j:Nat)(u:T),q[j]?=Z (.o u)->∀b∈F j,b ∉ F'):Rel K dl ba ((v,t)::hs) H σ q F:=
 (r.d,r.g,r.n,r.z,r.o,λp hp=>by
  obtain e|hp:=kO.mp hp
  ·subst e;exact(F',hv,hf)
  ·exact r.h p hp,r.f,r.l)
def Rel.down(r:Rel K dl ba hs H σ q F)(hi:q[i]?=Z (.o t)):Rel K dl ba hs H σ (q.set i (.r t)) F:=by
 refine(r.d,λj x u h1 h2=>?_,λj x h1 h2=>?_,λj P=>r.z j (by rw[WE]at P;exact P),λj u h1=>?_,λp hp=>?_,r.f,by simp[r.l])
 ·obtain⟨rfl,rfl,_⟩|⟨ne,h1⟩:=get_set h1
  ·cases h2;exact r.g j _ t hi U
  ·exact r.g j x u h1 h2
 ·obtain⟨rfl,rfl,_⟩|⟨ne,h1⟩:=get_set h1
  ·cases h2
  ·exact r.n j x h1 h2
 ·obtain⟨rfl,e,_⟩|⟨ne,h1⟩:=get_set h1
  ·cases e
  ·exact r.o j u h1
 ·let(Fp,h1,h2):=r.h p hp;refine(Fp,h1,λj u P=>?_)
  obtain⟨rfl,e,_⟩|⟨ne,P⟩:=get_set P
  ·cases e
  ·exact h2 j u P
def Rel.write{o:HO}(r:Rel K dl ba hs H σ q F)(hi:q[i]?=Z (.o t))(hv:σ[i]?=Z (Z v))(hp:p∈F i)(ho:∀xs,H p=Z (.lst xs)->∃ys,o=.lst ys)(hr:Rp K dl (upd H p o) v t' F')(hn:F'.Nodup)
  (hf:∀b∈F',b∈F i\/(ba b=Y/\(∀j,b ∉ F j)/\∀w u Fp,Rp K dl H w u Fp->(w,u)∈hs->b ∉ Fp)):Rel K dl ba hs (upd H p o) σ (q.set i (.o t')) (Ff F i F'):=by
 let(o1,o2,o3):=r.o i t hi;have ar:=(g5.mp hi).1;let(v',ak,rp):=r.g i _ t hi U;have pn:=rp.n p hp;have Q:=r.iw hp;have tf:TF H (upd H p o):=(λa vs h=>(by
  rw[au];exact h;intro z;subst z;let(_,e,m):=Q;rw[h]at e;cases e;cases m),λa ob u h=>(by
  rw[au];exact h;intro z;subst z;let(_,e,m):=Q;rw[h]at e;cases e;cases m),λa φ h=>(by
  rw[au];exact h;intro z;subst z;let(_,e,m):=Q;rw[h]at e;cases e;cases m),λa xs h=>(by
  by_cases z:a=p
  ·subst z;let(ys,e):=ho xs h;exact(ys,by rw[az,e])
  ·exact(xs,by rw[au z];exact h)),λa x h=>(x,E3 _,by
  rw[au];exact h;intro z;subst z;let(_,e,m):=Q;rw[h]at e;cases e;cases m))
 have st:∀{w:V}{u:T}{Fw:List J},Rp K dl H w u Fw->p ∉ Fw->Rp K dl (upd H p o) w u Fw:=λ{w u Fw} h np =>
  (h.r.dA tf (λ_ z=>z) λb P ob e=>(by
   have ne:b≠p:=by
    intro z;subst z;exact np P
   rw[au ne];exact e),h.n)
 refine(λd hd=>(r.d d hd).other (pn d hd).1 (pn d hd).2,λj x u h1 h2=>?_,λj x h1 h2=>?_,λj hj=>?_,λj u h1=>?_,λw hw=>?_,(λb ob P nb nr=>?_,λb x P=>?_),by simp[r.l])
 ·obtain⟨rfl,rfl,_⟩|⟨ne,h1⟩:=get_set h1
  ·cases h2;exact(v,hv,by rw[bJ];exact hr)
  ·let(w,h3,h4):=r.g j x u h1 h2;exact(w,h3,by rw[bq ne];exact st h4 (o3 j ne p hp))
 ·obtain⟨rfl,rfl,_⟩|⟨ne,h1⟩:=get_set h1
  ·cases h2
  ·rw[bq ne];exact r.n j x h1 h2
 ·rw[WE]at hj;rw[bq al]
  exact r.z j hj
 ·obtain⟨rfl,e,_⟩|⟨ne,h1⟩:=get_set h1
  ·rw[bJ];refine(hn,λb P=>?_,λk hk b P=>?_)
   ·obtain z|z:=hf b P
    ·exact o2 b z
    ·exact z.1
   ·rw[bq hk];obtain z|z:=hf b P
    ·exact o3 k hk b z
    ·exact z.2.1 k
  ·rw[bq ne];let(p1,p2,p3):=r.o j u h1;refine(p1,p2,λk hk b P=>?_)
   by_cases ek:k=i
   ·subst ek;rw[bJ];intro z;obtain z|z:=hf b z
    ·exact o3 j ne b z P
    ·exact z.2.1 j P
   ·rw[bq ek];exact p3 k hk b P
 ·let(Fp,h1,h2):=r.h w hw;refine(Fp,st h1 (h2 i t hi p hp),λj u hj b P z=>?_)
  obtain⟨rfl,e,_⟩|⟨ne,hj⟩:=get_set hj
  ·rw[bJ]at P;obtain y|y:=hf b P
   ·exact h2 j t hi b y z
   ·exact y.2.2 w.1 w.2 Fp h1 hw z
  ·rw[bq ne]at P;exact h2 j u hj b P z
 ·rw[au]
  ·exact r.f.k b ob P nb nr
  ·intro z;subst z;rw[o2 b hp]at P;cases P
 ·let(y,hy,e):=r.f.r b x P;refine(y,hy,?_);rw[au]
  ·exact e
  ·intro z;subst z;rw[o2 b hp]at P;cases P
end
structure SW(K:BT)(dl:Dl)(ba:Hp)(hs:List (V×T))(Dq:dP)(D:Ends):Prop where
 nx:∀H σ q,j7 K dl ba hs H σ q->Dq.nx q->D.nx σ H
 bk:∀H σ q,j7 K dl ba hs H σ q->Dq.bk q->D.bk σ H
 ct:∀H σ q,j7 K dl ba hs H σ q->Dq.ct q->D.ct σ H
 rt:∀v t F H,Dls dl H->Rp K dl H v t F->(∀b∈F,ba b=Y)->F.Nodup->Frm dl ba H->Dq.rt t->D.rt v H
 ru:∀H σ q F0 v t F,Rel K dl ba hs H σ q F0->Rp K dl H v t F->(∀b∈F,ba b=Y)->F.Nodup->(∀j,∀b∈F,b ∉ F0 j)->Dq.ru q t->D.rt v H
def lU(K:BT)(ts:TS)(qs:QS):Prop:=∀(dl:Dl)(ba:Hp)(hs:List (V×T))(H:Hp)(σ:St)(q:Sq)(Dq:dP)(D:Ends),j7 K dl ba hs H σ q->qs Dq q->SW K dl ba hs Dq D->ts D σ H
structure QPS(X:Cx)(K:BT)(st:EQ)(ts:TS)(qs:QS):Prop where
 h:PS X st ts
 s:lU K ts qs
structure vD(X:Cx)(K:BT)(st:List EQ)(ts:TS)(qs:QS):Prop where
 h:PSs X st ts
 s:lU K ts qs
variable{q:Sq}{pos':Pos}
section
variable{X:Cx}{K:BT}{st:EQ}{rest sa sb:List EQ}{t u:TS}{qt qu:QS}{e c:Ev}{te:TE}{qe:QE}{tc:TT}{qc:QT}{pos:Pos}
def vQ:QS:=λD q=>D.nx q
def dP.seq(D:dP)(u:QS):dP:={D with nx:=u D}
def jF(t u:QS):QS:=λD q=>t (D.seq u) q
def aF:vD X K [] O7 vQ:=(Dw,λ_ _ _ H σ q _ _ r hq E=>E.nx H σ q r hq)
def ag(h1:QPS X K st t qt)(h2:vD X K rest u qu):vD X K (st::rest) (Td t u) (jF qt qu):=(bI h1.h h2.h,λdl ba hs H σ q Dq D r hq E =>
 h1.s dl ba hs H σ q _ _ r hq (λH σ q z g=>h2.s dl ba hs H σ q _ _ z g E,E.bk,E.ct,E.rt,E.ru))
def aj(h1:QPS X K st t qt):vD X K [st] t qt:=(gx h1.h,h1.s)
def aE(he:QPF X K e te qe):QPS X K (.Return (Z e) pos) (P7 te) (λD q=>qe q D.rt):=(sQ he.h,λdl ba hs H σ q Dq D (F,r) hq E =>
 he.s dl H σ q _ _ r.rd hq λv t F' H' g z f1 P Q=>E.rt v t F' H' g.d z (λb V=>r.fz (f1 b V)) P (r.evo g).f Q)
def de(he:PE X e (b8 i)):QPS X K (.Return (Z e) pos) (P7 (b8 i)) (λD q=>match q[i]? with|some (.o t)=>D.rt t|_=>False):=(sQ he,λdl ba hs H σ q Dq D (F,r) hq E=>by
 split at hq
 ·rename_i t z;let(v,hv,P):=r.g i _ t z U;let(o1,o2,Q):=r.o i t z;exact(v,hv,E.rt v t (F i) H r.d P o2 o1 r.f hq)
 ·exact hq.elim)
def BK(c:QT)(t u:QS):QS:=λD q=>c q λb=>if b=O then t D q else u D q
def aT(z:QPT X K c tc qc)(ha:vD X K sa t qt)(P:vD X K sb u qu):QPS X K (.If c sa sb pos) (Te tc t u) (BK qc qt qu):=(Po z.h ha.h P.h,λdl ba hs H σ q Dq D (F,r) hq E =>
 z.s dl H σ q _ _ r.rd hq λb H' Q g=>by
  cases b with
  |true=>exact ha.s dl ba hs H' σ q Dq D (F,r.evo Q) g E
  |false=>exact P.s dl ba hs H' σ q Dq D (F,r.evo Q) g E)
def kG(i:Nat)(qe:QE):QS:=λD q=>qe q λt=>D.nx (q.set i (.o t))
def Rel.IU{t:T}(r:Rel K dl ba hs H σ q F)(e:Evo dl H H')(hv:Rp K dl H' v t F')(hf:∀b∈F',H b=Y)(hn:F'.Nodup):j7 K dl ba hs H' (σ.set i (Z v)) (q.set i (.o t)):=by
 by_cases hi:i<q.length
 ·exact(_,r.put hi e hv hf hn)
 ·have hl:=r.l;rw[Yc al,Yc al]
  exact(F,r.evo e)
def C5(he:kM K te qe):lU K (jm te (gD i)) (kG i qe):=λdl ba hs H σ q Dq D (F,r) hq E=>he dl H σ q _ _ r.rd hq λv t F' H' Q g f1 z P=>E.nx H' _ _ (r.IU Q g f1 z) P
def Qt(g:X.N.Nodup)(hi:X.N[i]?=Z x)(hx:Loc X.env.scope x)(he:QPF X K e te qe)(hs:‹swapsWith e (Z (.Name x pos')) pos.line X.env=pure false›)(hf:AT X x:=by first|exact .inl rfl|exact .inr rfl|assumption):
  QPS X K (.Assign [.Name x pos'] e pos) (jm te (gD i)) (kG i qe):=(jG g hi hx he.h hs hf,C5 he.s)
inductive Vm(tb:QS)(D:dP)(W:Nat->Sq->Prop)(m:Nat)(q:Sq):Prop
 |mk(N:Sq->Prop)(less:∀q',N q'->∃m',m'<m/\W m' q')(body:tb (D.lp N) q)
inductive WhileI(c:QT)(tb:QS)(D:dP)(q:Sq):Prop
 |mk (W:Nat->Sq->Prop) (h0:∃m,W m q) (turn:∀m q,W m q->c q λb=>if b=O then Vm tb D W m q else D.nx q)
def Qx(c:QT)(tb:QS):QS:=λD q=>WhileI c tb D q
def mx(hp:Y3 (model X.prog X.w) X.A X.env X.xe)(P:QPT X K c tc qc)(Q:vD X K rest t qt):QPS X K (.While c rest [] pos) (Bf tc t) (Qx qc qt):=(zp hp P.h Q.h,λdl ba hs H σ q Dq D r hq E=>by
 let(W,(m0,w0),turn):=hq;refine(λm σ H=>∃q,j7 K dl ba hs H σ q/\W m q,(m0,q,r,w0),?_)
 rintro m σ H ⟨q,⟨F,r⟩,w⟩
 refine P.s dl H σ q _ _ r.rd (turn m q w) λb H1 V z=>?_
 cases b with
 |false=>exact E.nx H1 σ q (F,r.evo V) z
 |true =>
  let(N,hN,z):=z;refine(λg H'=>∃q',j7 K dl ba hs H' g q'/\N q',λg H' (q',r',n')=>?_,?_)
  ·let(m',hm,w'):=hN q' n';exact(m',hm,q',r',w')
  ·exact Q.s dl ba hs H1 σ q _ _ (F,r.evo V) z (λH σ q r n=>(q,r,n),λH σ q r n=>E.nx H σ q r n,λH σ q r n=>(q,r,n),E.rt,E.ru))
end
abbrev PSp:=List T->(T->Prop)->Prop
inductive spQ(K:BT)(ps:PSp)(vs:List V)(H:Hp)(Q:VK)(_:XK):Prop
 |mk(dl:Dl)(ts:List T)(F:List J)(Qp:T->Prop)(h1:Dls dl H)(h2:Rps K dl H vs ts F)(h3:ps ts Qp)(h4:∀v t F' H',Evo dl H H'->Rp K dl H' v t F'->(∀b∈F',H b=Y)->F'.Nodup->Qp t->Q v H')
section
variable{X:Cx}{K:BT}{e:Ev}{es:List Ev}{tl:TA}{ql:QA}{pos p:Pos}{k:Nat}{f:J}{fd:Ch}{prs:List Str}{ps:PSp}
def dq(ps:PSp)(ql:QA):QE:=λq Q=>ql q λts=>ps ts Q
def HD(ha:OT K n tl ql):kM K (CW (spQ K ps) [] E0 tl) (dq ps ql):=λdl H σ q Q R rd hq k=>ha dl H σ q _ _ rd hq λvs ts F H1 z P _ g=>by
 rw[qg];exact(dl,ts,F,Q,z.d,P,g,λv t F' H' e r f n g=>k v t F' H' (z.trans e) r (λb V=>z.free (f b V)) n g)
theorem MR(F:bf X.prog X.w X.K X.mg X.base CX0 k f fd prs (spQ K ps))(hr:eC k X.A)(hg:Gl X x)(hm:X.mg x=Z (.ref f))(hk:W.keepIn X.K (.ref f)=O)(z:Binds X.K fd prs [])(ha:QPA X K (e::es) tl ql)
  (q:autoParam (AS x) zdc._auto_1) (he:‹AC X e es›) (g:‹AM X pos es›):
  QPF X K (.Call (.Name x p) (e::es) [] pos) (CW (spQ K ps) [] E0 tl) (dq ps ql):=(DF F hr hg hm hk z .nil Jv ha.h q he g,HD ha.s)
end
theorem vO{K:BT}(D:Dls dl H)(r:Rps K dl H vs ts F)(hn:vs.length<=n):j7 K dl H [] H (vs.map Z++tr (n-vs.length) Y) (ts.map Sl.r++tr (n-vs.length) .no):=by
 have hl:=r.r.len;have main:∀{vs:List V}{ts:List T}{F:List J},aB K dl H vs ts F->(∀b∈F,Nd dl b)->∃g:Nat->List J,(∀i t,ts[i]?=Z t->∃v,vs[i]?=Z v/\Rp K dl H v t (g i))/\∀i,ts.length<=i->g i=[]:=by
  intro vs ts F h
  induction ts generalizing vs F with
  |nil=>intro _;exact(λ_=>[],λi t e=>by simp at e,λ_ _=>rfl)
  |cons t ts ih =>
   cases h with
   |@cons v0 _ ak _ F1 G1 h1 h2 =>
    intro hn;let(g,g1,g2):=ih h2 λb P=>hn b (lY _ P)
    refine(λi=>match i with | 0=>F1|i+1=>g i,λi u e=>?_,λi hi=>?_)
    ·cases i with
     |zero =>
      simp at e;subst e;exact(_,ad,h1,λb P=>hn b (pL _ P))
     |succ i =>
      let(v,q,Q):=g1 i u (e:)
      exact(v,(q:),Q)
    ·cases i with
     |zero=>simp at hi
     |succ i=>exact g2 i (hi:)
 let(g,g1,g2):=main r.r r.n;have lk:∀i y,(ts.map Sl.r++tr (n-vs.length) Sl.no)[i]?=Z y->(∃t,ts[i]?=Z t/\y=.r t)\/(ts.length<=i/\y=.no):=λi y h=>by
  by_cases hi:i<ts.length
  ·rw[ui (hi:),fy,dN hi]at h
   exact .inl (ts[i],ad,(Option.some.inj h).symm)
  ·rw[uD (hi:),Yd]at h
   split at h
   ·exact .inr (al,(Option.some.inj h).symm)
   ·cases h
 refine(g,D,λi y t h1 h2=>?_,λi y h1 h2=>?_,λi hi=>?_,λi t h1=>?_,λp hp=>(by cases hp),.refl,by simp[hl])
 ·obtain⟨u,e,rfl⟩|⟨_,rfl⟩:=lk i y h1
  ·cases h2;let(v,q,Q):=g1 i t e;refine(v,?_,Q);have hi:=(g5.mp q).1;rw[ui (hi:),fy,q]
   rfl
  ·cases h2
 ·obtain⟨u,e,rfl⟩|⟨hi,rfl⟩:=lk i y h1
  ·cases h2
  ·exact g2 i hi
 ·refine g2 i ?_;simp at hi
  lia
 ·obtain⟨u,e,z⟩|⟨_,z⟩:=lk i _ h1 <;> cases z
variable{P:Da}{mg:Str->Option B}{base:Do}{qual:Str}{st:EQ}{fd:Ch}{N:List Str}{ps:List Str}
theorem Fun.okQ{K:BT}(F:Fun K x qual st f fd)(S:aG N ps (ax st))
  (t7:∀(cdv:B)(A:Db)(outer:List Env)(s:ϋ)(H:Hp)(E:XK),eC k (A.deeper (envOfC qual (ax st) s.heap.objs.size f cdv)) ->
   ∃t qs,vD (yy CX0 P w K mg base N qual (ax st) f cdv A outer s H E).nox K (cq st) t qs/\∀ts Q,g ts Q->qs (.fn Q) (ts.map Sl.r++tr (N.length-ts.length) .no))(len:∀ts Q,g ts Q->ts.length=ps.length:=by intro _ _ h;cases h;subst_vars;rfl):bf P w K mg base CX0 (k+1) f fd ps (spQ K g):=by
 have ak:=by have:=congrArg Ez S.pre;rw[p7]at this;omega
 refine F.ok S (λvs H Q E h=>?_) (λcdv A outer s H vs Q E hr h=>?_)
 ·let(dl,ts,F,Qp,_,r,h,_):=h;rw[r.r.len];exact len ts Qp h
 ·let(dl,ts,Fp,Qp,D,r,h,fin):=h;let(t,qs,hb,hq):=t7 cdv A outer s H E hr;refine(t,hb.h,?_);have hlen:=len ts Qp h;have hl:=r.r.len;have z:=hq ts Qp h;have R:=vO (n:=N.length) D r al
  rw[<- hl]at z;refine hb.s dl H [] H _ _ _ _ R z (λH' σ q (F,r') V=>?_,λ_ _ _ _ V=>V.elim,λ_ _ _ _ V=>V.elim,λv t F H' D' r' f' n' fr V=>?_,λ_ _ _ _ _ _ _ _ _ _ _ _ z=>z.elim)
  ·exact fin .non .n [] H' (r'.f.evo r'.d) (.n,bY) bY kc V
  ·exact fin v t F H' (fr.evo D') r' f' n' V
structure vE(K:BT)(dl:Dl)(Zb:It)(xs:List T)(hv:List (V×T)):Prop where
 go:∀(H:Hp)(i:Nat),Dls dl H->(∀p∈hv,∃F,Rp K dl H p.1 p.2 F)->i<xs.length->Zb.go i H
 yld:∀(H:Hp)(i:Nat)(x:T)(fp:V×T->List J)(v:V)(H':Hp),Dls dl H->(∀p∈hv,Rp K dl H p.1 p.2 (fp p))->xs[i]?=Z x->Zb.yld i H v H'->Evo dl H H'/\∃F,Rp K dl H' v x F/\∀b∈F,H b=Y\/∃p∈hv,b∈fp p
 stop:∀(H:Hp),Dls dl H->(∀p∈hv,∃F,Rp K dl H p.1 p.2 F)->Zb.stop xs.length H
variable{lo:Int}
section
variable{X:Cx}{K:BT}
def mY:vE K dl (Itl K a) xs [(.ref a,.l xs)] where
 go:=λH i D h hi=>by
  let(F,r):=h _ (d2.mpr U);let(p,vs,G,e,_,h1,h2):=r.r.lst;cases e;exact(vs,vs[i]'(by rw[h2.len];exact hi),SqL.of h1,by simp[hi])
 yld:=λH i x fp v H' D h hx y=>by
  have r:=h _ (d2.mpr U);let(p,vs,G,e,Q,h1,h2):=r.r.lst;cases e;let(U,y):=y;let(w,P,hw,q,hs):=h2.get hx;have z:=y vs (SqL.of h1);rw[hw]at z;cases z;have sub:∀b∈P,b∈fp (V.ref a,T.l xs):=λb g=>by
   rw[Q];exact j1 _ (hs b g)
  exact(.refl D,P,(q,λb g=>r.n b (sub b g)),λb g=>.inr (_,d2.mpr U,sub b g))
 stop:=λH D h=>by
  let(F,r):=h _ (d2.mpr U);let(p,vs,G,e,_,h1,h2):=r.r.lst;cases e;exact(vs,SqL.of h1,by rw[h2.len];exact ka _)
def PB:vE K dl (Itl K a) xs [(.ref a,.zl xs)] where
 go:=λH i D h hi=>by
  let(F,r):=h _ (d2.mpr U);let(p,o,vs,e,_,h1,h2):=r.r.zls;cases e;exact(vs,vs[i]'(by rw[h2.len];exact hi),.inl (.inr (o,h1)),by simp[hi])
 yld:=λH i x fp v H' D h hx y=>by
  have r:=h _ (d2.mpr U);let(p,o,vs,e,Q,h1,h2):=r.r.zls;cases e;let(U,y):=y;let(w,P,hw,g,hs):=h2.get hx;have z:=y vs (.inl (.inr (o,h1)));rw[hw]at z;cases z;exact(.refl D,P,(g,λb q=>nomatch hs b q),λb q=>nomatch hs b q)
 stop:=λH D h=>by
  let(F,r):=h _ (d2.mpr U);let(p,o,vs,e,_,h1,h2):=r.r.zls;cases e;exact(vs,.inl (.inr (o,h1)),by rw[h2.len];exact ka _)
def Ce:vE K dl (Itt K a) xs [(.ref a,.t xs)] where
 go:=λH i D h hi=>by
  let(F,r):=h _ (d2.mpr U);let(p,vs,e,h1,h2):=r.r.tup;cases e;exact(vs,vs[i]'(by rw[h2.len];exact hi),SqT.of h1,by simp[hi])
 yld:=λH i x fp v H' D h hx y=>by
  have r:=h _ (d2.mpr U);let(p,vs,e,h1,h2):=r.r.tup;cases e;let(U,y):=y;let(w,P,hw,g,hs):=h2.get hx;have z:=y vs (SqT.of h1);rw[hw]at z;cases z;exact(.refl D,P,(g,λb q=>r.n b (hs b q)),λb q=>.inr (_,d2.mpr U,hs b q))
 stop:=λH D h=>by
  let(F,r):=h _ (d2.mpr U);let(p,vs,e,h1,h2):=r.r.tup;cases e;exact(vs,SqT.of h1,by rw[h2.len];exact ka _)
def Kc:vE K dl (Itr lo n) ((AK n).map λi=>.i (lo+(i:Nat))) [] where
 go:=λH i D h hi=>by
  show i<n;simpa using hi
 yld:=λH i x fp v H' D h hx y=>by
  let(U,U):=y;rw[fy]at hx;cases e:(AK n)[i]? with
  |none=>rw[e]at hx;cases hx
  |some j =>
   rw[e]at hx;have g:j=i:=by
    have:=g5.mp e
    let(h1,h2):=this;simp at h2;exact h2.symm
   subst g;cases hx;exact(.refl D,[],.c (.i _),bY)
 stop:=λH D h=>by show n<=_;simp
abbrev QI:=Sq->(List T->Prop)->Prop
def Vo(K:BT)(wi:TI)(iq:QI):Prop:=∀(dl:Dl)(H:Hp)(σ:St)(q:Sq)(Q:List T->Prop)(R:It->Hp->Prop),RdR K dl H σ q->iq q Q ->
 (∀xs Zb hv H',Evo dl H H'->vE K dl Zb xs hv->(∀p∈hv,∃F,Rp K dl H' p.1 p.2 F)->Q xs->R Zb H')->wi σ H R
structure QPI(X:Cx)(K:BT)(tg iter:Ev)(wi:TI)(iq:QI):Prop where
 h:PI X tg iter wi
 s:Vo K wi iq
abbrev QJ:=Sq->(List T->Sq->Prop)->Prop
def WC(K:BT)(wi:TI)(iq:QJ):Prop:=∀(dl:Dl)(ba:Hp)(hs:List (V×T))(H:Hp)(σ:St)(q:Sq)(Q:List T->Sq->Prop)(R:It->Hp->Prop),j7 K dl ba hs H σ q->iq q Q ->
 (∀xs Zb hv H' q',j7 K dl ba (hv++hs) H' σ q'->vE K dl Zb xs hv->Q xs q'->R Zb H')->wi σ H R
structure QPJ(X:Cx)(K:BT)(tg iter:Ev)(wi:TI)(iq:QJ):Prop where
 h:PI X tg iter wi
 s:WC K wi iq
variable{tg e a b:Ev}{te:TE}{qe:QE}{tl:TA}{ql:QA}{pos p:Pos}
def mG(g:X.K=K)(h:PE X e te):PI X tg e (wc K te):=by subst g;exact rB h
def xK(g:X.K=K)(h:PE X e te):PI X tg e (Ki K te):=by subst g;exact Rl h
def asL(qe:QE):QI:=λq Q=>qe q λt=>match t with|.l xs=>Q xs|.zl xs=>Q xs|_=>False
def asT(qe:QE):QI:=λq Q=>qe q λt=>match t with|.t xs=>Q xs|_=>False
def eZ(h:QPE X K e te qe)(P:‹X.K=K›):QPI X K tg e (wc K te) (asL qe):=(mG P h.h,λdl H σ q Q R rd hq k=>h.s dl H σ q _ _ rd hq λv t F H' z r g=>by
 split at g
 ·let(p,vs,G,U,U,h1,h2):=r.r.lst;exact(p,U,(vs,SqL.of h1),k _ _ _ H' z mY (λp hp=>by rw[d2.mp hp];exact(_,r)) g)
 ·let(p,o,vs,U,U,h1,h2):=r.r.zls;exact(p,U,(vs,.inl (.inr (o,h1))),k _ _ _ H' z PB (λp hp=>by rw[d2.mp hp];exact(_,r)) g)
 ·exact g.elim)
def dZ(h:QPE X K e te qe)(z:‹X.K=K›):QPI X K tg e (Ki K te) (asT qe):=(xK z h.h,λdl H σ q Q R rd hq k=>h.s dl H σ q _ _ rd hq λv t F H' P r g=>by
 split at g
 ·let(p,vs,U,h1,h2):=r.r.tup;exact(p,U,(vs,SqT.of h1),k _ _ _ H' P Ce (λp hp=>by rw[d2.mp hp];exact(_,r)) g)
 ·exact g.elim)
def Ft(lo:Int)(n:Nat):List T:=(AK n).map λi=>.i (lo+(i:Nat))
def jB{x:T}(h:(Ft lo n)[i]?=Z x):x=.i (lo+(i:Nat))/\i<n:=by
 unfold Ft at h;rw[fy]at h;let(j,g,U):=gs.mp h;let(h1,h2):=g5.mp g;simp at h1 h2;subst h2;exact(U,h1)
def dX:(Ft lo n).length=n:=by simp[Ft]
def Vf(ql:QA):QI:=λq Q=>ql q λts=>on1 ts λt=>match t with|.i n=>-(2 ^ 62)<=n/\n<2 ^ 62/\Q (Ft 0 n.toNat)|_=>False
def oO(hg:Gl X "range")(hm:X.mg "range"=Y)(ha:QPA X K [a] tl ql)(hs:‹AD X a›):QPI X K tg (.Call (.Name "range" p) [a] [] pos) (Kj tl) (Vf ql):=(vS hg hm ha.h hs,λdl H σ q Q R rd hq k=>ha.s dl H σ q _ _ rd hq λvs ts F H' V r _ g=>by
 replace g:=on1.inv g
 let(t,U,g):=g
 split at g
 ·let(v,U,P):=r.one;let(U,_):=P.r.int;exact(_,U,g.1,g.2.1,k _ _ [] H' V Kc bY g.2.2)
 ·exact g.elim)
def asJ(iq:QI):QJ:=λq Q=>iq q λxs=>Q xs q
def fS(hg:Gl X "range")(hm:X.mg "range"=Y)(ha:QPA X K [a] tl ql)(hs:‹AD X a›):QPJ X K tg (.Call (.Name "range" p) [a] [] pos) (Kj tl) (asJ (Vf ql)):=(vS hg hm ha.h hs,λdl ba hs H σ q Q R (F0,z) hq k=>ha.s dl H σ q _ _ z.rd hq λvs ts F H' V r _ g=>by
 replace g:=on1.inv g
 let(t,U,g):=g
 split at g
 ·let(v,U,P):=r.one;let(U,_):=P.r.int;exact(_,U,g.1,g.2.1,k _ _ [] H' q (F0,z.evo V) Kc g.2.2)
 ·exact g.elim)
def xB(h:QPF X K e te qe)(hK:‹X.K=K›):QPJ X K tg e (wc K te) (asJ (asL qe)):=(mG hK h.h,λdl ba hs H σ q Q R (F0,g) hq k=>h.s dl H σ q _ _ g.rd hq λv t F H' e1 r f n P=>by
 split at P
 ·have V:=(g.evo e1).hold r λj u hj b hb z=>(g.iw hb).no (f b z)
  let(p,vs,G,U,U,h1,h2):=r.r.lst;exact(p,U,(vs,SqL.of h1),k _ _ _ H' q (F0,V) mY P)
 ·have V:=(g.evo e1).hold r λj u hj b hb z=>(g.iw hb).no (f b z)
  let(p,o,vs,U,U,h1,h2):=r.r.zls;exact(p,U,(vs,.inl (.inr (o,h1))),k _ _ _ H' q (F0,V) PB P)
 ·exact P.elim)
def eR(h:QPF X K e te qe)(hK:‹X.K=K›):QPJ X K tg e (Ki K te) (asJ (asT qe)):=(xK hK h.h,λdl ba hs H σ q Q R (F0,g) hq k=>h.s dl H σ q _ _ g.rd hq λv t F H' e1 r f n P=>by
 split at P
 ·have V:=(g.evo e1).hold r λj u hj b hb z=>(g.iw hb).no (f b z)
  let(p,vs,U,h1,h2):=r.r.tup;exact(p,U,(vs,SqT.of h1),k _ _ _ H' q (F0,V) Ce P)
 ·exact P.elim)
def asN(i:Nat):QJ:=λq Q=>match q[i]? with
 |some (.o (.l xs))=>Q xs (q.set i (.r (.l xs)))
 |some (.r (.l xs))=>Q xs q
 |_=>False
def Dg(h:PE X e (b8 i))(hK:‹X.K=K›):QPJ X K tg e (wc K (b8 i)) (asN i):=(mG hK h,λdl ba hs H σ q Q R (F0,V) hq k=>by
 unfold asN at hq
 split at hq
 ·rename_i xs e1;let(v,hv,r):=V.g i _ _ e1 U;have r1:=(V.down e1).hold r λj u P b hb=>by
   obtain⟨_,z,_⟩|⟨ne,P⟩:=get_set P
   ·cases z
   ·exact(V.o j u P).2.2 i (λz=>ne z.symm) b hb
  let(p,vs,G,U,_,h1,h2):=r.r.lst;exact(_,hv,p,U,(vs,SqL.of h1),k _ _ _ H _ (F0,r1) mY hq)
 ·rename_i xs e1;let(v,hv,r):=V.g i _ _ e1 U;have r1:=V.hold r λj u P b hb=>(V.o j u P).2.2 i (λz=>by subst z;rw[e1]at P;cases P) b hb
  let(p,vs,G,U,_,h1,h2):=r.r.lst;exact(_,hv,p,U,(vs,SqL.of h1),k _ _ _ H _ (F0,r1) mY hq)
 ·exact hq.elim)
inductive Tg where
 |nm(i:Nat)|tp (is:List Nat)
def u9(q:Sq):List Nat->List T->Option Sq
 |[],[]=>Z q
 |i::is,x::xs=>if i<q.length then u9 (q.set i (.r x)) is xs else Y
 |_,_=>Y
def Tg.put(g:Tg)(x:T)(q:Sq):Option Sq:=match g with
 |.nm i=>if i<q.length then Z (q.set i (.r x))else Y
 |.tp is=>match x with|.t xs=>u9 q is xs|_=>Y
def yi:List Nat->TGs
 |[]=>Sf
 |i::is=>D4 (gD i) (yi is)
def Tg.h(K:BT):Tg->TG
 |.nm i=>gD i
 |.tp is=>Oq K is.length (yi is)
def Fx:∀{vs:List V}{xs:List T}{G:List J}{σ:St}{q q':Sq}{F:Nat->List J}{R:St->Hp->Prop},Rel K dl ba hs H σ q F->aB K dl H vs xs G->(∀b∈G,Nd dl b) ->
  (∀(j:Nat)(u:T),q[j]?=Z (.o u)->∀b∈F j,b ∉ G)->u9 q is xs=Z q'->(∀P,j7 K dl ba hs H P q'->R P H)->yi is vs σ H R:=by
 induction is with
 |nil =>
  intro vs xs G σ q q' F R r rs _ _ hp k;cases xs with
  |cons _ _=>cases hp
  |nil =>
   cases rs;cases hp;exact(U,k σ (F,r))
 |cons i is ih =>
  intro vs xs G σ q q' F R r rs hn ho hp k;cases xs with
  |nil=>cases hp
  |cons x xs =>
   cases rs with
   |cons r1 r2 =>
    unfold u9 at hp;by_cases hi:i<q.length
    ·rw[if_pos hi]at hp;refine(_,_,U,?_);have r':=r.Q0 hi (r1,λb g=>hn b (pL _ g)) λj u Q _ b g z=>ho j u Q b g (pL _ z)
     refine ih r' r2 (λb g=>hn b (lY _ g)) (λj u Q b g z=>?_) hp k
     obtain⟨_,z',_⟩|⟨ne,Q⟩:=get_set Q
     ·cases z'
     ·rw[bq ne]at g;exact ho j u Q b g (lY _ z)
    ·rw[if_neg hi]at hp;cases hp
variable{g:Tg}
def xv{x:T}{σ:St}{q':Sq}{F:Nat->List J}{R:St->Hp->Prop}(r:Rel K dl ba hs H σ q F)(P:Rp K dl H v x G)
  (ho:∀(j:Nat)(u:T),q[j]?=Z (.o u)->∀b∈F j,b ∉ G) (hp:g.put x q=Z q') (k:∀z,j7 K dl ba hs H z q'->R z H):g.h K v σ H R:=by
 cases g with
 |nm i =>
  replace hp:(if i<q.length then Z (q.set i (.r x))else Y)=Z q':=hp
  by_cases hi:i<q.length
  ·rw[if_pos hi]at hp;cases hp;exact k _ (_,r.Q0 hi P λj u hj _=>ho j u hj)
  ·rw[if_neg hi]at hp;cases hp
 |tp is =>
  cases x with
  |t xs =>
   let(p,vs,U,h1,h2):=P.r.tup;have hl:∀{is:List Nat}{xs:List T}{q q':Sq},u9 q is xs=Z q'->xs.length=is.length:=λ{is}=>by
    induction is with
    |nil=>intro xs q q' h;cases xs with
     |nil=>rfl
     |cons _ _=>cases h
    |cons i is Q=>intro xs q q' h;cases xs with
     |nil=>cases h
     |cons x xs =>
      unfold u9 at h;by_cases hi:i<q.length
      ·rw[if_pos hi]at h;simp[Q h]
      ·rw[if_neg hi]at h;cases h
   exact(p,vs,U,SqT.of h1,by rw[h2.len];exact hl hp,Fx r h2 P.n ho hp k)
  |_=>cases hp
end
variable{tg:Ev}{iter:Ev}{body:List EQ}{g:Tg}{cap:List (Option Nat)}{iq:QI}{tst:TT}{oM:QT}{te:TE}{qe:QE}{N':List Str}{sc:Scope}{elt:Ev}{ifs:List Ev}
section
variable{X:Cx}{K:BT}{hs:List (V×T)}{σ:St}{F:Nat->List J}
def Rel.wN(r:Rel K dl ba (hv++hs) H σ q F):Rel K dl ba hs H σ q F:=(r.d,r.g,r.n,r.z,r.o,λp hp=>r.h p (lY _ hp),r.f,r.l)
def Rel.fps(r:Rel K dl ba (hv++hs) H σ q F):∃fp:V×T->List J,∀p∈hv,Rp K dl H p.1 p.2 (fp p)/\∀(i:Nat)(t:T),q[i]?=Z (.o t)->∀b∈F i,b ∉ fp p:=by
 classical
 refine(λp=>if h:p∈hv then(r.h p (pL _ h)).choose else [],λp hp=>?_)
 have z:=(r.h p (pL _ hp)).choose_spec;simp only[dif_pos hp];exact z
inductive WI(g:Tg)(qb:QS)(D:dP)(xs:List T)(q0:Sq):Prop
 |mk(I:Nat->Sq->Prop)(h0:I 0 q0)(step:∀i x q,xs[i]?=Z x->I i q->∃q',g.put x q=Z q'/\qb (D.lp (I (i+1))) q')(fin:∀q,I xs.length q->D.nx q)
def VE(iq:QJ)(g:Tg)(qb:QS):QS:=λD q=>iq q λxs q0=>WI g qb D xs q0
def bb{iq:QJ}(hp:Y3 (model X.prog X.w) X.A X.env X.xe)(hc:X.calm=O)(hi:QPJ X K tg iter wi iq)(hg:PG X tg (g.h K))(hb:vD X K body tb qb)
  (hs:∀x,foldedSetIterable iter X.env x=pure x:=by intro _;rfl):QPS X K (.For tg iter body [] pos) (Tf wi (g.h K) tb) (VE iq g qb):=(IZ hp hc hi.h hg hb.h hs,λdl ba hs H σ q Dq D r hq E=>by
 refine hi.s dl ba hs H σ q _ _ r hq λxs Zb hv H1 q1 r1 it hz=>?_
 let(I,i0,turn,fin):=hz;refine(λi m σ H=>m=xs.length-i/\i<=xs.length/\∃q,j7 K dl ba (hv++hs) H σ q/\I i q,(xs.length,ad,v5 _,q1,r1,i0),?_)
 rintro i m σ H ⟨rfl,av,q,⟨F,r⟩,hI⟩
 have held:∀p∈hv,∃F,Rp K dl H p.1 p.2 F:=λp hp=>let(Fp,h,_):=r.h p (pL _ hp);(Fp,h)
 by_cases P:i<xs.length
 ·refine .inr (it.go H i r.d held P,λQ H'=>∃q,j7 K dl ba (hv++hs) H' Q q/\I (i+1) q,λQ H' h=>(xs.length-(i+1),al,U,P,h),λv H' y=>?_)
  let(fp,V):=r.fps;have hx:xs[i]?=Z xs[i]:=by simp[P]
  let(e1,G,rx,hG):=it.yld H i xs[i] fp v H' r.d (λp hp=>(V p hp).1) hx y
  let(q',ar,hz):=turn i xs[i] q hx hI;refine xv (r.evo e1) rx (λj u hj b hb z=>?_) ar λak r2=>hb.s dl ba (hv++hs) H' ak q' _ _ r2 hz (λH σ q r n=>(q,r,n),λH σ q (F,r) n=>E.nx H σ q (F,r.wN) n,λH σ q r n=>(q,r,n),E.rt,λH σ q F0 v t F r=>E.ru H σ q F0 v t F r.wN)
  obtain h |⟨p,hp,h⟩:=hG b z
  ·exact(r.iw hb).no h
  ·exact(V p hp).2 j u hj b hb h
 ·have e:i=xs.length:=al
  subst e;exact .inl (it.stop H r.d held,E.nx H σ q (F,r.wN) (fin q hI)))
def jY(cap:List (Option Nat))(q:Sq):Sq:=cap.map λo=>match o with
 |none=>.no
 |some i=>match q[i]? with
  |some (.o t)=>.r t
  |some (.r t)=>.r t
  |_=>.no
def MC(r:RdR K dl H σ q):RdR K dl H (nF cap σ) (jY cap q):=(r.d,λj x t h1 h2=>by
 unfold jY at h1;rw[fy]at h1;cases e:cap[j]? with
 |none=>rw[e]at h1;cases h1
 |some o =>
  rw[e]at h1;cases o with
  |none=>cases h1;cases h2
  |some i =>
   have go:∀y,q[i]?=Z y->y.get=Z t->∃v F,(nF cap σ)[j]?=Z (Z v)/\Rp K dl H v t F:=λy z P=>by
    let(v,F,h3,h4):=r.g i y t z P;refine(v,F,?_,h4);unfold nF;rw[fy,e];show Z ((σ[i]?).join)=_;rw[h3];rfl
   replace h1:(match q[i]? with|some (.o t)=>Sl.r t|some (.r t)=>.r t|_=>.no)=x:=Option.some.inj h1
   split at h1
   ·rename_i u eq;subst h1;cases h2;exact go _ eq U
   ·rename_i u eq;subst h1;cases h2;exact go _ eq U
   ·subst h1;cases h2)
theorem RdR.set{x:T}(r:RdR K dl H σ q)(hl:i < σ.length)(P:Rp K dl H v x G):RdR K dl H (σ.set i (Z v)) (q.set i (.r x)):=(r.d,λj y t h1 h2=>by
 obtain⟨rfl,rfl,_⟩|⟨ne,h1⟩:=get_set h1
 ·cases h2;exact(v,G,by rw[SU hl],P)
 ·let(w,F,h3,h4):=r.g j y t h1 h2;exact(w,F,by rw[QL (λz=>ne z.symm)];exact h3,h4))
def RdR.any(r:RdR K dl H σ q)(hn:q[i]?=Z .no):RdR K dl H (σ.set i o) q:=(r.d,λj y t h1 h2=>by
 let(w,F,h3,h4):=r.g j y t h1 h2;refine(w,F,?_,h4);rw[QL]
 ·exact h3
 ·intro z;subst z;rw[hn]at h1;cases h1;cases h2)
def Tg.ixs:Tg->List Nat
 |.nm i=>[i]
 |.tp is=>is
def HW:∀{vs:List V}{xs:List T}{G:List J}{σ:St}{q q0 q':Sq}{R:St->Hp->Prop},RdR K dl H σ q->RdR K dl H σ q0->σ.length=q.length->aB K dl H vs xs G->(∀b∈G,Nd dl b)->(∀i∈is,q0[i]?=Z .no)->u9 q is xs=Z q' ->
  (∀g,RdR K dl H g q'->RdR K dl H g q0->g.length=σ.length->R g H)->yi is vs σ H R:=by
 induction is with
 |nil =>
  intro vs xs G σ q q0 q' R r z _ rs _ _ hp k;cases xs with
  |cons _ _=>cases hp
  |nil =>
   cases rs;cases hp;exact(U,k σ r z U)
 |cons i is ih =>
  intro vs xs G σ q q0 q' R r z hl rs hn hf hp k;cases xs with
  |nil=>cases hp
  |cons x xs =>
   cases rs with
   |cons r1 Q =>
    unfold u9 at hp;by_cases hi:i<q.length
    ·rw[if_pos hi]at hp;refine(_,_,U,(ih (r.set al (r1,λb P=>hn b (pL _ P))) (z.any (hf i j2)) (by simp[hl]) Q (λb P=>hn b (lY _ P)) (λj hj=>hf j (j1 _ hj)) hp λg a b c=>k g a b (c:)))
    ·rw[if_neg hi]at hp;cases hp
theorem zo:∀{is:List Nat}{xs:List T}{q q':Sq},u9 q is xs=Z q'->xs.length=is.length
 |[],[],_,_,_=>rfl
 |[],_::_,_,_,h=>by cases h
 |_::_,[],_,_,h=>by cases h
 |i::is,x::xs,q,q',h=>by
  unfold u9 at h;by_cases hi:i<q.length
  ·rw[if_pos hi]at h;simp[zo h]
  ·rw[if_neg hi]at h;cases h
def Ts{x:T}{q':Sq}{R:St->Hp->Prop}(r:RdR K dl H σ q)(hl:σ.length=q.length)(P:Rp K dl H v x G)(hf:∀i∈g.ixs,q[i]?=Z .no)(hp:g.put x q=Z q')
  (k:∀z,RdR K dl H z q'->RdR K dl H z q->z.length=σ.length->R z H):g.h K v σ H R:=by
 cases g with
 |nm i =>
  replace hp:(if i<q.length then Z (q.set i (.r x))else Y)=Z q':=hp
  by_cases hi:i<q.length
  ·rw[if_pos hi]at hp;cases hp;exact k _ (r.set al P) (r.any (hf i (d2.mpr U))) ad
  ·rw[if_neg hi]at hp;cases hp
 |tp is =>
  cases x with
  |t xs =>
   let(p,vs,U,h1,h2):=P.r.tup;exact(p,vs,U,SqT.of h1,by rw[h2.len];exact zo hp,HW r r hl h2 P.n hf hp k)
  |_=>cases hp
def IE:QT:=λ_ Q=>Q O
def Ht:lT K CT IE:=λdl H σ q Q R rd hq k=>k O H (.refl rd.d) hq
inductive CompI(cap:List (Option Nat))(g:Tg)(tst:QT)(qe:QE)(q:Sq)(Q:T->Prop)(xs:List T):Prop
 |mk (hl:xs.length<kf) (I:Nat->List T->Prop) (h0:I 0 []) (step:∀i x ys,xs[i]?=Z x->I i ys->∃q',g.put x (jY cap q)=Z q'/\tst q' λb=>if b=O then qe q' λy=>I (i+1) (ys++[y])else I (i+1) ys) (fin:∀ys,I xs.length ys->Q (.l ys))
def Dr(cap:List (Option Nat))(iq:QI)(g:Tg)(tst:QT)(qe:QE):QE:=λq Q=>iq q λxs=>CompI cap g tst qe q Q xs
theorem y7(hi:Vo K wi iq)(ht:lT K tst oM)(he:kM K te qe)(hf:(g.ixs.all λi=>cap[i]? == Z Y)=O):kM K (vM cap wi (g.h K) tst te) (Dr cap iq g oM qe):=by
 intro dl H σ q Q R rd hq k;refine hi dl H σ q _ _ rd hq λxs Zb hv H1 e1 it held hz=>?_
 let(hlen,I,i0,turn,fin):=hz;have a5:=MC (cap:=cap) (rd.evo e1);have bp:∀i∈g.ixs,(jY cap q)[i]?=Z .no:=λi hi=>by
  have z:=RY.mp hf i hi;have z:=(z:)
  unfold jY;rw[fy,z];rfl
 have b0:(nF cap σ).length=(jY cap q).length:=by simp[nF,jY]
 refine(λi m vs av H'=>m=xs.length-i/\i<=xs.length/\∃ts F,Evo dl H1 H'/\RdR K dl H' av (jY cap q)/\av.length=(jY cap q).length/\(∀p∈hv,∃F,Rp K dl H' p.1 p.2 F)/\Rps K dl H' vs ts F/\(∀b∈F,H b=Y)/\F.Nodup/\vs.length<=i/\I i ts,
  (xs.length,ad,v5 _,[],[],.refl e1.d,a5,b0,held,(.nil,bY),bY,kc,ka _,i0),?_)
 rintro i m vs av H' ⟨rfl,cm,ts,F,e2,a3,bM,Ab,rs,fr,nd,cg,hI⟩
 by_cases ak:i<xs.length
 ·refine .inr (it.go H' i e2.d Ab ak,al,λay ar H2=>∃ts F,Evo dl H1 H2/\RdR K dl H2 ar (jY cap q)/\ar.length=(jY cap q).length/\(∀p∈hv,∃F,Rp K dl H2 p.1 p.2 F)/\Rps K dl H2 ay ts F/\(∀b∈F,H b=Y)/\F.Nodup/\ay.length<=i+1/\I (i+1) ts,
   λay ar H2 h=>(xs.length-(i+1),Nat.sub_succ_lt_self _ _ ak,U,ak,h),λv H2 y=>?_)
  have hx:xs[i]?=Z xs[i]:=by simp[ak]
  obtain⟨fp,bN⟩:∃fp:V×T->List J,∀p∈hv,Rp K dl H' p.1 p.2 (fp p):=by
   classical
   refine(λp=>if h:p∈hv then(Ab p h).choose else [],λp hp=>?_)
   simp only[dif_pos hp];exact(Ab p hp).choose_spec
  let(e3,G,rx,hG):=it.yld H' i xs[i] fp v H2 e2.d bN hx y;let(q',bj,hz):=turn i xs[i] ts hx hI;have PD:∀{H3:Hp},Evo dl H' H3->∀p∈hv,∃F,Rp K dl H3 p.1 p.2 F:=λ{H3} e p hp=>let(F,r):=Ab p hp;(F,r.evo e2.d e)
  refine Ts (a3.evo e3) bM rx bp bj λaP r3 aR l3=>(ht dl H2 aP q' _ _ r3 hz λb H4 e4 hz=>?_)
  cases b with
  |false=>exact(ts,F,(e2.trans e3).trans e4,aR.evo e4,al,PD (e3.trans e4),(rs.evo e2.d e3).evo e3.d e4,fr,nd,al,hz)
  |true =>
   refine he dl H4 aP q' _ _ (r3.evo e4) hz λw t G' H5 e5 aQ f5 n5 hz=>?_
   have E:=(e2.trans e3).trans (e4.trans e5);have aV:=((rs.evo e2.d e3).evo e3.d (e4.trans e5));refine(ts++[t],F++(G'++[]),E,aR.evo (e4.trans e5),al,PD (e3.trans (e4.trans e5)),(aV.r.append (.cons aQ.r .nil),λb P=>?_),λb P=>?_,?_,by simp;lia,hz)
   ·obtain P|P:=i6.mp P
    ·exact rs.n b P
    ·rw[qg]at P;exact aQ.n b P
   ·obtain P|P:=i6.mp P
    ·exact fr b P
    ·rw[qg]at P;exact((e1.trans e2).trans (e3.trans e4)).free (f5 b P)
   ·rw[qg];refine uF.mpr (nd,n5,λx hx y hy cf=>?_)
    subst cf;have a0:=(rs.evo e2.d e3).evo e3.d e4;exact gm.no (a0.r.there x hx) (f5 x hy)
 ·have e:i=xs.length:=al
  subst e;refine .inl (it.stop H' e2.d Ab,al,λD hD=>?_)
  exact k _ _ _ _ ((e1.trans e2).new hD) (rs.lst e2.d hD) (λb P=>by
   obtain e|P:=kO.mp P
   ·rw[e];exact(e1.trans e2).free hD
   ·exact fr b P) (rs.fresh hD nd) (fin ts hI)
structure QB(X:Cx)(K:BT)(N':List Str)(sc:Scope)(tg:Ev)(g:Tg)(ifs:List Ev)(tst:TT)(oM:QT)(elt:Ev)(te:TE)(qe:QE):Prop where
 b:∀cl C s₂ H₂ fp,PG (blk X N' sc cl C s₂ H₂ fp) tg (g.h K)/\PTs (blk X N' sc cl C s₂ H₂ fp) ifs tst/\PE (blk X N' sc cl C s₂ H₂ fp) elt te
 t:lT K tst oM
 e:kM K te qe
def bx(h:∀cl C s₂ H₂ fp,PG (blk X N' sc cl C s₂ H₂ fp) tg (g.h K)/\QPF (blk X N' sc cl C s₂ H₂ fp) K elt te qe):QB X K N' sc tg g [] CT IE elt te qe:=
 (λcl C s₂ H₂ fp=>((h cl C s₂ H₂ fp).1,Dv,(h cl C s₂ H₂ fp).2.h),Ht,(h [] 0 X.s₀ (λ_=>Y) []).2.s)
def xF(h:∀cl C s₂ H₂ fp,PG (blk X N' sc cl C s₂ H₂ fp) tg (g.h K)/\QPT (blk X N' sc cl C s₂ H₂ fp) K c tst oM/\QPF (blk X N' sc cl C s₂ H₂ fp) K elt te qe):QB X K N' sc tg g [c] tst oM elt te qe:=
 (λcl C s₂ H₂ fp=>((h cl C s₂ H₂ fp).1,Du (h cl C s₂ H₂ fp).2.1.h,(h cl C s₂ H₂ fp).2.2.h),(h [] 0 X.s₀ (λ_=>Y) []).2.1.s,(h [] 0 X.s₀ (λ_=>Y) []).2.2.s)
def bD{pos:Pos}(V:X.calm=O)(hi:QPI X K tg iter wi iq)(z:nY X sc N' cap)(q:QB X K N' sc tg g ifs tst oM elt te qe)
  (hf:‹(g.ixs.all λi=>cap[i]? == Z Y)=true›)
  (hV:‹sc.kind=.function›) (gc:autoParam (∀y∈sc.names,y.2 ≠ .cell) zdc._auto_1) (Q:autoParam (∀y∈sc.names,y.2=.local->sc.names.lookup y.1=Z .local) zdc._auto_1)
  (P:‹(sc.names.all λy=>y.2 != .free ||(X.env.kindOf y.1==Z .cell||X.env.kindOf y.1==Z .free))=true›)
  (hs:∀x,foldedSetIterable iter X.env x=pure x:=by intro _;rfl):QPF X K (.ListComp elt [(tg,iter,ifs,0)] sc pos) (vM cap wi (g.h K) tst te) (Dr cap iq g oM qe):=
 (DE V hi.h z q.b hV gc Q P hs,y7 hi.s q.t q.e hf)
def dY{pos eJ py:Pos}(hN:X.N.Nodup)(z:X.N[i]?=Z y)(hy:Loc X.env.scope y)
  (hc:X.calm=O) (hi:QPI X K tg iter wi iq) (V:nY X sc N' cap) (Q:QB X K N' sc tg g ifs tst oM elt te qe)
  (P:‹(g.ixs.all λi=>cap[i]? == Z Y)=true›)
  (q:‹swapsWith (.ListComp elt [(tg,iter,ifs,0)] sc pos) (Z (.Name y py)) eJ.line X.env=pure true›)
  (hf:AT X y:=by first|exact .inl rfl|exact .inr rfl|assumption)
  (hV:‹sc.kind=.function›) (gc:autoParam (∀y∈sc.names,y.2 ≠ .cell) zdc._auto_1) (iT:autoParam (∀y∈sc.names,y.2=.local->sc.names.lookup y.1=Z .local) zdc._auto_1)
  (jc:‹(sc.names.all λy=>y.2 != .free ||(X.env.kindOf y.1==Z .cell||X.env.kindOf y.1==Z .free))=true›)
  (hs:∀x,foldedSetIterable iter X.env x=pure x:=by intro _;rfl):QPS X K (.Assign [.Name y py] (.ListComp elt [(tg,iter,ifs,0)] sc pos) eJ) (jm (vM cap wi (g.h K) tst te) (gD i)) (kG i (Dr cap iq g oM qe)):=
 (Dx hN z hy hc hi.h V Q.b q hf hV gc iT jc hs,C5 (y7 hi.s Q.t Q.e P))
end
section
variable{X:Cx}{K:BT}{hs:List (V×T)}{σ:St}{F:Nat->List J}{e o:Ev}{apos aQ:Pos}
def zip_inj{ns:List Str}:∀{vs us:List V},vs.length=ns.length->us.length=ns.length->ns.zip vs=ns.zip us->vs=us:=by
 induction ns with
 |nil=>intro vs us h1 h2 _;rw[uC.mp h1,uC.mp h2]
 |cons n r q =>
  intro vs us h1 h2 e;cases vs with
  |nil=>cases h1
  |cons v vs=>cases us with
   |nil=>cases h2
   |cons u us =>
    injection e with g z
    injection g with _ g
    rw[g,q (Nat.succ.inj h1) (Nat.succ.inj h2) z]
def aK.uniq{v:V}{t:T}{F:List J}(h:aK K dl H v t F):∀{F':List J},aK K dl H v t F'->F=F':=
 aK.rec (motive_1:=λv t F _=>∀{F'},aK K dl H v t F'->F=F') (motive_2:=λv t F _=>∀{F'},aB K dl H v t F'->F=F') (motive_3:=λv t F _=>∀{F'},a7 K dl H v t F'->F=F')
  (λh=>(h.im U).symm) (λ_ _ h=>(h.im U).symm) (λ_ _ h=>(h.im U).symm) (λ_ _ h=>(h.im U).symm) (λ_ _ h=>(h.im U).symm)
  (λh1 _ g _ h=>by let(a,vs,e,h2,r):=h.tup;cases e;rw[h1]at h2;cases h2;exact g r)
  (λh1 _ g _ h=>by let(a,vs,G,e,U,h2,r):=h.lst;cases e;rw[h1]at h2;cases h2;rw[g r])
  (λh1 _ g _ h=>by let(a,vs,G,e,U,h2,r):=h.dic;cases e;rw[h1]at h2;cases h2;rw[g r])
  (λ_ _ h=>(h.im U).symm) (λ_ _ h=>(h.im U).symm) (λ_ _ h=>(h.im U).symm) (λ_ _ _ _ h=>(h.im U).symm) (λ_ _ h=>(h.im U).symm) (λ_ _ _ _ h=>(h.im U).symm)
  (λ_ _ _ h=>(h.im U).symm) (λ_ _ _ _ h=>(h.im U).symm) (λh1 _ g _ h=>by let(vs,G,e,U,h2,r):=h.dpp;rw[h1]at h2;cases h2;rw[g r]) (λh1 _ g _ h=>by let(vs,G,e,U,h2,r):=h.lpp;rw[h1]at h2;cases h2;rw[g r]) (λ_ _ _ _ h=>(h.im U).symm) (λ_ _ h=>(h.im U).symm) (λh1 _ h4 hr g _ h=>by
   let(dx,vs,G,e,U,h2,_,h3,r):=h.omm;rw[h1]at h2;injection h2 with h2
   injection h2 with _ Q P
   subst Q;have z:=zip_inj (hr.len.trans h4.symm) (r.len.trans h3.symm) P;subst z;rw[g r]) (λ_ _ h=>(h.im U).symm)
  (λh=>by cases h;rfl) (λ_ _ i1 i2 _ h=>by cases h with|cons h2 q=>rw[i1 h2,i2 q])
  (λh=>by cases h;rfl) (λ_ _ i1 i2 _ h=>by cases h with|cons h2 q=>rw[i1 h2,i2 q]) h
def Rel.Oh(r:Rel K dl ba hs H σ q F)(e:Evo dl H H')(hp:p∈hs)(h:Rp K dl H' p.1 p.2 Fp)(g:H b=Y):b ∉ Fp:=λz=>by
 let(Q,h1,_):=r.h p hp;have P:=(h1.evo r.d e).r.uniq h.r;subst P;exact gm.no (h1.r.there b z) g
def Rel.oK{ws:List V}(r:Rel K dl ba hs H σ q F)(hi:q[i]?=Z (.o (.l xs)))(hv:σ[i]?=Z (Z (.ref p)))(Q:F i=p::G)(e:Evo dl H H')
  (rs:aB K dl H' ws ys G') (hn:G'.Nodup) (hG:∀b∈G',b∈G\/(H b=Y/\Nd dl b)):j7 K dl ba hs (upd H' p (.lst ws)) σ (q.set i (.o (.l ys))):=by
 have r':=r.evo e;let(o1,o2,o3):=r.o i _ hi;let(v',aQ,rp):=r'.g i _ _ hi U;let(p2,aP,G2,e2,eF,h1,h2):=rp.r.lst;rw[Q]at eF;cases eF;rw[Q]at o1;have pG:=(uj.mp o1).1;have ay:=r.iw (by rw[Q];exact j2)
 have ak:p ∉ G':=λz=>by
  obtain z|z:=hG p z
  ·exact pG z
  ·exact ay.no z.1
 have pn:=rp.n p (by rw[Q];exact j2)
 have tf:TF H' (upd H' p (.lst ws)):=(λa us h=>(by
  rw[au];exact h;intro z;subst z;rw[h]at h1;cases h1),λa ob u h=>(by
  rw[au];exact h;intro z;subst z;rw[h]at h1;cases h1),λa φ h=>(by
  rw[au];exact h;intro z;subst z;rw[h]at h1;cases h1),λa ar h=>(by
  by_cases z:a=p
  ·subst z;exact(_,az)
  ·exact(ar,by rw[au z];exact h)),λa x h=>(x,E3 _,by
  rw[au];exact h;intro z;subst z;rw[h]at h1;cases h1))
 have av:=rs.dA tf (λ_ z=>z) λb P ob eb=>by
  have ne:b≠p:=by
   intro z;subst z;exact ak P
  rw[au ne];exact eb
 refine(_,r'.write hi hv (by rw[Q];exact j2) (λ_ _=>(_,U)) (.l az av,λb P=>?_) (uj.mpr (ak,hn)) λb P=>?_)
 ·obtain z|P:=kO.mp P
  ·rw[z];exact pn
  ·obtain z|z:=hG b P
   ·exact rp.n b (by rw[Q];exact j1 _ z)
   ·exact z.2
 ·obtain z|P:=kO.mp P
  ·rw[z,Q];exact .inl j2
  ·obtain z|z:=hG b P
   ·rw[Q];exact .inl (j1 _ z)
   ·exact .inr (r.fz z.1,λj hj=>(r.iw hj).no z.1,λw u Fp h1 h2=>r.Oh e h2 h1 z.1)
def xH(i:Nat)(qe:QE):QS:=λD q=>match q[i]? with
 |some (.o (.l xs))=>xs.length<kf/\qe q λt=>D.nx (q.set i (.o (.l (xs++[t]))))
 |_=>False
abbrev At(X:Cx)(p:Pos)(e:List Ev):Prop:=((backTo p (kg e X.env)).all (λx=>!x.1)&&(backToKw p (keywordEach [] X.env)).all (λx=>x.1.isSome)&&decide (e.length+([]:List Keyword).length+(if([]:List Keyword).isEmpty then 0 else 1)<30))=true
def B2(q:X.K=K)(ho:PE X o (b8 i))(he:PE X e te)(z:‹attributeBase o "append" X.env (eval o X.env)=eval o X.env›)
  (g:‹At X aQ [e]›)
  (P:‹(apos.endLine==aQ.line)=true›) (hs:‹AC X e []›) (Q:‹(backTo aQ (kg [] X.env)).any (·.1)=false›):
  PE X (.Call (.Attribute o "append" apos) [e] [] aQ) (tBM K "list" rg (b8 i) (di te ix)):=by
 subst q;exact vV PySem.F.plainAttrs_list PySem.F.slot_list_append PySem.F.type_list_append F8 ho (bX he dC hs) z g P hs Q
def Bn(he:kM K te qe):lU K (pO (tBM K "list" rg (b8 i) (di te ix))) (xH i qe):=λdl ba hs H σ q Dq D (F,r) hq E=>by
 unfold xH at hq
 split at hq
 ·rename_i xs ei;let(hz,hq):=hq;let(v,hv,rp):=r.g i _ _ ei U;let(o1,o2,o3):=r.o i _ ei;let(p,vs,G,U,Q,h1,h2):=rp.r.lst;refine(_,hv,.inl (U,vs,SqL.of h1),he dl H σ q _ _ r.rd hq λw t F' H' V r1 f1 n1 ar=>?_)
  have pn:=rp.n p (by rw[Q];exact j2)
  refine(p,vs,w,U,U,V.k p _ h1 pn nofun,by rw[h2.len];exact hz,?_)
  have hG:=λb P=>rp.n b (by rw[Q];exact j1 _ P)
  have ak:=h2.dA (V.tf r.d) (λ_ z=>z) λb P o eo=>V.k b o eo (hG b P) (.of (h2.there b P) eo)
  refine E.nx _ σ _ (r.oK ei hv Q V (ak.append (.cons r1.r .nil)) ?_ λb P=>?_) ar
  ·rw[qg];rw[Q]at o1;refine uF.mpr ((uj.mp o1).2,n1,λx hx y hy av=>?_)
   subst av;exact gm.no (h2.there x hx) (f1 x hy)
  ·obtain P|P:=i6.mp P
   ·exact .inl P
   ·rw[qg]at P;exact .inr (f1 b P,r1.n b P)
 ·exact hq.elim
def bo{eJ:Pos}(ho:PE X o (b8 i))(he:QPF X K e te qe)(z:‹X.K=K›)(P:‹attributeBase o "append" X.env (eval o X.env)=eval o X.env›)
  (q:‹At X aQ [e]›)
  (Q:‹(apos.endLine==aQ.line)=true›) (hs:‹AC X e []›) (V:‹(backTo aQ (kg [] X.env)).any (·.1)=false›)
  (g:‹swapsWith (.Call (.Attribute o "append" apos) [e] [] aQ) Y eJ.line X.env=pure false›):
  QPS X K (.Expr (.Call (.Attribute o "append" apos) [e] [] aQ) eJ) (pO (tBM K "list" rg (b8 i) (di te ix))) (xH i qe):=(rl (B2 z ho he.h P q Q hs V) g,Bn he.s)
def xG(i:Nat)(qe:QE):QS:=λD q=>match q[i]? with
 |some (.o (.l xs))=>qe q λt=>match t with
  |.l ys=>xs.length+ys.length<=kf/\D.nx (q.set i (.o (.l (xs++ys))))
  |_=>False
 |_=>False
def B1(q:X.K=K)(ho:PE X o (b8 i))(he:PE X e te)(z:‹attributeBase o "extend" X.env (eval o X.env)=eval o X.env›)
  (g:‹At X aQ [e]›)
  (P:‹(apos.endLine==aQ.line)=true›) (hs:‹AC X e []›) (Q:‹(backTo aQ (kg [] X.env)).any (·.1)=false›):
  PE X (.Call (.Attribute o "extend" apos) [e] [] aQ) (tBM K "list" q9 (b8 i) (di te ix)):=by
 subst q;exact vV PySem.F.plainAttrs_list PySem.F.slot_list_extend PySem.F.type_list_extend F7 ho (bX he dC hs) z g P hs Q
def Bm(he:kM K te qe):lU K (pO (tBM K "list" q9 (b8 i) (di te ix))) (xG i qe):=λdl ba hs H σ q Dq D (F,r) hq E=>by
 unfold xG at hq
 split at hq
 ·rename_i xs ei;let(v,hv,rp):=r.g i _ _ ei U;let(o1,o2,o3):=r.o i _ ei;let(p,vs,G,U,V,h1,h2):=rp.r.lst;refine(_,hv,.inl (U,vs,SqL.of h1),he dl H σ q _ _ r.rd hq λw t F' H' e1 r1 f1 n1 Q=>?_)
  split at Q
  ·let(p2,ws,G2,U,U,h3,h4):=r1.r.lst;have pn:=rp.n p (by rw[V];exact j2)
   refine(p,p2,vs,ws,U,U,e1.k p _ h1 pn nofun,h3,by rw[h2.len,h4.len];exact Q.1,?_)
   have hG:=λb P=>rp.n b (by rw[V];exact j1 _ P)
   have ak:=h2.dA (e1.tf r.d) (λ_ z=>z) λb P o eo=>e1.k b o eo (hG b P) (.of (h2.there b P) eo)
   refine E.nx _ σ _ (r.oK ei hv V e1 (ak.append h4) ?_ λb P=>?_) Q.2
   ·rw[V]at o1;refine uF.mpr ((uj.mp o1).2,(uj.mp n1).2,λx hx y hy ar=>?_)
    subst ar;exact gm.no (h2.there x hx) (f1 x (j1 _ hy))
   ·obtain P|P:=i6.mp P
    ·exact .inl P
    ·exact .inr (f1 b (j1 _ P),r1.n b (j1 _ P))
  ·exact Q.elim
 ·exact hq.elim
def cN{eJ:Pos}(ho:PE X o (b8 i))(he:QPF X K e te qe)(z:‹X.K=K›)(P:‹attributeBase o "extend" X.env (eval o X.env)=eval o X.env›)
  (q:‹At X aQ [e]›)
  (Q:‹(apos.endLine==aQ.line)=true›) (hs:‹AC X e []›) (V:‹(backTo aQ (kg [] X.env)).any (·.1)=false›)
  (g:‹swapsWith (.Call (.Attribute o "extend" apos) [e] [] aQ) Y eJ.line X.env=pure false›):
  QPS X K (.Expr (.Call (.Attribute o "extend" apos) [e] [] aQ) eJ) (pO (tBM K "list" q9 (b8 i) (di te ix))) (xG i qe):=(rl (B1 z ho he.h P q Q hs V) g,Bm he.s)
end
variable{td:TE}{tx:TE}{qd:QE}{qo:QE}{to:TE}
section
variable{X:Cx}{K:BT}{hs:List (V×T)}{σ:St}{F:Nat->List J}{a b e o c:Ev}{ta tb tk tv:TE}{qa qb qk qv:QE}{pos apos aQ:Pos}
theorem aB.last:∀{ts:List T}{x:T}{vs:List V}{F:List J},aB K dl H vs (ts++[x]) F->∃us w q g,vs=us++[w]/\aB K dl H us ts q/\aK K dl H w x g/\F=q++g
 |[],x,vs,F,h=>by
  cases h with
  |cons h1 h2 =>
   cases h2;exact([],_,[],_,U,.nil,h1,ad)
 |t::ts,x,vs,F,h=>by
  cases h with
  |cons h1 h2 =>
   let(us,w,q,g,U,P,z,U):=aB.last h2;exact(_::us,w,_,g,U,.cons h1 P,z,by rw[u6])
def QK(i j:Nat):QS:=λD q=>match q[i]? with
 |some (.o (.l xs))=>∃ys x,xs=ys++[x]/\T.ims xs=O/\i≠j/\D.nx ((q.set i (.o (.l ys))).set j (.o x))
 |_=>False
def tV:T.ims (xs++ys)=(T.ims xs&&T.ims ys):=by
 induction xs with
 |nil=>rfl
 |cons x r g=>show(x.im&&T.ims (r++ys))=((x.im&&T.ims r)&&T.ims ys);rw[g,Bool.and_assoc]
def Mh:lU K (jm (L4 K "list" ME (b8 i)) (gD j)) (QK i j):=λdl ba hs H σ q Dq D (F,r) hq E=>by
 unfold QK at hq
 split at hq
 ·rename_i xs ei;let(ys,x,U,P,ar,hq):=hq;let(v,hv,rp):=r.g i _ _ ei U;let(p,vs,G,U,eF,h1,h2):=rp.r.lst;let(us,w,F1,F2,U,r1,r2,U):=h2.last;rw[tV,uB]at P;obtain rfl:=r1.im P.1;have hx:=by have:=P.2;simpa [T.ims]using this
  obtain rfl:=r2.im hx;refine(_,hv,.inl (U,_,SqL.of h1),p,_,w,U,U,h1,ad,?_)
  rw[XJ];let(F3,V):=r.oK ei hv eF (.refl r.d) r1 kc bY
  have tf:=by
   have tf:TF H (upd H p (.lst us)):=(λa ak h=>(by
    rw[au];exact h;intro z;subst z;rw[h]at h1;cases h1),λa ob u h=>(by
    rw[au];exact h;intro z;subst z;rw[h]at h1;cases h1),λa φ h=>(by
    rw[au];exact h;intro z;subst z;rw[h]at h1;cases h1),λa Q h=>(by
    by_cases z:a=p
    ·subst z;exact(_,az)
    ·exact(Q,by rw[au z];exact h)),λa x h=>(x,E3 _,by
    rw[au];exact h;intro z;subst z;rw[h]at h1;cases h1))
   exact r2.dA tf (λ_ z=>z) bY
  exact E.nx _ _ _ (V.IU (.refl V.d) (.c tf) bY kc) hq
 ·exact hq.elim
def BF(g:X.N.Nodup)(hi:X.N[j]?=Z x)(hx:Loc X.env.scope x)(ho:PE X o (b8 i))(q:‹X.K=K›)(z:‹attributeBase o "pop" X.env (eval o X.env)=eval o X.env›)(P:‹(apos.endLine==aQ.line)=true›)
  (hs:‹swapsWith (.Call (.Attribute o "pop" apos) [] [] aQ) (Z (.Name x pos')) pos.line X.env=pure false›) (hf:AT X x:=by first|exact .inl rfl|exact .inr rfl|assumption):
  QPS X K (.Assign [.Name x pos'] (.Call (.Attribute o "pop" apos) [] [] aQ) pos) (jm (L4 K "list" ME (b8 i)) (gD j)) (QK i j):=
 (by subst q;exact jG g hi hx (BS PySem.F.plainAttrs_list PySem.F.slot_list_pop PySem.F.type_list_pop BZ ho z P) hs hf,Mh)
def ID(g:Tg)(qe:QE):QS:=λD q=>qe q λt=>t.im=O/\Ex2 (λq'=>g.put t q=Z q') D.nx
def Me(he:i3 K te qe):lU K (jm te (g.h K)) (ID g qe):=λdl ba hs H σ q Dq D (F,r) hq E=>he dl H σ q _ _ r.rd hq λv t F' H' e1 V (Q,q',P,hz)=>by
 obtain rfl:=V.r.im Q;exact xv (r.evo e1) V (λ_ _ _ _ _ z=>nomatch z) P λak r'=>E.nx _ _ _ r' hz
def lE(he:QPE X K e te qe)(hg:PG X tg (g.h K))(hs:‹swapsWithSole [tg] e pos.line X.env=pure false›)(hw:‹swappedStores [tg] e X.env=pure none›)
  (h1:‹(assignEach [tg] X.env).map (·.2)=[assign tg X.env]›):QPS X K (.Assign [tg] e pos) (jm te (g.h K)) (ID g qe):=(sR he.h hg hs hw h1,Me he.s)
def TY(i j:Nat)(qa qb:QE):QS:=λD q=>qa q λt=>t.im=O/\qb q λu=>u.im=O/\D.nx ((q.set i (.o t)).set j (.o u))
def Mi(ha:i3 K ta qa)(hb:i3 K tb qb):lU K (P8 i j (di ta (di tb ix))) (TY i j qa qb):=λdl ba hs H σ q Dq D (F,r) hq E=>by
 refine ha dl H σ q _ _ r.rd hq λv t F1 H1 P V (m1,hq)=>hb dl H1 σ q _ _ (r.rd.evo P) hq λw u F2 H2 e2 Q g=>?_
 let(m2,hq):=g;obtain rfl:=V.r.im m1;obtain rfl:=Q.r.im m2;refine(v,w,U,?_);let(F1,R1):=r.IU (P.trans e2) (V.evo P.d e2) bY kc
 exact E.nx _ _ _ (R1.IU (.refl R1.d) Q bY kc) hq
def T.key:T->Option Key
 |.i x=>Z (.inl x)
 |.s x=>Z (.inr x)
 |_=>Y
theorem aK.key{v:V}{t:T}{F:List J}{k:Key}(h:aK K dl H v t F)(e:t.key=Z k):v=kV k:=by
 cases h <;> first|(cases e;rfl)|cases e
def bC(ks:List (Key×T))(k:Key):Option T:=(ks.find? λp=>decide (p.1=k)).map (·.2)
def g7(ks:List (Key×T))(k:Key)(t:T):List (Key×T):=if(ks.any λp=>decide (p.1=k))=O then ks.map (λp=>if p.1=k then(p.1,t)else p)else ks++[(k,t)]
def a7.look{F:List J}(k:Key)(h:a7 K dl H vs ts F):(bC ts k=Y/\bP vs k=Y)\/∃t v G,bC ts k=Z t/\bP vs k=Z v/\aK K dl H v t G/\∀b∈G,b∈F:=
 h.ind (.inl (U,U)) λk0 v x vs ts F G h r q=>by
  by_cases e:k0=k
  ·subst e;exact .inr (_,_,_,by simp[bC],by simp[bP],h,λb g=>pL _ g)
  ·obtain⟨h1,h2⟩|⟨t,v,G,h1,h2,h3,h4⟩:=q
   ·refine .inl (?_,?_)
    ·unfold bC at h1 ⊢;rw[vF,decide_eq_false e];exact h1
    ·unfold bP at h2 ⊢;rw[vF,decide_eq_false e];exact h2
   ·refine .inr (t,v,G,?_,?_,h3,λb g=>lY _ (h4 b g))
    ·unfold bC at h1 ⊢;rw[vF,decide_eq_false e];exact h1
    ·unfold bP at h2 ⊢;rw[vF,decide_eq_false e];exact h2
mutual
def T.imk:List (Key×T)->Bool
 |[]=>O
 | (_,x)::r=>x.im&&T.imk r
end
theorem a7.im{F:List J}(h:a7 K dl H vs ts F):T.imk ts=O->F=[]:=h.ind (λ_=>rfl) (λ_ _ _ _ _ _ _ h _ g=>tX h.im g)
def a7.keys{F:List J}(h:a7 K dl H vs ts F)(k:Key):(vs.any λp=>decide (p.1=k))=ts.any λp=>decide (p.1=k):=
 h.ind U λ_ _ _ _ _ _ _ _ _ g=>by rw[Xd,Xd,g]
def a7.put(hw:aK K dl H w t []):∀{vs:List (Key×V)}{ts:List (Key×T)},a7 K dl H vs ts []->a7 K dl H (putK vs k w) (g7 ts k t) []:=by
 have mp:∀{vs:List (Key×V)}{ts:List (Key×T)}{F:List J},a7 K dl H vs ts F->F=[]->a7 K dl H (vs.map λp=>if p.1=k then(p.1,w)else p) (ts.map λp=>if p.1=k then(p.1,t)else p) []:=by
  intro vs ts F h
  induction ts generalizing vs F with
  |nil=>intro _;cases h;exact .nil
  |cons p ts q =>
   cases h with
   |@cons k0 v x vs _ F1 F2 h1 h2 =>
    intro e;let(Q,P):=yL.mp e;subst Q P;have z:=q h2 U;rw[qS,qS];by_cases g:k0=k
    ·rw[if_pos g,if_pos g];exact .cons hw z
    ·rw[if_neg g,if_neg g];exact .cons h1 z
 have sn:∀{vs:List (Key×V)}{ts:List (Key×T)}{F:List J},a7 K dl H vs ts F->a7 K dl H (vs++[(k,w)]) (ts++[(k,t)]) F:=by
  intro vs ts F h
  induction ts generalizing vs F with
  |nil=>cases h;exact .cons hw .nil
  |cons p ts q =>
   cases h with
   |cons h1 h2=>exact .cons h1 (q h2)
 intro vs ts h;unfold putK g7;rw[h.keys k]
 split
 ·exact mp h U
 ·exact sn h
def Rel.HV{ws:List (Key×V)}(r:Rel K dl ba hs H σ q F)(hi:q[i]?=Z (.o (.d xs)))(hv:σ[i]?=Z (Z (.ref p)))(e:Evo dl H H')
  (rs:a7 K dl H' ws ys []):j7 K dl ba hs (upd H' p (.dK ws)) σ (q.set i (.o (.d ys))):=by
 have r':=r.evo e;let(v',Q,rp):=r'.g i _ _ hi U;rw[hv]at Q;cases Q;let(p2,ar,G2,e2,eF,h1,h2):=rp.r.dic;cases e2;have pn:=rp.n p (by rw[eF];exact j2)
 have tf:TF H' (upd H' p (.dK ws)):=(λa us h=>(by
  rw[au];exact h;intro z;subst z;rw[h]at h1;cases h1),λa ob u h=>(by
  rw[au];exact h;intro z;subst z;rw[h]at h1;cases h1),λa φ h=>(by
  rw[au];exact h;intro z;subst z;rw[h]at h1;cases h1),λa P h=>(by
  have ne:a≠p:=by
   intro z;subst z;rw[h]at h1;cases h1
  exact(P,by rw[au ne];exact h)),λa x h=>(x,E3 _,by
  rw[au];exact h;intro z;subst z;rw[h]at h1;cases h1))
 have ak:=rs.dA tf (λ_ z=>z) bY
 exact(_,r'.write hi hv (by rw[eF];exact j2) (λP h=>by rw[h1]at h;cases h) (.d az ak,λb hb=>by rw[d2.mp hb];exact pn) ad λb hb=>by rw[d2.mp hb,eF];exact .inl j2)
def BJ(i:Nat)(qk qv:QE):QS:=λD q=>match q[i]? with
 |some (.o (.d xs))=>qv q λt=>qk q λu=>match u.key with
  |some k=>xs.length<kf/\T.imk xs=O/\t.im=O/\D.nx (q.set i (.o (.d (g7 xs k t))))
  |none=>False
 |_=>False
def Mg(hk:i3 K tk qk)(hv:i3 K tv qv):lU K (HL (b8 i) tk tv) (BJ i qk qv):=λdl ba hs H σ q Dq D (F,r) hq E=>by
 unfold BJ at hq
 split at hq
 ·rename_i xs ei;refine hv dl H σ q _ _ r.rd hq λw t F1 H1 P r1 hq=>?_
  let(v,z,rp):=(r.evo P).g i _ _ ei U;refine(v,z,hk dl H1 σ q _ _ (r.rd.evo P) hq λy u F2 H2 V r2 hq=>?_)
  split at hq
  ·rename_i k ek;let(hz,hm,ht,hq):=hq;obtain rfl:=r1.r.im ht;have Q:=rp.evo P.d V;let(p,vs,G,U,eF,h1,h2):=Q.r.dic;obtain rfl:=h2.im hm;rw[r2.r.key ek];exact(p,_,U,yQ.k h1 (by rw[h2.len];exact hz),E.nx _ _ _ (r.HV ei z (P.trans V) (a7.put (r1.evo P.d V).r h2)) hq)
  ·exact hq.elim
 ·exact hq.elim
def jC(g:X.A.units+1<cLine)(ho:PE X o (b8 i))(hk:QPE X K a tk qk)(hv:QPE X K b tv qv)(hs:‹swapsWith b (Z (.Subscript o a pos')) pos.line X.env=pure false›):
  QPS X K (.Assign [.Subscript o a pos'] b pos) (HL (b8 i) tk tv) (BJ i qk qv):=(rn g ho hk.h hv.h hs,Mg hk.s hv.s)
def rj:QPF X K (.Dict [] [] pos) Hj (qC (.d [])):=(Ju,λdl H σ q Q R rd hq k=>λp hp=>k _ _ [p] _ ((Evo.refl rd.d).new hp) (.d az .nil,λb g=>by rw[d2.mp g];exact rd.d.nd0 hp) (λb g=>by rw[d2.mp g];exact hp) ad hq)
def T9(neg:Bool):Q2:=λt u Q=>match u with
 |.d ks=>match t.key with
  |some k=>Q (.b (if neg then !(bC ks k).isSome else(bC ks k).isSome))
  |none=>False
 |_=>False
inductive MG(neg:Bool)(y:V)(x:V)(H:Hp)(Q:VK):Prop
 |mk(a o:_)(h1:x=.ref a)(h2:gv H a y o)(h3:Q (.bl (if neg then !o.isSome else o.isSome)) H)
def xS(P:X.A.units+1<cLine):OpR X (compareOp .In) (MG ϊ):=by
 intro gd s σ H y x u v Q I z K h;let(a,o,U,g,q):=h;cases K;exact Wr P I g z λs' V=>(.bl _,H,V,U,q)
def vW(P:X.A.units+1<cLine):OpR X (compareOp .NotIn) (MG O):=by
 intro gd s σ H y x u v Q I z K h;let(a,o,U,g,q):=h;cases K;exact Oy P I g z λs' V=>(.bl _,H,V,U,q)
def C8:dO K (MG neg) (T9 neg):=by
 intro dl H x y t u F G Q R D V P hq k;unfold T9 at hq
 split at hq
 ·split at hq
  ·rename_i k0 ek;let(p,vs,G,U,_,h1,h2):=P.r.dic;rw[V.r.key ek];refine(p,_,U,gv.k h1,k _ _ [] H (.refl D) (.c (.b _)) bY kc ?_)
   have e:∀{ks:List (Key×T)},a7 K dl H vs ks G->(bP vs k0).isSome=(bC ks k0).isSome:=λ{ks} h2=>by
    obtain⟨q,g⟩|⟨_,_,_,q,g,_⟩:=h2.look k0
    ·rw[q,g];rfl
    ·rw[q,g];rfl
   rw[e h2];exact hq
  ·exact hq.elim
 ·exact hq.elim
def QQ:Q2:=λt u Q=>match t with
 |.d ks=>match u.key with
  |some k=>Ex2 (λx=>bC ks k=Z x) Q
  |none=>False
 |_=>qIx t u Q
inductive TK(x:V)(y:V)(H:Hp)(Q:VK):Prop
 |mk(a kvs k v:_)(h1:x=.ref a)(h2:y=kV k)(h3:H a=Z (.dK kvs))(h4:bP kvs k=Z v)(h5:Q v H)
def Ob:IxR X TK:=by
 intro value slice gd s σ H x y v u Q I P K h hs;let(a,kvs,k,w,U,U,ha,hv,q):=h;cases P;let(z,hd,vs,rel,dd):=gJ I.hok (Rd.of ha);let(V,hw,g):=j8.some_of (by rw[<- hv];exact rel.val k)
 exact subscriptTail_builtinR dd.typeIs PySem.F.slot_dict_getitem.lookup (wpAny_getItem_of (kX K) dd.mapOf hw (U,w,H,I.tok _,g,q)) hs
def Qq(K:BT):R2:=λx y H Q=>rIx K x y H Q\/TK x y H Q
def V3(g:X.K=K):IxR X (Qq K):=by subst g;exact Cc.or Ob
def Mp:GH K (Qq K) QQ:=by
 intro dl H x y t u F G Q R D P r2 hq k;unfold QQ at hq
 split at hq
 ·split at hq
  ·rename_i k0 ek;let(z,g,hq):=hq;let(p,vs,G,U,eF,h1,h2):=P.r.dic;rw[r2.r.key ek];obtain⟨q,V⟩|⟨t,v,G',q,V,z3,z4⟩:=h2.look k0
   ·rw[q]at g;cases g
   ·rw[q]at g;cases g;exact .inr (p,vs,k0,v,U,U,h1,V,k v _ G' H (.refl D) (Rp.sub z3 P.n λb hb=>by rw[eF];exact j1 _ (z4 b hb)) hq)
  ·exact hq.elim
 ·exact .inl (Hz dl H x y t u F G Q R D P r2 hq k)
def xD(ha:QPE X K a ta qa)(g:QPE X K b tb qb)(hs:kF b:=by intro _ _;rfl)(q:‹X.K=K›):QPE X K (.Subscript a b pos) (tOp (Qq K) ta tb) (qOp QQ qa qb):=(vT (V3 q) ha.h g.h hs,sx Mp ha.s g.s)
def IJ(qd qk qx:QE):QE:=λq Q=>qd q λd=>match d with
 |.d ks=>qk q λu=>match u.key with
  |some k=>qx q λx=>Q ((bC ks k).getD x)
  |none=>False
 |_=>False
def MQ(hu:X.A.units+1<cLine)(hd:QPE X K d td qd)(hk:QPE X K e tk qk)(hx:QPE X K f tx qx)(m:M2 X d "get" apos e f aQ:=by exact(U,U,U,U)):QPE X K (.Call (.Attribute d "get" apos) [e,f] [] aQ) (Bi td tk tx) (IJ qd qk qx):=
 (zC hu hd.h hk.h hx.h m,λdl H σ q Q R rd hq k=>hd.s dl H σ q _ _ rd hq λv t F H1 P r1 hq=>by
  split at hq
  ·let(p,vs,G,U,eF,h1,h2):=r1.r.dic;refine(p,U,.inl (vs,Rd.of h1),hk.s dl H1 σ q _ _ (rd.evo P) hq λy u F2 H2 g r2 hq=>?_)
   split at hq
   ·rename_i k0 ek;refine hx.s dl H2 σ q _ _ ((rd.evo P).evo g) hq λz w F3 H3 e3 r3 hq=>?_
    have rp:=(r1.evo P.d g).evo g.d e3;let(p',ay,G',e',av,ar,ak):=rp.r.dic;cases e';rw[r2.r.key ek];refine(_,gv.k ar,?_);obtain⟨z1,V⟩|⟨t,v,G2,z1,V,z3,z4⟩:=ak.look k0
    ·rw[V];rw[z1]at hq;exact k _ _ F3 H3 ((P.trans g).trans e3) r3 hq
    ·rw[V];rw[z1]at hq;exact k _ _ G2 H3 ((P.trans g).trans e3) (Rp.sub z3 rp.n λb hb=>by rw[av];exact j1 _ (z4 b hb)) hq
   ·exact hq.elim
  ·exact hq.elim)
def Wv:T->Option Str
 |.s x=>Z x
 |_=>Y
abbrev txs:List T->Option (List Str):=picks Wv
theorem aB.txs{vs:List V}{F:List J}(h:aB K dl H vs ts F)(e:L2.txs ts=Z bs):vs=bs.map V.str:=
 h.picks (λv t F a h e=>by cases t <;> first|(cases e;exact h.str.1)|cases e) e
def L0(bs:List Str):txs (bs.map T.s)=Z bs:=by
 induction bs with
 |nil=>rfl
 |cons b r g=>show(txs (r.map T.s)).map (b :: ·)=_;rw[g];rfl
def T3(qo qe:QE):QE:=λq Q=>qo q λs=>match s with
 |.s sep=>qe q λt=>match t with
  |.l xs=>Ex4 (λys=>txs xs=Z ys) (λys=>(ys.map (·.length)).sum+ys.length*sep.length<=16777216) (λys=>(.s (Txt.join sep ys))) Q
  |_=>False
 |_=>False
def MP(ho:QPE X K o to qo)(he:QPE X K e te qe)(hK:‹X.K=K›)(cg:‹attributeBase o "join" X.env (eval o X.env)=eval o X.env›)
  (jT:‹At X aQ [e]›)
  (cf:‹(apos.endLine==aQ.line)=true›) (hs:‹AC X e []›) (c8:‹(backTo aQ (kg [] X.env)).any (·.1)=false›):
  QPF X K (.Call (.Attribute o "join" apos) [e] [] aQ) (tBM K "str" (rJoin K) to (di te ix)) (T3 qo qe):=(by
 subst hK;exact vV PySem.F.plainAttrs_str PySem.F.slot_str_join PySem.F.type_str_join NS ho.h (bX he.h dC hs) cg jT cf hs c8,λdl H σ q Q R rd hq k=>ho.s dl H σ q _ _ rd hq λv t F H1 g V hq=>by
  split at hq
  ·let(U,_):=V.r.str;refine(U,he.s dl H1 σ q _ _ (rd.evo g) hq λw u F2 H2 e2 P hq=>?_)
   split at hq
   ·let(ys,hy,hz,hq):=hq;let(p,vs,G,U,eF,h1,h2):=P.r.lst;have ev:=h2.txs hy;subst ev;exact(_,p,ys,U,U,SqL.of h1,hz,k _ _ [] H2 (g.trans e2) (.c (.s _)) bY kc hq)
   ·exact hq.elim
  ·exact hq.elim)
def Ph(i:Nat)(qk qv:QE):QS:=λD q=>qv q λt=>match q[i]? with
 |some (.o (.l xs))=>qk q λu=>match u with
  |.i k=>∃j,ixN xs.length k=Z j/\T.ims xs=O/\t.im=O/\D.nx (q.set i (.o (.l (xs.set j t))))
  |_=>False
 |_=>False
end
def Aj(vs ws:List V):Bool:=vs.length==ws.length&&(AK vs.length).all λj=>match vs[j]?,ws[j]? with|some x,Z y=>eqV x y|_,_=>ϊ
variable{its:List B}
section
variable{X:Cx}{K:BT}
def Vals.at'(r:Vals vs its)(h:j<its.toArray.size):∃v,vs[j]?=Z v/\RelV v its.toArray[j]:=by
 have hl:=r.length;have g:=(h:)
 have hv:j<vs.length:=al
 let(u,h1,h2):=r.get (i:=j) (x:=vs[j]) (by simp[hv])
 have:its[j]?=Z its[j]:=by simp[g]
 rw[this]at h1;cases h1;exact(vs[j],by simp[hv],(h2:))
def rD{vs:List V}(h:vs.all gh=O)(e:vs[j]?=Z v):gh v=true:=RY.mp h v (gV e)
inductive TL(K:BT)(x:V)(y:V)(H:Hp)(Q:VK):Prop
 |mk(p q vs ws:_)(h1:x=.ref p)(h2:y=.ref q)(h3:((SqL K H p vs/\SqL K H q ws)\/(SqT K H p vs/\SqT K H q ws)))(h4:vs.all gh=O)(h5:ws.all gh=O)(h6:Q (.bl (Aj vs ws)) H)
def Rt(hu:X.A.units+1<cLine):OpR X (compareOp .Eq) (TL X.K):=by
 intro gd s σ H x y v u Q I rx ry h;let(p,q,vs,ws,U,U,hs,f1,f2,k):=h;cases rx;cases ry;obtain⟨h1,h2⟩|⟨h1,h2⟩:=hs
 ·let(its,z,p1,_):=I.list h1;let(eT,g,p2,_):=I.list h2;have l1:=z.length;have l2:=g.length;by_cases hl:its.length=eT.length
  ·refine SeqAt.eq_listAt (e:=λj=>match vs[j]?,ws[j]? with|some x,Z y=>eqV x y|_,_=>ϊ) p1.isList p2.isList (hl:) al (λj g1 g2=>?_) (.bl _,H,I,U,?_)
   ·let(a,V,ra):=z.at' g1;let(b,P,rb):=g.at' g2;simp only[V,P];exact yu ra rb (rD f1 V) (rD f2 P)
   ·have e:Aj vs ws=(AK its.toArray.size).all λj=>match vs[j]?,ws[j]? with|some x,Z y=>eqV x y|_,_=>false:=by
     unfold Aj;rw[show(vs.length==ws.length)=O from by lia,Bool.true_and,nP,l1]
    rw[<- e];exact k
  ·refine SeqAt.eq_list_lengthsAt p1.isList p2.isList (hl:) al (.bl _,H,I,U,?_)
   have e:Aj vs ws=false:=by
    unfold Aj;rw[show(vs.length==ws.length)=ϊ from by simp;lia,Bool.false_and]
   rw[<- e];exact k
 ·let(its,z,p1,_):=I.tuple h1;let(eT,g,p2,_):=I.tuple h2;have l1:=z.length;have l2:=g.length;refine SeqAt.eq_tupleAt (e:=λj=>match vs[j]?,ws[j]? with|some x,Z y=>eqV x y|_,_=>ϊ) (p1) (p2) al (λj g1 g2=>?_) (.bl _,H,I,U,?_)
  ·let(a,V,ra):=z.at' g1;let(b,P,rb):=g.at' g2;simp only[V,P];exact yu ra rb (rD f1 V) (rD f2 P)
  ·have e:Aj vs ws=((AK (min its.toArray.size eT.toArray.size)).all (λj=>match vs[j]?,ws[j]? with|some x,Z y=>eqV x y|_,_=>ϊ)&&its.toArray.size==eT.toArray.size):=by
    unfold Aj;rw[nP,nP,<- l1,<- l2,Bool.and_comm];by_cases hl:vs.length=ws.length
    ·rw[hl,Nat.min_self]
    ·rw[show(vs.length==ws.length)=ϊ from by simpa using hl,XY,XY]
   rw[<- e];exact k
def eqF(xs ys:List T):Bool:=Aj (xs.map T.v) (ys.map T.v)
def BL:Q2:=λt u Q=>match t,u with
 |.l xs,.l ys=>(fls xs&&fls ys)=O/\Q (.b (eqF xs ys))
 |.t xs,.t ys=>(fls xs&&fls ys)=O/\Q (.b (eqF xs ys))
 |t,u=>qEq t u Q
def Qr(K:BT):R2:=λx y H Q=>rEq x y H Q\/TL K x y H Q
def xR(g:X.A.units+1<cLine)(q:X.K=K):OpR X (compareOp .Eq) (Qr K):=by subst q;exact Pu.or (Rt g)
def qW:dO K (Qr K) BL:=by
 intro dl H x y t u F G Q R D P q hq k;unfold BL at hq
 split at hq
 ·let(p,vs,G1,U,U,h1,h2):=P.r.lst;let(V,g,G2,U,U,h3,h4):=q.r.lst;let(f,hq):=hq;rw[uB]at f;let(U,U):=h2.vs f.1;let(U,U):=h4.vs f.2;exact .inr (p,V,_,_,U,U,.inl (SqL.of h1,SqL.of h3),ua f.1,ua f.2,k _ _ [] H (.refl D) (.c (.b _)) bY kc hq)
 ·let(p,vs,U,h1,h2):=P.r.tup;let(V,g,U,h3,h4):=q.r.tup;let(f,hq):=hq;rw[uB]at f;let(U,U):=h2.vs f.1;let(U,U):=h4.vs f.2;exact .inr (p,V,_,_,U,U,.inr (SqT.of h1,SqT.of h3),ua f.1,ua f.2,k _ _ [] H (.refl D) (.c (.b _)) bY kc hq)
 ·exact .inl (Qj dl H x y t u F G Q R D P q hq k)
end
end L2
namespace PySem
open Sem (wp)
section
variable{prog:Da}{w:Cl}{A:Db}{E:B->ϋ->Prop}
def qH:typeLookup (.type "tuple") "keys"=pure none:=am_miss_of_fast be
def tN:typeLookup (.type "list") "keys"=pure none:=am_miss_of_fast be
set_option maxRecDepth 8000 in
theorem jb{s:ϋ}{a:J}{o:Obj}{xs:Array B}{k:Nat}{Q:Option B->ϋ->Prop}
  (hx:s.heap.get? a=Z o) (P:o.cls=.type "tuple") (K:o.data=.seq xs k) (hd:o.dict=Y) (V:A.handled=Y)
  (h:∀h' tk,(∀b o,s.heap.get? b=Z o->h'.get? b=Z o)->Q Y {s with heap:=h',toks:=tk}):
  wpAny (model prog w) A (getAttr? (.ref a) "keys") Q E s:=by
 let(c,ak,dat,sl):=o;simp only at P K hd;subst P K hd;let(hp,g,d,tk,os):=s;have hT:∀q,((hp,g,d,q,os):ϋ).TypeIs (.ref a) "tuple":=λ_=>(_,hx,U)
 have f1:=sub_AttributeError;have f3:=F.slot_tuple_getattribute.lookup;have f4:=F.slot_tuple_getattribute.bind (.ref a);have f5:=am_tuple_getattr_none;unfold getAttr? getAttrBy? getAttrBy
 repeat (any_goals (first|assumption|exact hT _|((with_reducible show wpAny _ _ (call (B.builtin "tuple.__getattribute__") _ _) _ _ _);refine call_meets F.slot_tuple_getattribute (hT _) am_entry_tuple_getattribute (F.args_tuple_getattribute_2 _ _) (meets_getattribute_miss_tuple a xs k sl "keys" _ qH be be) (hx,V,λh' q e z=>?_))|wp_step))
 let(t',u',he):=z.there;show wpAny _ _ (getattributeRaised _ _ _ _ _ _ _) _ _ _;unfold getattributeRaised
 repeat (any_goals (first|assumption|wp_step))
 exact h _ _ z.keeps
set_option maxRecDepth 8000 in
theorem jO{s:ϋ}{a:J}{o:Obj}{xs:Array B}{k:Nat}{Q:Option B->ϋ->Prop}
  (hx:s.heap.get? a=Z o) (P:o.cls=.type "list") (K:o.data=.seq xs k) (hd:o.dict=Y) (V:A.handled=Y)
  (h:∀h' tk,(∀b o,s.heap.get? b=Z o->h'.get? b=Z o)->Q Y {s with heap:=h',toks:=tk}):
  wpAny (model prog w) A (getAttr? (.ref a) "keys") Q E s:=by
 let(c,ak,dat,sl):=o;simp only at P K hd;subst P K hd;let(hp,g,d,tk,os):=s;have hT:∀q,((hp,g,d,q,os):ϋ).TypeIs (.ref a) "list":=λ_=>(_,hx,U)
 have f1:=sub_AttributeError;have f3:=F.slot_list_getattribute.lookup;have f4:=F.slot_list_getattribute.bind (.ref a);have f5:=am_list_getattr_none;unfold getAttr? getAttrBy? getAttrBy
 repeat (any_goals (first|assumption|exact hT _|((with_reducible show wpAny _ _ (call (B.builtin "list.__getattribute__") _ _) _ _ _);refine call_meets F.slot_list_getattribute (hT _) am_entry_list_getattribute (F.args_list_getattribute_2 _ _) (meets_getattribute_miss_list a xs k sl "keys" _ tN be be) (hx,V,λh' q e z=>?_))|wp_step))
 let(t',u',he):=z.there;show wpAny _ _ (getattributeRaised _ _ _ _ _ _ _) _ _ _;unfold getattributeRaised
 repeat (any_goals (first|assumption|wp_step))
 exact h _ _ z.keeps
end
namespace F
def bu:entryFor table "dict.update.loop"=Z Builtin.«dict.update.loop»:=entryFor_of_tree bi
def aN:plainId "dict.update.loop"=true:=be
end F
section
variable{prog:Da}{w:Cl}{A:Db}{R:Result->ϋ->Prop}{I:J}{fp wr:List J}{n:Nat}{P:Nat->B->Prop}{St:Nat->Do->Prop}{κ:Type}[DecidableEq κ]{knd:KeyKind prog w κ}
def uU(kvs:List (κ×B))(k:κ)(v:B):(stored kvs k v).length<=kvs.length+1:=by
 unfold stored
 split <;> simp
def vj(kvs:List (κ×B)):∀(more:List (κ×B)),(merged kvs more).length<=kvs.length+more.length:=by
 intro more
 induction more generalizing kvs with
 |nil=>exact ka _
 |cons p r g =>
  have h1:=g (stored kvs p.1 p.2);have h2:=uU kvs p.1 p.2;show(merged (stored kvs p.1 p.2) r).length<=_;simp only[pq]
  lia
theorem gT(W:Walks prog w A.in1 I fp wr n P St)(S:J)(aP:S ∉ fp)(res:B)(h0:Do)(kvs pairs:List (κ×B))(hsz:kvs.length+pairs.length<=kf)(a0:pairs.length=n)
  (hp:∀i v,P i v->∃(a:J)(o:Obj)(key val:B)(k:κ)(m:Nat),v=.ref a/\pairs[i]?=Z (k,val)/\knd.is k key=O/\h0.get? a=Z o/\o.cls=.type "tuple" /\ o.data=.seq #[key,val] m/\a ∉ wr/\a≠S):
  ∀(j i:Nat)(s:ϋ),n-i=j->i<=n->St i s.heap->s.heap.DictOf knd S (merged kvs (pairs.take i))->(∀b o,b ∉ wr->b≠S->h0.get? b=Z o->s.heap.get? b=Z o) ->
  (∀h' tk,(∀b o,b ∉ wr->b≠S->s.heap.get? b=Z o->h'.get? b=Z o)->h'.DictOf knd S (merged kvs pairs)->R (.ok (.ret res)) {s with heap:=h',toks:=tk}) ->
  codeAny (model prog w) A (.builtin "dict.update.loop" ([.ref S,.ref I,rawInt i,res],[])) R s:=by
 have ay:=λh=>aP (W.sub _ h)
 intro j
 induction j with
 |zero =>
  intro i s hk hi Q hS V hR;have a5:i=n:=al
  subst a5;refine QG F.bu ?_;refine dF (W.done s _ _ Q λh' tk g=>?_)
  refine dF (kb (kb (hR h' tk (λb o K _ e=>g b o K e) ?_)))
  rw[<- a0,mu]at hS;let(o,es,ep,ho,r):=hS;exact(o,es,ep,g S o ay ho,r)
 |succ j ih =>
  intro i s hk hi Q hS V hR;have ar:=Xl hk;refine QG F.bu ?_;refine dF (W.item i s _ _ ar Q λv h' tk hP Ci g=>?_)
  let(a,o,key,val,k,m,U,aV,t6,ho,hc,hd,av,bj):=hp i v hP;have ak:=g a o av (V a o av bj ho);have bM:h'.DictOf knd S (merged kvs (pairs.take i)):=by
   let(o,es,ep,ho,r):=hS;exact(o,es,ep,g S o ay ho,r)
  refine dF (CF (dF (wpAny_tryCatch ?_)));refine dF (Lo (o,ak,hc) ?_);refine dF (wpAny_seqItems ak hd (kb ?_));have b0:=by
   have h1:=vj kvs (pairs.take i);rw[p7]at h1;omega
  refine CF (wpAny_dictSet_pairs t6 bM λbN vw aR=>?_)
  have e:=merged_take_succ kvs pairs i (k,val) aV;rw[<- e]at vw;have fr:∀b o,b≠S->h'.get? b=Z o->bN.get? b=Z o:=λb o K eb=>(aR.2 b K).trans eb
  exact kb (O3 F.aN _,ih (i+1) _ (by rw[Yl,hk];rfl) ar (W.frame _ _ _ Ci λb K o eb=>fr b o (λz=>aP (z▸K)) eb) vw (λb o K q eb=>fr b o q (g b o K (V b o K q eb))) λh3 aQ a3 bp=>(hR h3 aQ (λb o K q eb=>a3 b o K q (fr b o q (g b o K eb))) bp))
end
section
variable{prog:Da}{w:Cl}{A:Db}{s:ϋ}{κ:Type}[DecidableEq κ]{knd:KeyKind prog w κ}
theorem gU{its:Array B}{kvs pairs:List (κ×B)}{id:String}{res:B}{R:Result->ϋ->Prop}(Q:A.handled=Y)(hS:s.heap.DictOf knd S kvs)(ar:p≠S)
  (ho:∃(o:Obj)(n:Nat),s.heap.get? p=Z o/\o.dict=Y/\o.data=.seq its n/\(o.cls=.type "tuple" \/ o.cls=.type "list")) (hsz:kvs.length+pairs.length<=kf) (av:pairs.length=its.size)
  (hp:∀(i:Nat)(v:B),its[i]?=Z v->∃(a:J)(o:Obj)(key val:B)(k:κ)(m:Nat),v=.ref a/\pairs[i]?=Z (k,val)/\knd.is k key=O/\s.heap.get? a=Z o/\o.cls=.type "tuple" /\ o.data=.seq #[key,val] m)
  (hR:∀h' tk,(∀b o,b≠S->s.heap.get? b=Z o->h'.get? b=Z o)->h'.DictOf knd S (merged kvs pairs)->R (.ok (.ret res)) {s with heap:=h',toks:=tk}):
  wpAny (model prog w) A.in1 (Builtin.Dict.updateFrom id S (.ref p) [] res) (λfin s'=>match fin with|.done f=>R (.ok f) s' |.again c'=>c'.quiet=O/\codeAny (model prog w) A c' R s') (λe s'=>R (.error e) s') s:=by
 let(o,n,hg,P,q,g):=ho;have fin:∀(h1:Do) tk h2 I St,(∀b o,s.heap.get? b=Z o->h1.get? b=Z o)->(∀b o,h1.get? b=Z o->h2.get? b=Z o)->h1.objs.size<=I->Walks prog w A.in1 I [I,p] [I] its.size (λi v=>its[i]?=Z v) St->St 0 h2 ->
   codeAny (model prog w) A (.builtin "dict.update.loop" ([.ref S,.ref I,rawInt 0,res],[])) R {s with heap:=h2,toks:=tk}:=by
  intro h1 tk h2 I St k1 k2 hI W ak;have K:∀b o,s.heap.get? b=Z o->b≠I:=λb o e z=>by
   have:=j5 (k1 b o e)
   exact absurd (ro this hI) (by rw[z];exact SQ _)
  have ay:S ∉ [I,p]:=λz=>by
   let(o,_,_,e,_):=hS;obtain z|z:=kO.mp z
   ·exact K S o e z
   ·exact ar (d2.mp z).symm
  refine gT (knd:=knd) W S ay res s.heap kvs pairs hsz av (λi v hP=>?_) its.size 0 _ U (v5 _) ak ?_ (λb o _ _ e=>k2 b o (k1 b o e)) λh' V hk aP=>?_
  ·let(a,oa,key,val,k,m,e1,e2,e3,e4,e5,e6):=hp i v hP;refine(a,oa,key,val,k,m,e1,e2,e3,e4,e5,e6,λz=>K a oa e4 (d2.mp z),λz=>?_)
   let(o,_,_,e,hc,hd,_):=hS;rw[<- z,e4]at e;cases e;rw[e6]at hd;cases hd
  ·let(o,es,ep,e,r):=hS;exact(o,es,ep,k2 _ _ (k1 _ _ e),r)
  ·exact hR h' V (λb o hb e=>hk b o (λz=>K b o e (d2.mp z)) hb (k2 b o (k1 b o e))) aP
 obtain g|g:=g
 ·refine dF (Lo (o,hg,g) ?_);refine dF (jb hg g q P Q λh1 tk k1=>?_)
  refine dF (VQ ?_);have hT:h1.IsTuple p its:=(o,k1 _ _ hg,g,n,q);exact dF (wpAny_pyIter_tuple hT (kb (O3 F.aN _,(fin h1 tk _ h1.objs.size _ k1 (λb o e=>fC _ e) (ka _) (Walks.tuple (show A.in1.handled=Y from Q) _ p (ri (j5 (k1 _ _ hg))) its) ((_,ke _ U,U,U),hT.push _)))))
 ·refine dF (Lo (o,hg,g) ?_);refine dF (jO hg g q P Q λh1 tk k1=>?_)
  refine dF (VQ ?_);have hT:h1.IsList p its:=(o,k1 _ _ hg,g,n,q);exact dF (wpAny_pyIter_list hT (kb (O3 F.aN _,(fin h1 tk _ h1.objs.size _ k1 (λb o e=>fC _ e) (ka _) (Walks.list (show A.in1.handled=Y from Q) _ p (ri (j5 (k1 _ _ hg))) its) ((_,ke _ U,U,U),hT.push _)))))
end
end PySem
namespace L2
open PySem PySem.Spec PyProof.Rows
variable{gd:List (J×Obj)}{H:Hp}{a:J}
section
variable{X:Cx}
def Inv.P2{σ:St}(I:Inv X gd σ H s)(h:H a=Z (.tup xs)):∃its:List B,Vals xs its/\lX s.heap a its.toArray/\xs.length<=kf:=by
 let(z,its,r,p):=(I.hok a _ h);exact(its,r,p,z)
def zD{σ:St}(I:Inv X gd σ H s):∀{ps:List J}{kvs:List (Key×V)}{us:List B},Vals (ps.map V.ref) us->ps.length=kvs.length->(∀(i:Nat)(p:J)(kv:Key×V),ps[i]?=Z p->kvs[i]?=Z kv->H p=Z (.tup [kV kv.1,kv.2])) ->
  ∃pairs:List (Key×B),KV kvs pairs/\∀(i:Nat)(v:B),us[i]?=Z v->∃(a:J)(o:Obj)(key val:B)(k:Key)(m:Nat),v=.ref a/\pairs[i]?=Z (k,val)/\(a6 X.prog X.w).is k key=O/\s.heap.get? a=Z o/\o.cls=.type "tuple" /\ o.data=.seq #[key,val] m:=by
 intro ps
 induction ps with
 |nil =>
  intro kvs us r hl _;have e:kvs=[]:=by cases kvs with|nil=>rfl|cons _ _=>simp at hl
  subst e;cases r;exact([],.nil,λi v h=>by simp at h)
 |cons p ps ih =>
  intro kvs us r hl h;cases kvs with
  |nil=>simp at hl
  |cons kv kvs =>
   cases r with
   |@cons _ u _ us P K =>
    let(pairs,h1,h2):=ih K (hl:) λi p kv q g=>h (i+1) p kv (q:) (g:)
    have hp:=h 0 p kv ad ad
    let(its,z,(o,ho,hc,m,hd),_):=I.tuple (SqT.of hp);cases z with
    |@cons _ key _ rest k1 k2 =>
     cases k2 with
     |@cons _ val _ Tr k3 Q =>
      cases Q;refine((kv.1,val)::pairs,.cons (U,k3) h1,λi v hv=>?_)
      cases i with
      |zero =>
       simp at hv;subst hv
       cases(P)
       exact(p,o,key,val,kv.1,m,U,ad,kX k1,ho,hc,hd)
      |succ i =>
       let(a,oa,V2,PZ,k,m',q,g,e3):=h2 i v (hv:)
       exact(a,oa,V2,PZ,k,m',q,(g:),e3)
inductive xw(xs:List V)(H:Hp)(Q:VK):Prop
 |mk(p:J)(ps:List J)(kvs:List (Key×V))(h1:xs=[.ref p])(h2:(H p=Z (.tup (ps.map V.ref))\/H p=Z (.lst (ps.map V.ref))))(h3:ps.length=kvs.length)(h4:(∀(i:Nat)(a:J)(kv:Key×V),ps[i]?=Z a->kvs[i]?=Z kv->H a=Z (.tup [kV kv.1,kv.2])))(h5:∀d,H d=Y->Q (.ref d) (upd H d (.dK (iP [] kvs))))
theorem cv(hc:X.calm=O):cx X (.type "dict") xw:=by
 intro gd s σ H xs us Q I r h;let(p,ps,kvs,U,hp,hl,ak,q):=h;let(u,U,ru):=vals1 r;cases ru;have hh:=I.ok.hd hc;obtain⟨its,rv,z,ob⟩:∃its:List B,Vals (ps.map V.ref) its/\(ps.map V.ref).length<=kf/\∃(o:Obj)(n:Nat),s.heap.get? p=Z o/\o.dict=Y/\o.data=.seq its.toArray n/\(o.cls=.type "tuple" \/ o.cls=.type "list"):=by
  obtain hp|hp:=hp
  ·let(its,rv,((o,ho,h1,n,h2),o',K,h3),z):=I.P2 hp;rw[ho]at K;cases K;exact(its,rv,z,o,n,ho,h3,h2,.inl h1)
  ·let(z,its,n,rv,e):=(I.hok p _ hp);exact(its,rv,z,_,n,e,U,U,.inr U)
 let(pairs,kv,tZ):=zD I rv hl ak;refine callType_codes (Q₁:=λobj g=>obj=.ref s.heap.objs.size/\g={s with heap:=s.heap.push {cls:=.type "dict",data:=.dict #[]}}) F.kt_called_dict (F.kt_typeCall_dict_1 _) F.entry_dict_init (kt_code_dict_new _ (U,U)) ?_
 rintro obj g ⟨rfl,rfl⟩
 have P:(s.heap.push {cls:=.type "dict",data:=.dict #[]}).DictOf (a6 X.prog X.w) s.heap.objs.size []:=Heap.DictOf.new s.heap;refine(P.typeIs,F.args_dict_init_2 _ _,(dF (dF (wpAny_notOrdered_dict P.typeIs (kb ?_)))));let(o,n,ho,ay,av,aP):=ob;have ar:=rv.length;rw[cO]at ar z;have aQ:=kv.length;refine gU (pairs:=pairs) hh P (ri (j5 ho)) (o,n,fC _ ho,ay,av,aP) (by simp only[WJ];lia) (by rw[nP];lia) (λi v hv=>?_) λh' tk hk hd=>?_
 ·let(a,oa,key,val,k,m,e1,e2,e3,e4,e5,e6):=tZ i v (hv:)
  exact(a,oa,key,val,k,m,e1,e2,e3,fC _ e4,e5,e6)
 ·refine(U,.ref s.heap.objs.size,_,I.laid (λb u e=>hk b u (ri (j5 e)) (fC _ e)) (ka _) (ud ?_ ?_ (KV.merge kv .nil) hd),U,q _ (I.hok.fresh (ka _)))
  ·have:=e9 kvs []
   simp only[WJ]at this
   lia
  ·have:=I.big
   exact beq_eq_false_iff_ne.mpr (C3 this)
end
def cE:List T->Option (List (Key×T))
 |[]=>Z []
 |.t [k,x]::r=>match k.key,cE r with
  |some k,Z r=>Z ((Prod.mk k x)::r)
  |_,_=>Y
 |_=>Y
def c7(ks more:List (Key×T)):List (Key×T):=more.foldl (λacc p=>g7 acc p.1 p.2) ks
section
variable{K:BT}{dl:Dl}
def zF(h:cE (x::r)=Z g):∃k y k0 q,x=.t [k,y]/\k.key=Z k0/\cE r=Z q/\g=(k0,y)::q:=by
 unfold cE at h
 split at h
 ·rename_i z;cases z
 ·rename_i k y K z;cases z
  split at h
  ·cases h;exact(_,_,_,_,U,(by assumption),(by assumption),U)
  ·cases h
 ·cases h
def aB.pairs{vs:List V}(h:aB K dl H vs xs F):∀{g:List (Key×T)},F=[]->cE xs=Z g ->
  ∃(ps:List J)(kvs:List (Key×V)),vs=ps.map V.ref/\ps.length=kvs.length/\(∀(i:Nat)(a:J)(kv:Key×V),ps[i]?=Z a->kvs[i]?=Z kv->H a=Z (.tup [kV kv.1,kv.2]))/\a7 K dl H kvs g []:=
 h.ind (M:=λvs xs F=>∀{g:List (Key×T)},F=[]->cE xs=Z g ->   ∃(ps:List J)(kvs:List (Key×V)),vs=ps.map V.ref/\ps.length=kvs.length/\(∀(i:Nat)(a:J)(kv:Key×V),ps[i]?=Z a->kvs[i]?=Z kv->H a=Z (.tup [kV kv.1,kv.2]))/\a7 K dl H kvs g []) (λ{g} _ h=>by
  cases h;exact([],[],U,U,λi a kv h=>by simp at h,.nil)) λ_ _ _ _ _ _ h _ ih g e q=>by
  let(e1,e2):=yL.mp e;let(k,y,k0,r0,U,ek,er,U):=zF q;let(ps,kvs,U,hl,ht,hk):=ih e2 er;let(a,ws,U,ha,Q):=h.tup;cases Q with
  |@cons w1 _ _ _ G1 G2 P z =>
   cases z with
   |@cons w2 _ _ _ G3 G4 h2 h3 =>
    cases h3;have e3:=P.key ek;subst e3;let(z1,z2):=yL.mp e1;rw[qg]at z2;subst z1 z2;refine(a::ps,(k0,w2)::kvs,U,by simp[hl],λi b kv h1 h2=>?_,.cons h2 hk)
    cases i with
    |zero =>
     simp at h1 h2;subst h1 h2;exact ha
    |succ i=>exact ht i b kv (h1:) (h2:)
theorem a7.c7{kvs':List (Key×V)}{kts':List (Key×T)}{kvs:List (Key×V)}{g:List (Key×T)}{F:List J}(h:a7 K dl H kvs g F):F=[]->∀{vs:List (Key×V)}{ts:List (Key×T)},a7 K dl H vs ts []->a7 K dl H (iP vs kvs) (L2.c7 ts g) []:=
 h.ind (λ_ _ _ h=>h) λ_ _ _ _ _ _ _ h1 _ q e _ _ h=>by
  let(P,z):=yL.mp e;subst P;exact q z (a7.put h1 h)
def MU:QC:=λts Q=>on1 ts λt=>match t with
 |.t xs=>T.ims xs=O/\Ex3 (λg=>cE xs=Z g) (λg=>(.d (c7 [] g))) Q
 |.l xs=>T.ims xs=O/\Ex3 (λg=>cE xs=Z g) (λg=>(.d (c7 [] g))) Q
 |_=>False
def cY:kN K xw MU:=by
 intro dl H vs ts F Q R D r hq k;have go:∀p ws xs,vs=[.ref p]->(H p=Z (.tup ws)\/H p=Z (.lst ws))->aB K dl H ws xs []->(Ex3 (λg=>cE xs=Z g) (λg=>(.d (c7 [] g))) Q)->xw vs H R:=by
  rintro p ws xs rfl hp rs ⟨g,e,hq⟩
  let(ps,kvs,U,hl,V,hk):=rs.pairs U e;refine(p,ps,kvs,U,hp,hl,V,λd hd=>?_)
  have ev:=(Evo.refl D).new (o:=.dK (iP [] kvs)) hd;have h2:=a7.c7 (kvs':=[]) (kts':=[]) hk U .nil;exact k _ _ [d] _ ev (.d az (h2.dA (ev.tf D) (λ_ z=>z) bY),λb P=>by rw[d2.mp P];exact D.nd0 hd) (λb P=>by rw[d2.mp P];exact hd) ad hq
 replace hq:=on1.inv hq
 let(t,U,hq):=hq;cases t with
 |t xs =>
  let(v,U,q):=r.one;let(p,ws,U,h1,h2):=q.r.tup;have e:=h2.im hq.1;subst e;exact go p ws _ U (.inl h1) h2 hq.2
 |l xs =>
  let(v,U,q):=r.one;let(p,ws,G,U,_,h1,h2):=q.r.lst;have e:=h2.im hq.1;subst e;exact go p ws _ U (.inr h1) h2 hq.2
 |_=>exact hq.elim
end
variable{j:Nat}{x:Str}{py:Pos}{P:Da}{mg:Str->Option B}{base:Do}{fd:Ch}{ps:List Str}
section
variable{X:Cx}{K:BT}{a b:Ev}{ta tb:TE}{qa qb:QE}{pos:Pos}
def Qu(hc:X.calm=O)(hN:X.N.Nodup)(hi:X.N[i]?=Z x)(V:X.N[j]?=Z y)(z:i≠j)
  (hx:BC X x) (Q:BC X y) (ha:QPE X K a ta qa) (P:QPE X K b tb qb)
  (hw:swappedStores [.Tuple [.Name x q,.Name y py] kt pt] (.Tuple [a,b] k2 g) X.env=pure (Z [x,y]))
  (hs:‹swapsWithSole [.Tuple [.Name x q,.Name y py] kt pt] (.Tuple [a,b] k2 g) pos.line X.env=pure false›)
  (h1:‹kg [a,b] X.env=(ϊ,eval a X.env)::kg [b] X.env›) (h2:‹AC X b []›):
  QPS X K (.Assign [.Tuple [.Name x q,.Name y py] kt pt] (.Tuple [a,b] k2 g) pos) (P8 i j (di ta (di tb ix))) (TY i j qa qb):=
 (Q6 hc hN hi V z hx Q (bX ha.h (bX P.h dC h2) h1) hw hs,Mi ha.s P.s)
def oU:PSp:=λts Q=>on2 ts λt u=>match t with
 |.cB=>match u with|.i m=>0<m/\m<18446744073709551616/\∀r,0<=r->r<m->Q (.i r)|_=>False
 |_=>False
theorem fB(F:bf P w K mg base CX0 k f fd ps Ho):bf P w K mg base CX0 k f fd ps (spQ K oU):=by
 refine F.imp λvs H Q E h=>?_
 let(dl,ts,Fp,Qp,D,r,h,fin):=h
 replace h:=on2.inv h
 let(t,u,U,h):=h
 split at h
 ·split at h
  ·let(v,w',F1,F2,U,r1,r2):=r.two;let(a,l,U,hm,_):=r1.r.dea;let(U,_):=r2.r.int;refine(a,l,_,U,D _ hm,h.1,h.2.1,λr H' r0 ak D' q=>fin _ _ [] H' (λb o e n _=>q b o e (n _ hm).1 (n _ hm).2,λp hp=>?_,λb x e=>(x,E3 _,by
    let(s2,n2,l2,Q2):=D _ hm;exact q b _ e (ja e Q2.hd (λz=>nomatch z)) (ja e Q2.hl (λz=>nomatch z)))) (.c (.i _)) bY kc (h.2.2 r r0 ak))
   by_cases e:p=(a,l)
   ·rw[e];exact D'
   ·let(s1,n1,l1,Q1):=D p hp;let(s2,n2,l2,Q2):=D _ hm;let(s3,n3,l3,Q3):=D';have pa:p.1≠a:=λz=>by
     have z1:=Q1.hd;have z2:=Q2.hd;rw[z]at z1;rw[z1]at z2;have z3:=by injection (Option.some.inj z2)
     have z4:=congrArg (λkv=>bP kv (.inr "left")) z3
     exact e (Prod.ext z (V.ref.inj (Option.some.inj z4)))
    have pl:=ja Q1.hd Q2.hl (λz=>nomatch z)
    have ar:=ja Q1.hl Q2.hd (λz=>nomatch z)
    by_cases g:p.2=l
    ·exact(s1,n1,l3,q _ _ Q1.hd pa pl,by rw[g];exact Q3.hl,Q1.s0,Q1.s1,Q1.n0,Q3.l0)
    ·exact(s1,n1,l1,q _ _ Q1.hd pa pl,q _ _ Q1.hl ar g,Q1.s0,Q1.s1,Q1.n0,Q1.l0)
  ·exact h.elim
 ·exact h.elim
end
section
variable{X:Cx}{K:BT}{a b e o:Ev}{tk tv:TE}{qk qv:QE}{pos pos':Pos}
theorem aB.set{dl:Dl}(hw:aK K dl H w t []):∀{vs:List V}{xs:List T}{F:List J}(j:Nat),aB K dl H vs xs F->F=[]->aB K dl H (vs.set j w) (xs.set j t) []
 |_,_,_,_,.nil,_=>.nil
 |_,_,_,0,.cons h r,e=>by
  let(q,g):=yL.mp e;subst q g;exact .cons hw r
 |_,_,_,j+1,.cons h r,e=>by
  let(q,g):=yL.mp e;subst q g;exact .cons h (aB.set hw j r U)
def Hv(hk:i3 K tk qk)(hv:i3 K tv qv):lU K (jm tv (Kv (b8 i) tk HZ)) (Ph i qk qv):=λdl ba hs H σ q Dq D (F,r) hq E=>by
 refine hv dl H σ q _ _ r.rd hq λw t F1 H1 Q r1 hq=>?_
 split at hq
 ·rename_i xs ei;let(v,P,rp):=(r.evo Q).g i _ _ ei U;refine(v,P,hk dl H1 σ q _ _ (r.rd.evo Q) hq λy u F2 H2 e2 r2 hq=>?_)
  split at hq
  ·let(j,hj,hm,ht,hq):=hq;let(U,_):=r2.r.int;obtain rfl:=r1.r.im ht;have V:=rp.evo Q.d e2;let(p,vs,G,U,eF,h1,h2):=V.r.lst;have eG:=h2.im hm;subst eG;exact(p,vs,_,j,U,U,h1,by rw[h2.len];exact hj,(E.nx _ _ _ (r.oK ei P eF (Q.trans e2) (aB.set (r1.evo Q.d e2).r j h2 U) kc bY) hq))
  ·exact hq.elim
 ·exact hq.elim
def xA(ho:PE X o (b8 i))(hk:QPE X K a tk qk)(hv:QPE X K b tv qv)(hs:‹swapsWithSole [.Subscript o a pos'] b pos.line X.env=pure false›)(hw:‹swappedStores [.Subscript o a pos'] b X.env=pure none›)
  (h1:‹(assignEach [.Subscript o a pos'] X.env).map (·.2)=[assign (.Subscript o a pos') X.env]›)
  (ha:∀v,assign (.Subscript o a pos') X.env v=(do
   let g <- holding [v] (eval o X.env)
   let iv <- holding [v,g] (eval a X.env)
   standAt pos'
   holding [v,g,iv] (setItem g iv v)
   release [v,g,iv] []):=by intro _;rfl):QPS X K (.Assign [.Subscript o a pos'] b pos) (jm tv (Kv (b8 i) tk HZ)) (Ph i qk qv):=
 (sR hv.h (Jm ho hk.h set_list ha) hs hw h1,Hv hk.s hv.s)
end
section
def LO(xs ys:List T):List T:=(xs.zip ys).map λp=>.t [p.1,p.2]
end
variable{H2:Hp}
section
variable{X:Cx}{K:BT}{e a b:Ev}{tl:TA}{ql:QA}{pos p bM p2:Pos}{dl:Dl}
def zm(ql:QA):QE:=λq Q=>ql q λts=>on2 ts λt u=>match t with|.t xs=>(match u with|.t ys=>T.ims xs=O/\T.ims ys=O/\Q (.l (LO xs ys))|_=>False)|_=>False
def Fv(h:aB K dl H2 vs xs F):F=[]->∀{ws:List V}{ys:List T}{G:List J},aB K dl H2 ws ys G->G=[]->∀{ps:List J},ps.length=min vs.length ws.length ->
  (∀(j:Nat) p x y,ps[j]?=Z p->vs[j]?=Z x->ws[j]?=Z y->H2 p=Z (.tup [x,y]))->aB K dl H2 (ps.map V.ref) (LO xs ys) []:=
 h.ind (λ_ _ _ _ _ _ ps hl _=>by
   have e:=uC.mp (by rw[hl];exact Nat.zero_min _)
   subst e;exact .nil) λv x vs xs F G h _ q e ws ys G' h' e' ps hl hp=>by
  let(e1,Q):=yL.mp e;subst e1;cases h' with
  |nil =>
   have e:=uC.mp (by rw[hl];exact Nat.min_zero _)
   subst e;exact .nil
  |cons h' g =>
   let(P,z):=yL.mp e';subst P;cases ps with
   |nil=>simp at hl
   |cons p ps =>
    exact aB.cons (.t (hp 0 p _ _ U U U) (aB.cons h (aB.cons h' .nil))) (q Q g z (by simp at hl;omega) λj p x y h1 h2 h3=>hp (j+1) p x y h1 h2 h3)
def y4(ha:OT K 2 tl ql):kM K (sg K tl) (zm ql):=by
 intro dl H σ q Q R rd hq k;refine ha dl H σ q _ _ rd hq λvs ts F H1 V r1 _ g=>?_
 replace g:=on2.inv g
 let(t,u,U,g):=g
 split at g
 ·split at g
  ·let(v,w,F1,F2,U,ar,ak):=r1.two;let(l1,ay,U,h1,h2):=ar.r.tup;let(l2,av,U,h3,h4):=ak.r.tup;let(i1,i2,g):=g;obtain rfl:=h2.im i1;obtain rfl:=h4.im i2;refine(l1,l2,ay,av,U,SqT.of h1,SqT.of h3,λH2 L ps hL hl hn hf hk aP hp=>?_)
   have P:∀b o,H1 b=Z o->H2 b=Z o:=λb o e=>by
    rw[hk b (λz=>by rw[(hf b z).1]at e;cases e) (λz=>by rw[z,hL]at e;cases e)]
    exact e
   have ev:Evo dl H1 H2:=(λb o e _ _=>P b o e,λp hp=>(by
    let(s,n,ls,D):=V.d p hp;exact(s,n,ls,P _ _ D.hd,P _ _ D.hl,D.s0,D.s1,D.n0,D.l0)),λb x e=>(x,E3 _,P _ _ e))
   let(_,WN,z1,b1,c1):=(ar.evo V.d ev).r.tup;cases z1;rw[P _ _ h1]at b1;cases b1;let(_,WM,z2,b2,c2):=(ak.evo V.d ev).r.tup;cases z2;rw[P _ _ h3]at b2;cases b2;exact k _ _ [L] H2 (V.trans ev) (.l aP (Fv c1 U c2 U hl hp),λb hb=>by rw[d2.mp hb];exact V.d.nd0 hL) (λb hb=>by rw[d2.mp hb];exact V.free hL) ad g
  ·exact g.elim
 ·exact g.elim
def BG(V:X.K=K)(hg:Gl X "list")(hm:X.mg "list"=Y)(P:Gl X "zip")(z:X.mg "zip"=Y)(ha:QPA X K [a,b] tl ql)
  (hs:‹kg [a,b] X.env=[(ϊ,eval a X.env),(ϊ,eval b X.env)]›) (q:‹AD X b›)
  (g:‹kg [.Call (.Name "zip" p2) [a,b] [] bM] X.env=(ϊ,eval (.Call (.Name "zip" p2) [a,b] [] bM) X.env)::kg [] X.env›) (Q:‹X.calm=true›):
  QPF X K (.Call (.Name "list" p) [.Call (.Name "zip" p2) [a,b] [] bM] [] pos) (sg K tl) (zm ql):=(by subst V;exact BQ hg hm P z ha.h hs q g Q,y4 ha.s)
end
inductive so(K:BT)(vs:List V)(H:Hp)(Q:VK)(_:XK):Prop
 |mk(a:J)(ns:List Int)(h1:vs=[.ref a])(h2:FzL K H a (ns.map V.int))(h3:ns.length<=63)(h4:∀H',Q (.bl O) H')
theorem U2{K:BT}(h:OX H)(g:SqL K H a xs):FzL K H a xs:=by
 obtain(z |⟨o,z⟩)|z:=g
 ·obtain e |⟨o,ys,e⟩:=h a
  ·rw[e]at z;cases z
  ·rw[e]at z;cases z
 ·exact .inl (o,z)
 ·exact .inr z
variable{H':Hp}
theorem FzL.same{K:BT}(h:FzL K H a xs)(s:lV H H'):FzL K H' a xs:=by
 obtain⟨o,z⟩|z:=h
 ·exact .inl (o,s _ _ z)
 ·exact .inr z
variable{qual:Str}{st:EQ}{N:List Str}{n:Nat}
theorem Fun.VZ{K:BT}(F:Fun K x qual st f fd)(S:aG N ["_law_script"] (ax st))(hN:N.length=n+2)(g:cq st=s1::rest)
  (t7:∀(cdv:B)(A:Db)(outer:List Env)(s:ϋ)(H:Hp)(E:XK),eC k (A.deeper (envOfC qual (ax st) s.heap.objs.size f cdv)) ->
   ∃t1 t qs,PS (yy CX0 P w K mg base N qual (ax st) f cdv A outer s H E).nox s1 t1/\vD (yy CX0 P w K mg base N qual (ax st) f cdv A outer s H E).nox K rest t qs /\
    (∀(a:J)(ns:List Int)(D:Ends),SqL K H a (ns.map V.int)->ns.length<=63->(∀(d l:J)(H':Hp),H d=Y->H l=Y->nV H' d l->lV H H'->D.nx ([Z (.ref a),Z (.ref d)]++tr n Y) H')->t1 D ([Z (.ref a),Y]++tr n Y) H) /\
    ∀ns:List Int,ns.length<=63->qs {nx:=λ_=>False,rt:=λt=>t=.b O} ([.r (.z ns),.r .cB]++tr n .no)):bf P w K mg base CX0 (k+1) f fd ["_law_script"] (so K):=by
 refine F.ok S (λvs H Q E h=>?_) (λcdv A outer s H vs Q E hr h=>?_)
 ·let(a,ns,U,_):=h;rfl
 ·let(a,ns,U,hS,hlen,k):=h;let(t1,t,qs,h1,q,r1,hq):=t7 cdv A outer s H E hr;rw[g];refine(_,bI h1 q.h,?_);have es:start N [V.ref a]=[Z (.ref a),Y]++tr n none:=by
   unfold start;rw[hN];rfl
  rw[es];refine r1 a ns _ hS.sq hlen λd l H' hd hl D1 sm=>?_
  have Dq:Dls [(d,l)] H':=λp hp=>by rw[d2.mp hp];exact D1
  have rp:Rps K [(d,l)] H' [.ref a,.ref d] [.z ns,.cB] ([]++([]++[])):=(.cons (.z (hS.same sm)) (.cons (.x (l:=l) (d2.mpr U)) .nil),bY)
  have R:=vO (n:=n+2) Dq rp ad
  refine q.s [(d,l)] H' [] H' _ _ _ _ R (hq ns hlen) (λ_ _ _ _ z=>z.elim,λ_ _ _ _ z=>z.elim,λ_ _ _ _ z=>z.elim,λv t F H2 _ r' _ _ _ hz=>?_,λ_ _ _ _ _ _ _ _ _ _ _ _ z=>z.elim)
  subst hz;let(U,_):=r'.r.bl;exact k H2
variable{elts:List Ev}{pos':Pos}{tp:Bool}{p1:Pos}{p2:Pos}{bM:Pos}
section
variable{X:Cx}{K:BT}{dl:Dl}
def ia(xs:List T):List T:=xs.zipIdx.map λp=>.t [.i (p.2:Nat),p.1]
def bQ{z:T}(h:(ia xs)[i]?=Z z):∃x,xs[i]?=Z x/\z=.t [.i (i:Nat),x]:=by
 unfold ia at h;rw[fy]at h;let(p,hp,U):=gs.mp h;rw[List.getElem?_zipIdx]at hp;let(x,hx,U):=gs.mp hp;exact(x,hx,ad)
def aZ:(ia xs).length=xs.length:=by simp[ia]
def DU:vE K dl (Ite K O a) (ia xs) [(.ref a,.t xs)] where
 go:=λH i D h hi=>by
  let(F,r):=h (.ref a,.t xs) ad
  let(p,vs,e,h1,h2):=r.r.tup;cases e;rw[aZ]at hi;have l1:i<vs.length:=by rw[h2.len];omega
  exact(vs,vs[i],SqT.of h1,by simp[l1])
 yld:=λH i x fp v H' D h hx y=>by
  have r:=h (.ref a,.t xs) ad
  let(p,vs,e,h1,h2):=r.r.tup;cases e;let(x1,ak,U):=bQ hx;let(w1,G1,ar,V,g):=h2.get ak;let(q,u1,hq,U,U,Q):=y;have e1:=Q vs (SqT.of h1);rw[ar]at e1;cases e1;have rs:Rps K dl H [.int (i),w1] [.i (i),x1] ([]++(G1++[])):=Rps.cons (.i _,bY) (Rps.cons (V,λb P=>r.n b (g b P)) (.nil,bY))
  refine((Evo.refl D).new hq,_,rs.tup D hq,λc P=>.inr ?_)
  rw[qg]at P;exact(_,ad,g c P)
 stop:=λH D h=>by
  let(F,r):=h (.ref a,.t xs) ad
  let(p,vs,e,h1,h2):=r.r.tup;cases e;exact(vs,SqT.of h1,by rw[aZ,h2.len];exact ka _)
variable{e a b:Ev}{te ta:TE}{qe:QE}{tl:TA}{ql:QA}{pos p:Pos}
def Wx(ql:QA):QI:=λq Q=>ql q λts=>match ts with|[.t xs]=>Q (ia xs)|_=>False
def jI{ta:TA}(z:X.K=K)(hg:Gl X "enumerate")(hm:X.mg "enumerate"=Y)(q:bootBuiltins "enumerate"=Z (.type "enumerate"))(ha:PA X [a] ta)(hs:AD X a):
  PI X (.Tuple elts g pos') (.Call (.Name "enumerate" p) [a] [] pos) (tY K tp ta):=by subst z;exact Nh hg hm q ha hs
def xC{V}(hg:Gl X "enumerate")(hm:X.mg "enumerate"=Y)(jU:bootBuiltins "enumerate"=Z (.type "enumerate"))(ha:QPA X K [a] tl ql)(hs:‹AD X a›)(hK:‹X.K=K›):
  QPI X K (.Tuple elts V pos') (.Call (.Name "enumerate" p) [a] [] pos) (tY K O tl) (Wx ql):=(jI hK hg hm jU ha.h hs,λdl H σ q Q R rd hq k=>ha.s dl H σ q _ _ rd hq λvs ts F H' e1 r _ z=>by
 split at z
 ·let(v,U,P):=r.one;let(l1,g,U,h1,h2):=P.r.tup;exact(l1,U,(g,SqT.of h1),k _ _ _ H' e1 DU (λp hp=>by rw[d2.mp hp];exact(_,P)) z)
 ·exact z.elim)
def T2(qe:QE):QE:=λq Q=>qe q λt=>match t with|.t xs=>T.ims xs=O/\Q (.l xs.reverse)|_=>False
def aB.snoc(hv:aK K dl H v t []){vs:List V}(h:aB K dl H vs ts F):F=[]->aB K dl H (vs++[v]) (ts++[t]) []:=
 h.ind (λ_=>.cons hv .nil) λ_ _ _ _ _ _ h _ g e=>by
  let(z,q):=yL.mp e;subst z;exact .cons h (g q)
def aB.rev{vs:List V}(h:aB K dl H vs ts F):F=[]->aB K dl H vs.reverse ts.reverse []:=
 h.ind (λ_=>.nil) λ_ _ _ _ _ _ h _ g e=>by
  let(z,q):=yL.mp e;subst z;rw[Xx,Xx];exact aB.snoc h (g q) U
def xM(hK:X.K=K)(hc:X.calm=O)(V:Gl X "list")(P:X.mg "list"=Y)(Q:Gl X "reversed")(z:X.mg "reversed"=Y)(he:PE X e te)
  (q:AD X e) (g:kg [.Call (.Name "reversed" p2) [e] [] bM] X.env=[(ϊ,eval (.Call (.Name "reversed" p2) [e] [] bM) X.env)]):
  PE X (.Call (.Name "list" p1) [.Call (.Name "reversed" p2) [e] [] bM] [] pos) (oy K te):=by subst hK;exact zz hc V P Q z he q g
def zg(hc:X.calm=O)(ay:Gl X "list")(ar:X.mg "list"=Y)(av:Gl X "reversed")(ak:X.mg "reversed"=Y)(he:QPE X K e te qe)
  (V:‹AD X e›) (P:‹kg [.Call (.Name "reversed" p2) [e] [] bM] X.env=[(ϊ,eval (.Call (.Name "reversed" p2) [e] [] bM) X.env)]›) (hK:‹X.K=K›):
  QPF X K (.Call (.Name "list" p1) [.Call (.Name "reversed" p2) [e] [] bM] [] pos) (oy K te) (T2 qe):=
 (xM hK hc ay ar av ak he.h V P,λdl H σ q Q R rd hq k=>he.s dl H σ q _ _ rd hq λv t F H1 e1 r g=>by
  split at g
  ·let(i1,g):=g;obtain rfl:=r.r.im i1;let(l,vs,U,h1,h2):=r.r.tup;refine(l,vs,U,SqT.of h1,λp hp=>?_)
   have rs:Rps K dl H1 vs.reverse _ []:=(h2.rev U,bY)
   exact k _ _ [p] _ (e1.new hp) (rs.lst e1.d hp) (λb hb=>by rw[d2.mp hb];exact e1.free hp) ad g
  ·exact g.elim)
inductive Ii(x:V)(vs:List V)(H:Hp)(Q:VK):Prop
 |mk(a p:J)(ps:List J)(kvs more:List (Key×V))(h1:x=.ref a)(h2:vs=[.ref p])(h3:H a=Z (.dK kvs))(h4:H p=Z (.lst (ps.map V.ref)))(h5:ps.length=more.length)(h6:(∀(i:Nat)(b:J)(kv:Key×V),ps[i]?=Z b->more[i]?=Z kv->H b=Z (.tup [kV kv.1,kv.2])))(h7:kvs.length+more.length<=kf)(h8:Q .non (upd H a (.dK (iP kvs more))))
def JS(hc:X.calm=O):MtR X "dict.update" Ii:=by
 intro gd s σ H x vs v us Q I rx rv h;let(a,p,ps,kvs,more,U,U,ha,hp,hl,P,hz,q):=h;cases rx;let(u,U,ru):=rv.one;cases ru;have hh:=I.ok.hd hc;let(z1,ar,av,r1,d1):=KD I.hok ha;let(ay,its,n,g,e):=(I.hok p _ hp);let(pairs,kv,tZ):=zD I g hl P;have ak:=g.length;rw[cO]at ak;have aP:=Paired.length kv;have l1:=Paired.length r1;have V:=ja hp ha (λz=>nomatch z)
 refine call_meetsIn PySem.F.slot_dict_update d1.typeIs PySem.F.entry_dict_update (PySem.F.args_dict_update_2 _ _) (S:=λA R s'=>s'=s/\A=X.A/\R=wants (EP X gd σ Q) X.xe) (λA R s' (e1,e2,e3)=>?_) (U,U,U)
 subst e1 e2 e3;refine dF (dF (wpAny_notOrdered_dict d1.typeIs (kb (gU (pairs:=pairs) hh d1 V (_,n,e,U,U,.inr U) al (by rw[nP];lia) (λi v hv=>?_) λh' tk hk hd=>?_))))
 ·let(b,ob,key,val,k,m,e1,e2,e3,e4,e5,e6):=tZ i v (hv:)
  exact(b,ob,key,val,k,m,e1,e2,e3,e4,e5,e6)
 ·refine(.non,_,?_,U,q);have K:=qR (e9 more kvs) hz;have he:∃q,h'.get? a=Z q:=let(q,_,_,hq,_):=hd;(q,hq)
  exact I.write (by rw[ha];exact True.intro) (.inl U) (λb q hb z=>hk b q hb z) he (ud K ar (KV.merge kv r1) hd)
def Qy(i:Nat)(qe:QE):QS:=λD q=>match q[i]? with
 |some (.o (.d xs))=>qe q λt=>match t with
  |.l ys=>T.imk xs=O/\T.ims ys=O/\Ex4 (λg=>cE ys=Z g) (λg=>xs.length+g.length<=kf) (λg=>(q.set i (.o (.d (c7 xs g))))) D.nx
  |_=>False
 |_=>False
variable{o:Ev}{apos aQ:Pos}
def Md(he:kM K te qe):lU K (pO (tBM K "dict" Ii (b8 i) (di te ix))) (Qy i qe):=λdl ba hs H σ q Dq D (F,r) hq E=>by
 unfold Qy at hq
 split at hq
 ·rename_i xs ei;let(v,hv,rp):=r.g i _ _ ei U;let(p,vs,G,U,eF,h1,h2):=rp.r.dic;refine(_,hv,.inr (.inr (.inl (U,.inl (_,h1)))),he dl H σ q _ _ r.rd hq λw t F' H' e1 r1 f1 n1 z=>?_)
  split at z
  ·let(ar,ak,ay,ek,hl,z):=z;have V:=rp.evo r.d e1;let(p',Q,G',e',aQ,av,P):=V.r.dic;cases e';obtain rfl:=P.im ar;let(p2,ws,G2,U,aP,h3,h4):=r1.r.lst;obtain rfl:=h4.im ak;let(ps,more,U,hlen,ht,hk):=h4.pairs U ek;exact(p,p2,ps,Q,more,U,U,av,h3,hlen,ht,by rw[P.len,hk.len];exact hl,(E.nx _ _ _ (r.HV ei hv e1 (a7.c7 (kvs':=[]) (kts':=[]) hk U P)) z))
  ·exact z.elim
 ·exact hq.elim
def Qs{eJ:Pos}(z:X.calm=O)(ho:PE X o (b8 i))(he:QPF X K e te qe)(P:‹X.K=K›)(Q:‹attributeBase o "update" X.env (eval o X.env)=eval o X.env›)
  (q:‹At X aQ [e]›)
  (V:‹(apos.endLine==aQ.line)=true›) (hs:‹AC X e []›) (c8:‹(backTo aQ (kg [] X.env)).any (·.1)=false›)
  (g:‹swapsWith (.Call (.Attribute o "update" apos) [e] [] aQ) Y eJ.line X.env=pure false›):
  QPS X K (.Expr (.Call (.Attribute o "update" apos) [e] [] aQ) eJ) (pO (tBM K "dict" Ii (b8 i) (di te ix))) (Qy i qe):=
 (rl (by subst P;exact vV PySem.F.plainAttrs_dict PySem.F.slot_dict_update PySem.F.type_dict_update (JS z) ho (bX he.h dC hs) Q q V hs c8) g,Md he.s)
end
variable{d:J}{l:J}
section
variable{X:Cx}{K:BT}{dl:Dl}{v:V}{F:List J}
def aK.qK(h:aK K dl H v (.fd o vs ts) F):∃a,v=.ref a/\F=[]/\H a=Z (.frz o (.dK vs))/\a7 K dl H vs ts []:=by cases h with|fd h r=>exact(_,rfl,rfl,h,r)
def RP:Key->T
 |.inl i=>.i i
 |.inr s=>.s s
def Ka(k:Key):aK K dl H (kV k) (RP k) []:=by cases k with|inl i=>exact .i i|inr s=>exact .s s
theorem a7.ks:∀{vs:List (Key×V)}{ts:List (Key×T)}{F:List J},a7 K dl H vs ts F->vs.map (·.1)=ts.map (·.1)
 |_,_,_,.nil=>rfl
 |_,_,_,.cons _ r=>by rw[qS,qS,a7.ks r]
def Ke:vE K dl (Itd a o vs) (ts.map λp=>RP p.1) [(.ref a,.fd o vs ts)] where
 go:=λH i D h hi=>by
  let(F,r):=h (.ref a,.fd o vs ts) ad
  let(_,e,_,h1,h2):=r.r.qK;cases e;rw[cO]at hi;exact(h1,by rw[h2.len];exact hi)
 yld:=λH i x fp v H' D h hx y=>by
  have r:=h (.ref a,.fd o vs ts) ad
  let(_,e,_,h1,h2):=r.r.qK;let(U,kv,ek,U):=y;rw[fy]at hx;let(p,hp,U):=gs.mp hx;have e:=by
   have h1:(vs.map (·.1))[i]?=Z kv.1:=by rw[fy,ek];rfl
   rw[h2.ks,fy,hp]at h1;exact(Option.some.inj h1).symm
  rw[e];exact(.refl D,[],.c (Ka _),bY)
 stop:=λH D h=>by
  let(F,r):=h (.ref a,.fd o vs ts) ad
  let(_,e,_,h1,h2):=r.r.qK;cases e;exact(h1,by rw[cO,h2.len];exact ka _)
variable{tg e a:Ev}{te:TE}{qe:QE}
def Ww(qe:QE):QI:=λq Q=>qe q λt=>match t with|.fd _ _ ts=>Q (ts.map λp=>RP p.1)|_=>False
def Iq(h:QPE X K e te qe):QPI X K tg e (Kk te) (Ww qe):=(Jl h.h,λdl H σ q Q R rd hq k=>h.s dl H σ q _ _ rd hq λv t F H' z r g=>by
 split at g
 ·let(p,U,U,h1,h2):=r.r.qK;exact(p,_,_,U,h1,k _ _ _ H' z Ke (λp hp=>by rw[d2.mp hp];exact(_,r)) g)
 ·exact g.elim)
def nV.oth{a:J}(D:nV H d l)(h1:a≠d)(h2:a≠l):nV (upd H a o) d l:=by
 let(s,n,ls,Q):=D;exact(s,n,ls,by rw[au h1.symm];exact Q.hd,by rw[au h2.symm];exact Q.hl,Q.s0,Q.s1,Q.n0,Q.l0)
end
section
variable{K:BT}{dl:Dl}{F:List J}
theorem aB.lookup:∀{ns:List Str}{vs:List V}{ts:List T}{F:List J}{u:T},aB K dl H vs ts F->(ns.zip ts).lookup f=Z u->∃w G,(ns.zip vs).lookup f=Z w/\aK K dl H w u G/\∀b∈G,b∈F
 |[],_,_,_,_,_,h=>by simp at h
 |_::_,_,_,_,_,.nil,h=>by simp at h
 |n::ns,_,_,_,u,.cons h1 r,h=>by
  rw[List.zip_cons_cons,u4]at h ⊢;cases e:(f==n)with
  |true =>
   rw[e]at h;cases h;exact(_,_,U,h1,λb g=>pL _ g)
  |false =>
   rw[e]at h;let(w,G,a1,a2,q):=aB.lookup r h;exact(w,G,a1,a2,λb g=>lY _ (q b g))
end
section
variable{X:Cx}{K:BT}{dl:Dl}{a b:Ev}{ta tb:TE}{qa qb:QE}{pos:Pos}
def VC(qa qb:QE):QE:=λq Q=>qa q λt=>qb q λu=>match t,u with
 |.l xs,.i k=>Ex2 (λx=>atI xs k=Z x) Q
 |_,_=>False
def iI(ha:QPF X K a ta qa)(hb:QPE X K b tb qb)(hs:kF b:=by intro _ _;rfl)(hK:‹X.K=K›):QPF X K (.Subscript a b pos) (tOp (rIx K) ta tb) (VC qa qb):=by
 refine(by subst hK;exact vT Cc ha.h hb.h hs,λdl H σ q Q R rd hq k=>(ha.s dl H σ q _ _ rd hq λv t F H1 e1 P f1 n1 V=>(hb.s dl H1 σ q _ _ (rd.evo e1) V λw u G H2 e2 r2 g=>?_)))
 have P:=P.evo e1.d e2
 split at g
 ·let(U,U):=r2.r.int;let(p,vs,G,U,U,h1,h2):=P.r.lst;let(z,hz,hq):=g;let(j,hj,hi):=nL hz h2.len.symm;let(v,G',hv,rv,hs):=h2.U1 hj;have sub:∀c∈G',c∈p::G:=λc hc=>j1 _ (hs.subset hc)
  exact .inl (p,vs,_,v,U,U,SqL.of h1,uv hi hv,k v z G' H2 (e1.trans e2) (Rp.sub rv P.n sub) (λc hc=>f1 c (sub c hc)) ((uj.mp n1).2.sublist hs) hq)
 ·exact g.elim
end
section
variable{X:Cx}{K:BT}{dl:Dl}{a e:Ev}{te:TE}{qe:QE}{tl:TA}{ql:QA}{pos p:Pos}
def Vi(ql:QA):QJ:=λq Q=>ql q λts=>match ts with|[.t xs]=>T.ims xs=O/\Q (ia xs) q|_=>False
def ku{x1}(hg:Gl X "enumerate")(hm:X.mg "enumerate"=Y)(jU:bootBuiltins "enumerate"=Z (.type "enumerate"))(ha:QPA X K [a] tl ql)(hs:‹AD X a›)(hK:‹X.K=K›):
  QPJ X K (.Tuple elts x1 pos') (.Call (.Name "enumerate" p) [a] [] pos) (tY K O tl) (Vi ql):=(jI hK hg hm jU ha.h hs,λdl ba hs H σ q Q R (F0,r0) hq k=>ha.s dl H σ q _ _ r0.rd hq λvs ts F H' e1 r _ g=>by
 split at g
 ·let(i1,g):=g;let(v,U,V):=r.one;obtain rfl:=V.r.im i1;have q1:=(r0.evo e1).hold V λj u hj b hb z=>nomatch z
  let(l1,P,U,h1,h2):=V.r.tup;exact(l1,U,(P,SqT.of h1),k _ _ _ H' q (F0,q1) DU g)
 ·exact g.elim)
def QN(qe:QE):QE:=λq Q=>qe q λt=>match t with|.l xs=>T.ims xs=O/\Q (.l xs.reverse)|_=>False
def zA(hK:X.K=K)(hc:X.calm=O)(V:Gl X "list")(P:X.mg "list"=Y)(Q:Gl X "reversed")(z:X.mg "reversed"=Y)(he:PE X e te)
  (q:AD X e) (g:kg [.Call (.Name "reversed" p2) [e] [] bM] X.env=[(ϊ,eval (.Call (.Name "reversed" p2) [e] [] bM) X.env)]):
  PE X (.Call (.Name "list" p1) [.Call (.Name "reversed" p2) [e] [] bM] [] pos) (si K te):=by subst hK;exact sV hc V P Q z he q g
def zh(hc:X.calm=O)(ay:Gl X "list")(ar:X.mg "list"=Y)(av:Gl X "reversed")(ak:X.mg "reversed"=Y)(he:QPE X K e te qe)
  (V:‹AD X e›) (P:‹kg [.Call (.Name "reversed" p2) [e] [] bM] X.env=[(ϊ,eval (.Call (.Name "reversed" p2) [e] [] bM) X.env)]›) (hK:‹X.K=K›):
  QPF X K (.Call (.Name "list" p1) [.Call (.Name "reversed" p2) [e] [] bM] [] pos) (si K te) (QN qe):=
 (zA hK hc ay ar av ak he.h V P,λdl H σ q Q R rd hq k=>he.s dl H σ q _ _ rd hq λv t F H1 e1 r g=>by
  split at g
  ·let(i1,g):=g;let(l,vs,G,U,U,h1,h2):=r.r.lst;obtain rfl:=h2.im i1;refine(l,vs,U,SqL.of h1,λp hp=>?_)
   have rs:Rps K dl H1 vs.reverse _ []:=(h2.rev U,bY)
   exact k _ _ [p] _ (e1.new hp) (rs.lst e1.d hp) (λb hb=>by rw[d2.mp hb];exact e1.free hp) ad g
  ·exact g.elim)
end
variable{A:Db}
section
def kY(hr:eC k A):A.units+150<cLine:=by have:=hr.un;lia
end
def qD1(qk qv:QE):QE:=λq Q=>qk q λt=>qv q λu=>match t.key with
 |some k=>u.fl=O/\Q (.d [(k,u)])
 |none=>False
section
variable{X:Cx}{K:BT}{ek ev:Ev}{tk tv:TE}{qk qv:QE}{pos:Pos}
def TF.dict{kv kw:List (Key×V)}(hp:H p=Z (.dK kv)):TF H (upd H p (.dK kw)):=
 have ne:∀{a:J}{o:HO},H a=Z o->(∀kv,o ≠ .dK kv)->a≠p:=λh n e=>by rw[e,hp]at h;exact n _ (Option.some.inj h).symm
 (λa vs h=>by rw[au (ne h nofun)];exact h,λa o u h=>by rw[au (ne h nofun)];exact h,λa φ h=>by rw[au (ne h nofun)];exact h,λa xs h=>(xs,by rw[au (ne h nofun)];exact h),λa x h=>(x,E3 _,by rw[au (ne h nofun)];exact h))
def Iz(hk:QPE X K ek tk qk)(hv:QPE X K ev tv qv):QPF X K (.Dict [Z ek] [ev] pos) (Pb [(tk,tv)]) (qD1 qk qv):=by
 refine(DD (mD hk.h hv.h DB) U U ad (by show 1<=15;decide),λdl H σ q Q R rd hq k=>λp hp=>?_)
 have e0:=(Evo.refl rd.d).new (o:=.dK []) hp;have nd:=rd.d.nd0 hp;refine hk.s dl _ σ q _ _ (rd.evo e0) hq λv t F H1 e1 r1 av=>(hv.s dl H1 σ q _ _ ((rd.evo e0).evo e1) av λw u G H2 e2 r2 g=>?_)
 split at g
 ·rename_i kk aQ;let(ay,g):=g;let(U,U):=r2.r.v ay;have aP:=r1.r.key aQ;have ak:=e2.k p _ (e1.k p _ az nd nofun) nd nofun
  have tf:=TF.dict (kw:=[(kk,u.v)]) ak;refine(ak,[(kk,u.v)],by rw[aP];rfl,(by show 1<=15;decide),?_)
  have e3:Evo dl H (upd H2 p (.dK [(kk,u.v)])):=by
   refine(λb o V hn nr=>?_,λd hd=>?_,λb x V=>?_)
   ·have P:b≠p:=λz=>by rw[z,hp]at V;cases V
    rw[au P];exact e2.k b o (e1.k b o (by rw[au P];exact V) hn nr) hn nr
   ·let(s0,n0,ar,D0):=e2.d d hd;have n1:=(nd d hd).1;have n2:=(nd d hd).2;exact(s0,n0,ar,{D0 with hd:=by rw[au n1.symm];exact D0.hd,hl:=by rw[au n2.symm];exact D0.hl})
   ·have P:b≠p:=λz=>by rw[z,hp]at V;cases V
    let(y,hy,e4):=(e1.trans e2).r b x (by rw[au P];exact V)
    exact(y,hy,by rw[au P];exact e4)
  exact k _ _ [p] _ e3 (.d az (.cons (r2.r.dA tf (λ_ z=>z) bY) .nil),λb V=>by rw[d2.mp V];exact nd) (λb V=>by rw[d2.mp V];exact hp) ad g
 ·exact g.elim
end
section
variable{X:Cx}{σ:St}{s:ϋ}{x:Int}
def Inv.Pw(I:Inv X gd σ H s)(ha:H a=Z u)(g:∀o v,u ≠ .frz o v):∀o v,X.ba a≠Z (.frz o v):=λo v e=>by
 have:=I.base.kJ a o v e
 rw[ha]at this;exact g o v (Option.some.inj this)
def Inv.Hc(I:Inv X gd σ H s)(ha:H a=Z (.lst [.int x])):Inv X gd σ (upd H a (.room x)) s:=by
 let(_,its,n,r,e):=(I.hok a _ ha);exact I.zc ha nofun nofun nofun (I.Pw ha (λ_ _ z=>nomatch z)) (its,n,r,e)
def Inv.Rw(I:Inv X gd σ H s)(ha:H a=Z (.room x)):Inv X gd σ (upd H a (.lst [.int x])) s:=by
 let(its,n,r,e):=(I.hok a _ ha);exact I.zc ha nofun nofun nofun (I.Pw ha (λ_ _ z=>nomatch z)) (by show 1<=kf;decide,its,n,r,e)
end
variable{dl:Dl}
section
variable{X:Cx}{K:BT}{a b e o:Ev}{ta tb te:TE}{qa qb qe:QE}{pos:Pos}
inductive Ie(x:V)(y:V)(H:Hp)(Q:VK):Prop
 |mk(p r:_)(h1:x=.ref p)(h2:y=.int 0)(h3:H p=Z (.room r))(h4:Q (.int r) H)
def DS:IxR X Ie:=by
 intro value slice gd s σ H x y v u Q I K z h hs;let(p,m,U,U,hq,q):=h;cases K;let(t,U):=z;let(its,n,r,e):=(I.hok p _ hq);have P:PlainL s.heap p its.toArray:=(_,n,e,U,U,U);let(w,ew,g):=r.get (show [V.int m][0]?=Z (.int m)from U);have fin:EP X gd σ Q w s:=(.int m,H,I,g,q);exact item_listR P.isList (E3 0) ac (ew:) fin hs
inductive HY(o:V)(i:V)(v:V)(H:Hp)(Q:(Hp->Prop)):Prop
 |mk(p x y:_)(h1:o=.ref p)(h2:i=.int 0)(h3:v=.int y)(h4:H p=Z (.room x))(h5:Q (upd H p (.room y)))
def HH:SM X HY:=by
 intro gd s σ H o i v V iv u Q I K P rv h;let(p,x,y,U,U,U,hp,q):=h;have I1:=I.Rw hp;refine thn (set_list gd s σ _ (.ref p) (.int 0) (.int y) V iv u (λH'=>H'=upd H p (.lst [.int y])) I1 K P rv (p,[.int x],0,0,U,U,az,U,by rw[fE];rfl)) λ_ s' z=>?_
 let(H',I',z):=z;subst z;have g:=I'.Hc az;rw[fE]at g;exact(_,g,q)
def O5(te:TE):TE:=λσ H Q=>te σ H λv H1=>∃a x,v=.ref a/\H1 a=Z (.lst [.int x])/\Q v (upd H1 a (.room x))
def Ni(he:PE X e te):PE X e (O5 te):=by
 left;refine thn (he gd s σ H _ I h) λu s' g=>?_
 let(v,H',K,r,a,x,P,z,q):=g;exact(v,_,K.Hc z,r,q)
def Evo.fresh{a:J}{o:HO}(e:Evo dl H H')(ha:H a=Y)(nd:Nd dl a):Evo dl H (upd H' a o):=
 (λb u h n r=>by rw[au (bg h ha)];exact e.k b u h n r,λp hp=>(e.d p hp).oth (nd p hp).1 (nd p hp).2,λb x h=>let(y,g,q):=e.r b x h;(y,g,by rw[au (bg h ha)];exact q))
def TX(qe:QE):QE:=λq Q=>qe q λt=>match t with
 |.l [.i x]=>Q (.rm x)
 |_=>False
def MM(he:QPF X K e te qe):QPF X K e (O5 te) (TX qe):=(Ni he.h,λdl H σ q Q R rd hq k=>he.s dl H σ q _ _ rd hq λv t F H1 V P f1 n1 g=>by
 split at g
 ·rename_i x;let(p,vs,G,U,U,h1,h2):=P.r.lst;cases h2 with
  |cons h3 h4 =>
   cases h4;let(U,U):=h3.int;exact(p,x,U,h1,k _ (.rm x) [] _ (V.fresh (f1 p j2) (P.n p j2)) (.rm az (E3 _),bY) bY kc g)
 ·exact g.elim)
def QP:Q2:=λt u Q=>match t,u with
 |.rm m,.i k=>k=0/\∀r,r<=m->Q (.i r)
 |_,_=>False
def Mn:GH K Ie QP:=by
 intro dl H x y t u F G Q R D q g hq k;unfold QP at hq
 split at hq
 ·let(p,m,U,h1,h2,_):=q.r.roo;let(U,_):=g.r.int;let(U,hq):=hq;exact(p,m,U,U,h1,k _ (.i m) [] H (.refl D) (.i m,bY) (hq m h2))
 ·exact hq.elim
def MN(ha:QPE X K a ta qa)(g:QPE X K b tb qb)(hs:kF b:=by intro _ _;rfl):QPE X K (.Subscript a b pos) (tOp Ie ta tb) (qOp QP qa qb):=(vT DS ha.h g.h hs,sx Mn ha.s g.s)
def BI(i:Nat)(qe:QE):QS:=λD q=>match q[i]? with
 |some x=>match x.get with
  |some (.rm u)=>qe q λt=>match t with
   |.i k=>0<=k/\D.nx (q.set i (.r (.rm (u-k))))
   |_=>False
  |_=>False
 |none=>False
def Pf:R2:=rI0 λi j=>.int (i-j)
def HG{xs:List α}{x:α}(h:xs[i]?=Z x):xs.set i x=xs:=by
 let(hl,e):=g5.mp h;subst e;exact List.set_getElem_self hl
def Fe(he:i3 K te qe):lU K (jm (tOp Pf (tOp Ie (b8 i) (tC (.int 0))) te) (Kv (b8 i) (tC (.int 0)) HY)) (BI i qe):=λdl ba hs H σ q Dq D (F,r) hq E=>by
 unfold BI at hq
 split at hq
 ·rename_i x ex
  split at hq
  ·rename_i u eg;let(v,hv,rp):=r.g i x _ ex eg;let(p,m,U,h1,h2,hF):=rp.r.roo;refine(_,hv,p,m,U,U,h1,he dl H σ q _ _ r.rd hq λw t F1 H1 V r1 Q=>?_)
   split at Q
   ·rename_i k;let(hk,Q):=Q;let(U,_):=r1.r.int;let(y,hy,e2):=V.r p m h1;have nd:=r.d.nd h1 nofun nofun
    refine(m,k,U,U,_,hv,p,y,m-k,U,U,U,e2,?_);have ev:Evo dl H (upd H1 p (.room (m-k))):=by
     refine(λb o P n nr=>?_,λd hd=>(V.d d hd).oth (nd d hd).1 (nd d hd).2,λb z P=>?_)
     ·have ne:b≠p:=λz=>by rw[z,h1]at P;exact nr _ (Option.some.inj P).symm
      rw[au ne];exact V.k b o P n nr
     ·by_cases eb:b=p
      ·subst eb;rw[h1]at P;cases P;exact(_,Int.sub_le_self _ hk,az)
      ·let(z',ak,e3):=V.r b z P;exact(z',ak,by rw[au eb];exact e3)
    have R2:=(r.evo ev).Q0 (t:=.rm (u-k)) (g5.mp ex).1 (.rm az al,bY) (λ_ _ _ _ _ _=>x2)
    rw[HG hv]at R2;exact E.nx _ _ _ (_,R2) Q
   ·exact Q.elim
  ·exact hq.elim
 ·exact hq.elim
def ze{p3 p4 Q P z:Pos}{g V:Nat}(ho:PE X (.Name x p1) (b8 i))(ak:PE X (.Name x p3) (b8 i))(he:QPE X K e te qe)
  (hs:‹swapsWithSole [.Subscript (.Name x p1) (.Constant (.int 0) g p4) pos'] (.BinOp (.Subscript (.Name x p3) (.Constant (.int 0) V Q) P) .Sub e z) pos.line X.env=pure false›) (hw:‹swappedStores [.Subscript (.Name x p1) (.Constant (.int 0) g p4) pos'] (.BinOp (.Subscript (.Name x p3) (.Constant (.int 0) V Q) P) .Sub e z) X.env=pure none›)
  (h1:‹(assignEach [.Subscript (.Name x p1) (.Constant (.int 0) g p4) pos'] X.env).map (·.2)=[assign (.Subscript (.Name x p1) (.Constant (.int 0) g p4) pos') X.env]›)
  (ha:∀v,assign (.Subscript (.Name x p1) (.Constant (.int 0) g p4) pos') X.env v=(do
   let q <- holding [v] (eval (.Name x p1) X.env)
   let iv <- holding [v,q] (eval (.Constant (.int 0) g p4) X.env)
   standAt pos'
   holding [v,q,iv] (setItem q iv v)
   release [v,q,iv] []):=by intro _;rfl):
  QPS X K (.Assign [.Subscript (.Name x p1) (.Constant (.int 0) g p4) pos'] (.BinOp (.Subscript (.Name x p3) (.Constant (.int 0) V Q) P) .Sub e z) pos) (jm (tOp Pf (tOp Ie (b8 i) (tC (.int 0))) te) (Kv (b8 i) (tC (.int 0)) HY)) (BI i qe):=
 (sR (cR BU (vT DS ak bV (λ_ _=>rfl)) he.h) (Jm ho bV HH ha) hs hw h1,Fe he.s)
end
def T.dof:T->Option (List (Key×T))
 |.d ks=>Z ks
 |.fd _ _ ks=>Z ks
 |.dp _ ks=>Z ks
 |_=>Y
variable{kvs:List (Key×V)}{neg:Bool}{td:TE}{qd:QE}
section
variable{X:Cx}{K:BT}{v:V}{F:List J}{a b c e:Ev}{ta tb tk tx te:TE}{qa qb qk qx qe:QE}{pos apos aQ:Pos}
theorem aK.dof{t:T}(h:aK K dl H v t F)(e:t.dof=Z ks):∃a vs G,v=.ref a/\Rd H a (.dK vs)/\a7 K dl H vs ks G/\∀b∈G,b∈F:=by
 cases t with
 |d g =>
  cases e;let(a,vs,G,U,U,h1,h2):=h.dic;exact(a,vs,G,U,.inl h1,h2,λ_ q=>j1 _ q)
 |fd o vs g =>
  cases e;let(a,U,U,h1,h2):=h.qK;exact(a,vs,[],U,.inr (_,h1),h2,λ_ q=>q)
 |dp a g =>
  cases e;let(vs,G,U,U,h1,h2):=h.dpp;exact(a,vs,G,U,.inl h1,h2,λ_ q=>j1 _ q)
 |_=>cases e
def gv.rd{a:J}{k:Key}(e:Rd H a (.dK kvs)):gv H a (kV k) (bP kvs k):=.inl (kvs,k,e,U,U)
def IL(neg:Bool):Q2:=λt u Q=>match u.dof with
 |some ks=>match t.key with
  |some k=>Q (.b (if neg then !(bC ks k).isSome else(bC ks k).isSome))
  |none=>False
 |none=>False
def mf:dO K (MG neg) (IL neg):=by
 intro dl H x y t u F G Q R D r1 V hq k;unfold IL at hq
 split at hq
 ·rename_i ks P
  split at hq
  ·rename_i k0 ek;let(p,vs,G,U,h1,h2,_):=V.r.dof P;rw[r1.r.key ek];refine(p,_,U,gv.rd h1,k _ _ [] H (.refl D) (.c (.b _)) bY kc ?_)
   have e:(bP vs k0).isSome=(bC ks k0).isSome:=by
    obtain⟨q,g⟩|⟨_,_,_,q,g,_⟩:=h2.look k0
    ·rw[q,g];rfl
    ·rw[q,g];rfl
   rw[e];exact hq
  ·exact hq.elim
 ·exact hq.elim
def gw:Q2:=λt u Q=>match t.dof with
 |some ks=>match u.key with
  |some k=>Ex2 (λx=>bC ks k=Z x) Q
  |none=>False
 |none=>False
inductive Ig(x:V)(y:V)(H:Hp)(Q:VK):Prop
 |mk(a kvs k v:_)(h1:x=.ref a)(h2:y=kV k)(h3:Rd H a (.dK kvs))(h4:bP kvs k=Z v)(h5:Q v H)
def Kb:IxR X Ig:=by
 intro value slice gd s σ H x y v u Q I P K h hs;let(a,kvs,k,w,U,U,ha,hv,q):=h;cases P;let(z,hd,vs,rel,dd):=gJ I.hok ha;let(V,hw,g):=j8.some_of (by rw[<- hv];exact rel.val k)
 exact subscriptTail_builtinR dd.typeIs PySem.F.slot_dict_getitem.lookup (wpAny_getItem_of (kX K) dd.mapOf hw (U,w,H,I.tok _,g,q)) hs
def Hy:GH K Ig gw:=by
 intro dl H x y t u F G Q R D r1 r2 hq k;unfold gw at hq
 split at hq
 ·rename_i ks P
  split at hq
  ·rename_i k0 ek;let(z,g,hq):=hq;let(p,vs,G,U,h1,h2,sub):=r1.r.dof P;rw[r2.r.key ek];obtain⟨q,V⟩|⟨t',v,G',q,V,z3,z4⟩:=h2.look k0
   ·rw[q]at g;cases g
   ·rw[q]at g;cases g;exact(p,vs,k0,v,U,U,h1,V,k v _ G' H (.refl D) (Rp.sub z3 r1.n λb hb=>sub b (z4 b hb)) hq)
  ·exact hq.elim
 ·exact hq.elim
def cG(ha:QPE X K a ta qa)(g:QPE X K b tb qb)(hs:kF b:=by intro _ _;rfl):QPE X K (.Subscript a b pos) (tOp Ig ta tb) (qOp gw qa qb):=(vT Kb ha.h g.h hs,sx Hy ha.s g.s)
def Dp(qd qk qx:QE):QE:=λq Q=>qd q λd=>match d.dof with
 |some ks=>qk q λu=>match u.key with
  |some k=>qx q λx=>Q ((bC ks k).getD x)
  |none=>False
 |none=>False
def xE{d f:Ev}(hu:X.A.units+1<cLine)(hd:QPE X K d td qd)(hk:QPE X K e tk qk)(hx:QPE X K f tx qx)(m:M2 X d "get" apos e f aQ:=by exact(U,U,U,U)):QPE X K (.Call (.Attribute d "get" apos) [e,f] [] aQ) (Bi td tk tx) (Dp qd qk qx):=
 (zC hu hd.h hk.h hx.h m,λdl H σ q Q R rd hq k=>hd.s dl H σ q _ _ rd hq λv t F H1 V r1 hq=>by
  split at hq
  ·rename_i ks g;let(p,vs,G,U,h1,h2,sub):=r1.r.dof g;refine(p,U,.inl (vs,h1),hk.s dl H1 σ q _ _ (rd.evo V) hq λy u F2 H2 P r2 hq=>?_)
   split at hq
   ·rename_i k0 ek;refine hx.s dl H2 σ q _ _ ((rd.evo V).evo P) hq λz w F3 H3 e3 r3 hq=>?_
    have rp:=(r1.evo V.d P).evo P.d e3;let(p',av,G',e',ar,ak,To):=rp.r.dof g;cases e';rw[r2.r.key ek];refine(_,gv.rd ar,?_);obtain⟨z1,z2⟩|⟨t,v,G2,z1,z2,z3,z4⟩:=ak.look k0
    ·rw[z2];rw[z1]at hq;exact k _ _ F3 H3 ((V.trans P).trans e3) r3 hq
    ·rw[z2];rw[z1]at hq;exact k _ _ G2 H3 ((V.trans P).trans e3) (Rp.sub z3 rp.n λb hb=>To b (z4 b hb)) hq
   ·exact hq.elim
  ·exact hq.elim)
inductive vP(xs:List V)(H:Hp)(Q:VK):Prop
 |mk(p:J)(kvs:List (Key×V))(h1:xs=[.ref p])(h2:Rd H p (.dK kvs))(h3:∀d,H d=Y->Q (.ref d) (upd H d (.dK kvs)))
theorem eh:cx X (.type "dict") vP:=by
 intro gd s σ H xs us Q I r h;let(p,kvs,U,hp,q):=h;let(u,U,ru):=vals1 r;cases ru;let(z,ak,vs,kv,dd):=gJ I.hok hp;refine callType_codes (Q₁:=λobj K=>obj=.ref s.heap.objs.size/\K={s with heap:=s.heap.push {cls:=.type "dict",data:=.dict #[]}}) F.kt_called_dict (F.kt_typeCall_dict_1 _) F.entry_dict_init (kt_code_dict_new _ (U,U)) ?_
 rintro obj K ⟨rfl,rfl⟩
 have lN:(s.heap.push {cls:=.type "dict",data:=.dict #[]}).DictOf (a6 X.prog X.w) s.heap.objs.size []:=Heap.DictOf.new s.heap;have av:p<s.heap.objs.size:=by
  let(o,_,_,e,_):=dd;exact j5 e
 have g:(s.heap.push {cls:=.type "dict",data:=.dict #[]}).DictOf (a6 X.prog X.w) p vs:=by
  let(o,es,ep,e,r):=dd;exact(o,es,ep,fC _ e,r)
 have V:(vs.map (·.1)).Nodup:=by
  let(o,es,ep,_,_,_,_,_,n):=dd;exact n
 have aP:=Paired.length kv;refine(lN.typeIs,F.args_dict_init_2 _ _,?_);refine dF ?_;refine dF (wpAny_notOrdered_dict lN.typeIs ?_);refine kb ?_;refine dF (Lo g.typeIs (dF (dF (dF (WT g.typeIs isSubtype_dict_dict (dF (OZ g.typeIs F.slot_dict_iter.lookup (kb (wpAny_mergeDict (C3 av) ak lN g λh' P ay ar=>?_)))))))))
 rw[merged_nil_of_nodup _ V]at P;refine dF (kb (kb (U,.ref s.heap.objs.size,_,I.laid (λb u e=>?_) (ka _) (ud z ?_ kv P),U,q _ (I.hok.fresh (ka _)))))
 ·rw[ar.2 b (ri (j5 e))];exact fC _ e
 ·have:=I.big
  exact beq_eq_false_iff_ne.mpr (C3 this)
def oR:QC:=λts Q=>match ts with
 |[t]=>match t.dof with
  |some ks=>T.imk ks=O/\Q (.d ks)
  |none=>False
 |_=>False
def fF:kN K vP oR:=by
 intro dl H vs ts F Q R D r hq k;unfold oR at hq
 split at hq
 ·split at hq
  ·rename_i ks q;let(v,U,P):=r.one;let(p,kvs,G,U,h1,h2,sub):=P.r.dof q;obtain rfl:=h2.im hq.1;refine(p,kvs,U,h1,λd hd=>?_)
   have ev:Evo dl H (upd H d (.dK kvs)):=(Evo.refl D).new hd;exact k _ _ [d] _ ev (.d az (h2.dA (ev.tf D) (λ_ z=>z) bY),λb g=>by rw[d2.mp g];exact D.nd0 hd) (λb g=>by rw[d2.mp g];exact hd) ad hq.2
  ·exact hq.elim
 ·exact hq.elim
def O8(te:TE):TE:=λσ H Q=>te σ H λv H1=>∃a kvs,v=.ref a/\H1 a=Z (.dK kvs)/\∀o,Q v (upd H1 a (.frz o (.dK kvs)))
def Nk(he:PE X e te):PE X e (O8 te):=by
 left;refine thn (he gd s σ H _ I h) λu s' g=>?_
 let(v,H',P,r,a,kvs,V,z,q):=g;let(_,o,K):=P.freeze z;exact(v,_,K,r,q o)
def T6(qe:QE):QE:=λq Q=>qe q λt=>match t with
 |.d ks=>T.imk ks=O/\∀o vs,Q (.fd o vs ks)
 |_=>False
def TF.U6{kv:List (Key×V)}{o:Obj}{u:HO}(hp:H p=Z (.dK kv)):TF H (upd H p (.frz o u)):=
 have ne:∀{a:J}{o:HO},H a=Z o->(∀kv,o ≠ .dK kv)->a≠p:=λh n e=>by rw[e,hp]at h;exact n _ (Option.some.inj h).symm
 (λa vs h=>by rw[au (ne h nofun)];exact h,λa o u h=>by rw[au (ne h nofun)];exact h,λa φ h=>by rw[au (ne h nofun)];exact h,λa xs h=>(xs,by rw[au (ne h nofun)];exact h),λa x h=>(x,E3 _,by rw[au (ne h nofun)];exact h))
def rh(he:QPF X K e te qe):QPF X K e (O8 te) (T6 qe):=(Nk he.h,λdl H σ q Q R rd hq k=>he.s dl H σ q _ _ rd hq λv t F H1 V P f1 n1 g=>by
 split at g
 ·rename_i ks;let(p,vs,G,U,U,h1,h2):=P.r.dic;obtain rfl:=h2.im g.1;exact(p,vs,U,h1,λo=>k _ (.fd o vs ks) [] _ (V.fresh (f1 p j2) (P.n p j2)) (.fd az (h2.dA (TF.U6 h1) (λ_ z=>z) bY),bY) bY kc (g.2 o vs))
 ·exact g.elim)
end
section
variable{X:Cx}{K:BT}{t:TS}{qt:QS}
inductive Hh(i:Nat)(t:TS)(D:Ends)(σ:St)(H:Hp):Prop
 |mk(a kvs:_)(h1:σ[i]?=Z (Z (.ref a)))(h2:H a=Z (.dK kvs))(h3:∀o,t D σ (upd H a (.frz o (.dK kvs))))
def Q7(h:PS X st t):PS X st (Hh i t):=by
 intro gd s σ H D I z;let(a,kvs,_,ha,k):=z;let(_,o,g):=I.freeze ha;exact h gd s σ _ D g (k o)
def IK(i:Nat)(qt:QS):QS:=λD q=>match q[i]? with
 |some (.o (.d ks))=>T.imk ks=O/\∀o vs,qt D (q.set i (.o (.fd o vs ks)))
 |_=>False
theorem Rel.frz{o:Obj}(r:Rel K dl ba hs H σ q F)(ei:q[i]?=Z (.o (.d ks)))(hv:σ[i]?=Z (Z (.ref a)))(eF:F i=[a])(rp:Rp K dl H (.ref a) (.d ks) (F i))(h1:H a=Z (.dK vs))(h2:a7 K dl H vs ks []):j7 K dl ba hs (upd H a (.frz o (.dK vs))) σ (q.set i (.o (.fd o vs ks))):=by
 refine(Ff F i [],?_);have tf:=TF.U6 (o:=o) (u:=.dK vs) h1;have na:=rp.n a (by rw[eF];exact j2)
 let(o1,o2,o3):=r.o i _ ei;have st:∀{w:V}{u:T}{Fw:List J},Rp K dl H w u Fw->a ∉ Fw->Rp K dl (upd H a (.frz o (.dK vs))) w u Fw:=λ{w u Fw} h np =>
  (h.r.dA tf (λ_ z=>z) λb P ob e=>(by
   have n0:b≠a:=λz=>np (by rw[<- z];exact P)
   rw[au n0];exact e),h.n)
 refine(λd hd=>(r.d d hd).oth (na d hd).1 (na d hd).2,λj x u h3 h4=>?_,λj x h3 h4=>?_,λj Q=>?_,λj u h3=>?_,λp hp=>?_,(λb ob P nb nr=>?_,λb x P=>?_),by simp[r.l])
 ·obtain⟨rfl,rfl,_⟩|⟨ne,h3⟩:=get_set h3
  ·cases h4;exact(_,hv,by rw[bJ];exact(.fd az (h2.dA tf (λ_ z=>z) bY),bY))
  ·let(w,h5,h6):=r.g j x u h3 h4;exact(w,h5,by rw[bq ne];exact st h6 (o3 j ne a (by rw[eF];exact j2)))
 ·obtain⟨rfl,rfl,_⟩|⟨ne,h3⟩:=get_set h3
  ·cases h4
  ·rw[bq ne];exact r.n j x h3 h4
 ·rw[WE]at Q;by_cases e:j=i
  ·rw[e,bJ]
  ·rw[bq e];exact r.z j Q
 ·obtain⟨rfl,e,_⟩|⟨ne,h3⟩:=get_set h3
  ·rw[bJ];exact(kc,λ_ z=>absurd z x2,λ_ _ _ z=>absurd z x2)
  ·rw[bq ne];let(p1,p2,p3):=r.o j u h3;refine(p1,p2,λk hk b P=>?_)
   by_cases ek:k=i
   ·rw[ek,bJ];exact x2
   ·rw[bq ek];exact p3 k hk b P
 ·let(Fp,h3,h4):=r.h p hp;refine(Fp,st h3 (h4 i _ ei a (by rw[eF];exact j2)),λj u Q b P z=>?_)
  obtain⟨rfl,e,_⟩|⟨ne,Q⟩:=get_set Q
  ·rw[bJ]at P;cases P
  ·rw[bq ne]at P;exact h4 j u Q b P z
 ·have n0:b≠a:=λz=>by rw[z,o2 a (by rw[eF];exact j2)]at P;cases P
  rw[au n0];exact r.f.k b ob P nb nr
 ·have n0:b≠a:=λz=>by rw[z,o2 a (by rw[eF];exact j2)]at P;cases P
  rw[au n0];exact r.f.r b x P
def HB(h:lU K t qt):lU K (Hh i t) (IK i qt):=λdl ba hs H σ q Dq D (F,r) hq E=>by
 unfold IK at hq
 split at hq
 ·rename_i ks P;let(v,hv,z):=r.g i _ _ P U;let(a,vs,G,U,Q,h1,h2):=z.r.dic;obtain rfl:=h2.im hq.1;exact(a,vs,hv,h1,λo=>h dl ba hs _ σ _ Dq D (r.frz P hv Q z h1 h2) (hq.2 o vs) E)
 ·exact hq.elim
def oN(h:QPS X K st t qt):QPS X K st (Hh i t) (IK i qt):=(Q7 h.h,HB h.s)
end
section
variable{X:Cx}{σ:St}{s:ϋ}{u1 u2 v1 v2:HO}{C:J}{fs:List (Str×V)}
def Inv.HU(I:Inv X gd σ H s)(ne:d≠a)(ha:H a=Z v1)(hd:H d=Z v2)(t1:∀xs,v1 ≠ .tup xs)(t2:∀xs,v2 ≠ .tup xs)(b1:∀ps,v1 ≠ .tbl ps)(b2:∀ps,v2 ≠ .tbl ps)(z1:∀o v,v1 ≠ .frz o v)(V:∀o v,v2 ≠ .frz o v)(w1:∀c,v1 ≠ .own c)(w2:∀c,v2=.own c->c=a)
  (VS:c9 X.prog X.w (upd (upd H a u1) d u2) s.heap a u1) (VR:c9 X.prog X.w (upd (upd H a u1) d u2) s.heap d u2):Inv X gd σ (upd (upd H a u1) d u2) s:=by
 have g:∀{b:J}{o:HO},H b=Z o->o≠v1->b≠a:=λe n z=>by rw[z,ha]at e;exact n (Option.some.inj e).symm
 have K:∀{b:J}{o:HO},H b=Z o->o≠v2->b≠d:=λe n z=>by rw[z,hd]at e;exact n (Option.some.inj e).symm
 have n0:∀{b:J},H b=Y->b≠a/\b≠d:=λ{b} e=>(λz=>(by rw[z,ha]at e;cases e),λz=>(by rw[z,hd]at e;cases e))
 have st:∀{b:J},b≠a->b≠d->upd (upd H a u1) d u2 b=H b:=λh1 h2=>by rw[au h2,au h1]
 refine(I.ok,I.os,I.bare,(I.base.keep,I.base.slot,λb o e n hx=>?_,I.base.there,λb xs e=>?_,λb o v e=>?_,λb ps e=>?_),I.loc,I.cell,?_,λx c e=>?_,λp hp=>?_,λb o e=>?_,I.len)
 ·have:=I.base.free b o e n hx
  rw[st (n0 this).1 (n0 this).2];exact this
 ·have:=I.base.sd b xs e
  rw[st (g this λz=>t1 _ z.symm) (K this λz=>t2 _ z.symm)]
  exact this
 ·have:=I.base.kJ b o v e
  rw[st (g this λz=>z1 _ _ z.symm) (K this λz=>V _ _ z.symm)]
  exact this
 ·let(more,this):=I.base.sf b ps e;refine(more,?_);rw[st (g this λz=>b1 _ z.symm) (K this λz=>b2 _ z.symm)]
  exact this
 ·rw[st (n0 I.free).1 (n0 I.free).2];exact I.free
 ·rw[st (n0 (I.gg x c e)).1 (n0 (I.gg x c e)).2];exact I.gg x c e
 ·let(p1,p2,p3):=I.pin p hp;exact(p1,by rw[st (n0 p2).1 (n0 p2).2];exact p2,p3)
 ·by_cases P:b=d
  ·subst P;rw[az]at e;cases e;exact VR
  ·by_cases Q:b=a
   ·subst Q;rw[au P,az]at e;cases e;exact VS
   ·rw[st Q P]at e;refine(I.hok b o e).dA (λ_ _ _ q=>q) (λc q=>?_) λc xs q=>?_
    ·rw[st (g q λz=>w1 _ z.symm) (λz=>by rw[z,hd]at q;exact Q (w2 b (Option.some.inj q)))];exact q
    ·rw[st (g q λz=>t1 _ z.symm) (K q λz=>t2 _ z.symm)];exact q
def Inv.Tb(I:Inv X gd σ H s)(ha:H a=Z (.ins C d fs)):d≠a/\fs.length<=1000/\H d=Z (.own a)/\Inv X gd σ (upd (upd H a (.ext (yJ a C d))) d (.ext (XD d fs))) s:=by
 let(hd,hl,ne,e,mA,n,r,w):=(I.hok a _ ha);exact(ne,hl,hd,I.HU ne ha hd nofun nofun nofun nofun (λ_ _ z=>nomatch z) (λ_ _ z=>nomatch z) nofun (λc z=>by cases z;rfl)
  (e,(_,e),λh1 h2 p k=>k _ p) (XD.ok (mA,n,r,w)))
def Inv.VI(I:Inv X gd σ H s)(ne:d≠a)(hl:fs.length<=1000)(ha:H a=Z (.ext (yJ a C d)))(hd:H d=Z (.ext (XD d fs))):Inv X gd σ (upd (upd H a (.ins C d fs)) d (.own a)) s:=by
 have e:=(I.hok a _ ha).1;let(mA,n,r,w):=(I.hok d _ hd).1;refine I.HU ne ha hd nofun nofun nofun nofun (λ_ _ z=>nomatch z) (λ_ _ z=>nomatch z) nofun (λc z=>nomatch z) (az,hl,ne,e,mA,n,r,w) ?_
 let(o,_,_,g,_):=n;exact(o,g)
end
variable{C:J}{prs:List Str}
section
variable{X:Cx}{K:BT}{e:Ev}{es:List Ev}{te:TE}{qe:QE}{tl:TA}{ql:QA}{pos p:Pos}{f:Str}
def Pa(K:BT)(ta:TE)(f:Str):TE:=λσ H Q=>ta σ H λx H1=>∃a C fs v,x=.ref a/\ObH H1 a C fs/\fs.length<=1000/\Cls K C/\bZ K C f/\fs.lookup f=Z v/\Q v H1
def Nm(he:PE X e te)(hb:attributeBase e f X.env (eval e X.env)=eval e X.env):PE X (.Attribute e f pos) (Pa X.K te f):=by
 left;refine OD hb (thn (he gd s σ H _ I h) λu s1 z=>?_)
 let(x,H1,I1,rx,a,C,fs,v,ex,(dx,ne,h1,h2),hl,c,n,l,q):=z;subst ex;obtain rfl:=rx;refine Ck (I1.VI ne hl h1 h2) (by rw[au ne.symm,az]) c n l λu' s2 I2 ru=>(v,H1,?_,ru,q)
 let(_,_,_,V):=I2.Tb (by rw[au ne.symm,az])
 have e:upd (upd (upd (upd H1 a (.ins C dx fs)) dx (.own a)) a (.ext (yJ a C dx))) dx (.ext (XD dx fs))=H1:=by
  funext b
  by_cases g:b=dx
  ·rw[g,az,h2]
  ·by_cases P:b=a
   ·rw[au g,P,az,h1]
   ·rw[au g,au P,au g,au P]
 rw[e]at V;exact V
def T8(C:J)(f:Str)(qe:QE):QE:=λq Q=>qe q λt=>match t with
 |.ob g ns ts=>g=C/\ns.length<=1000/\Ex2 (λx=>(ns.zip ts).lookup f=Z x) Q
 |_=>False
def a4(hc:Cls K C)(hn:bZ K C f)(he:QPE X K e te qe)(z:‹attributeBase e f X.env (eval e X.env)=eval e X.env›)(hK:‹X.K=K›):QPE X K (.Attribute e f pos) (Pa K te f) (T8 C f qe):=(by subst hK;exact Nm he.h z,λdl H σ q Q R rd hq k=>he.s dl H σ q _ _ rd hq λv t F H1 e1 V g=>by
 split at g
 ·let(U,hl,x,hx,g):=g;let(a,vs,U,U,ho,rs):=V.r.obj;let(w,G,e2,P,s2):=rs.lookup hx;refine(a,_,_,w,U,ho,?_,hc,hn,e2,k _ _ G H1 e1 (P,λb z=>nomatch s2 b z) g)
  rw[P5];exact qR (Nat.min_le_left _ _) hl
 ·exact g.elim)
inductive wW(C:J)(ns:List Str)(vs:List V)(H:Hp)(Q:VK)(_:XK):Prop
 |mk(x dx args:_)(h1:vs=.ref x::args)(h2:args.length=ns.length)(h3:H x=Z (.ins C dx []))(h4:Q .non (upd H x (.ins C dx (ns.zip args))))
def Hf(C:J)(ns:List Str)(t:TA):TE:=λσ H Q=>t σ H λvs H1=>vs.length=ns.length/\∀x dx,H1 x=Y->H1 dx=Y->dx≠x->Q (.ref x) (upd (upd H1 x (.ext (yJ x C dx))) dx (.ext (XD dx (ns.zip vs))))
theorem Jp(M:Mk X.K C g)(G:bf X.prog X.w X.K X.mg X.base CX0 k g fd prs (wW C ns))(hr:eC (k+1) X.A)(hg:Gl X x)(hm:X.mg x=Z (.ref C))(hb:Binds X.K fd prs [])(ha:PA X (e::es) tl)
  (ak:autoParam (AS x) zdc._auto_1) (he:‹AC X e es›) (V:‹AM X pos es›):
  PE X (.Call (.Name x p) (e::es) [] pos) (Hf C ns tl):=by
 left;refine GN (x5 I hg hm (W.callWith_K I.ok.mod.kin M.kp (thn (ha pos gd s σ H _ I h) λus s1 (vs,H1,I1,r,q)=>(I1.kIn,(thn (HS (Q:=λv H2=>∃a dx fs,v=.ref a/\H2 a=Z (.ins C dx fs)/\Q v (upd (upd H2 a (.ext (yJ a C dx))) dx (.ext (XD dx fs)))) M G hr hb .nil Jv I1 r λx dx hx hd ne=>(x,dx,vs,ad,q.1,az,U,x,dx,ns.zip vs,U,az,?_)) λu s' (v,H',I',rv,a,dx,fs,e1,e2,qq)=>?_))) he V) ak)
 ·have e:upd (upd (upd (upd (upd H1 dx (.own x)) x (.ins C dx [])) x (.ins C dx (ns.zip vs))) x (.ext (yJ x C dx))) dx (.ext (XD dx (ns.zip vs)))=upd (upd H1 x (.ext (yJ x C dx))) dx (.ext (XD dx (ns.zip vs))):=by
   funext b
   by_cases z:b=dx
   ·rw[z,az,az]
   ·by_cases P:b=x
    ·rw[au z,au z,P,az,az]
    ·rw[au z,au P,au P,au P,au z,au z,au P]
  rw[e];exact q.2 x dx hx hd ne
 ·let(_,_,_,I2):=I'.Tb e2;exact(v,_,I2,rv,qq)
def QM(C:J)(ns:List Str)(ql:QA):QE:=λq Q=>ql q λts=>T.ims ts=O/\ts.length=ns.length/\Q (.ob C ns ts)
def g6(hK:X.K=K)(M:Mk K C g)(G:bf X.prog X.w X.K X.mg X.base CX0 k g fd prs (wW C ns))(hr:eC (k+1) X.A)(hg:Gl X x)(hm:X.mg x=Z (.ref C))(hb:Binds X.K fd prs [])(ha:QPA X K (e::es) tl ql)
  (ak:autoParam (AS x) zdc._auto_1) (he:‹AC X e es›) (V:‹AM X pos es›):
  QPF X K (.Call (.Name x p) (e::es) [] pos) (Hf C ns tl) (QM C ns ql):=by
 subst hK;refine(Jp M G hr hg hm hb ha.h ak he V,λdl H σ q Q R rd hq k=>ha.s dl H σ q _ _ rd hq λvs ts F H1 e1 P _ hz=>?_)
 let(z1,z2,z3):=hz;obtain rfl:=P.r.im z1;refine(P.r.len.trans z2,λx dx hx hd ne=>?_)
 have ev:Evo dl H1 (upd (upd H1 x (.ext (yJ x C dx))) dx (.ext (XD dx (ns.zip vs)))):=((Evo.refl e1.d).new hx).new (by rw[au ne];exact hd)
 have r2:=P.evo e1.d ev;exact k _ _ [] _ (e1.trans ev) (.ob (dx,ne,by rw[au ne.symm,az],az) r2.r,bY) bY kc z3
end
variable{tg:Ev}{e:Ev}{g:Tg}
section
variable{X:Cx}{K:BT}
inductive H0(K:BT)(x:V)(y:V)(H:Hp)(Q:VK):Prop
 |mk(p q vs:_)(h1:x=.ref p)(h2:y=.ref q)(h3:SqL K H p vs)(h4:SqL K H q [])(h5:Q (.bl (!vs.isEmpty)) H)
def sX(hu:X.A.units+1<cLine)(hK:X.K=K):OpR X (compareOp .NotEq) (H0 K):=by
 subst hK;intro gd s σ H x y v u Q I V P h;let(p,q,vs,U,U,h1,h2,k):=h;cases V;cases P;let(its,r1,p1,_):=I.list h1;let(z,g,p2,_):=I.list h2;have l1:=r1.length;have l2:=g.length;have e2:z.length=0:=l2.symm;by_cases hl:its.length=z.length
 ·refine SeqAt.RcNeAt.lists (e:=λ_=>O) p1.isList p2.isList (hl:) al (λj g1 g2=>?_) X.prog X.w X.xe _ (.bl _,H,I,U,?_)
  ·let(a,ea,ra):=g.at' g2;simp at ea
  ·have e:vs=[]:=uC.mp al
   subst e;have e3:its.toArray.size=0:=by simp;exact uC.mp al
   rw[e3];exact k
 ·refine SeqAt.RcNeAt.lists_lengths p1.isList p2.isList (hl:) al X.prog X.w X.xe _ (.bl _,H,I,U,?_)
  cases vs with
  |nil=>exact absurd l1.symm (by rw[<- l2]at hl;exact hl)
  |cons _ _=>exact k
def IF:Q2:=λt u Q=>match t,u with
 |.l xs,.l []=>Q (.b (!xs.isEmpty))
 |_,_=>False
def oB:dO K (H0 K) IF:=by
 intro dl H x y t u F G Q R D P q hq k;unfold IF at hq
 split at hq
 ·rename_i xs;let(p,vs,G1,U,U,h1,h2):=P.r.lst;let(V,g,G2,U,U,h3,h4):=q.r.lst;cases h4;refine(p,V,vs,U,U,SqL.of h1,SqL.of h3,k _ _ [] H (.refl D) (.c (.b _)) bY kc ?_)
  have e:vs.isEmpty=xs.isEmpty:=by
   have:=h2.len
   cases vs <;> cases xs <;> simp at this ⊢
  rw[e];exact hq
 ·exact hq.elim
def Um{q g:TI}(h1:PI X tg e q)(h2:PI X tg e g):PI X tg e (λσ H R=>q σ H R\/g σ H R):=by
 intro gd s σ H R I h;obtain h|h:=h
 ·exact h1 gd s σ H R I h
 ·exact h2 gd s σ H R I h
def asP(i:Nat):QJ:=λq Q=>match q[i]? with
 |some (.r (.l xs))=>Q xs q
 |some (.r (.t xs))=>Q xs q
 |_=>False
def Im(h:PE X e (b8 i))(hK:‹X.K=K›):QPJ X K tg e (λσ H R=>wc K (b8 i) σ H R\/Ki K (b8 i) σ H R) (asP i):=(Um (mG hK h) (xK hK h),λdl ba hs H σ q Q R (F0,r0) hq k=>by
 have hold:∀{t:T}{v:V},q[i]?=Z (.r t)->Rp K dl H v t (F0 i)->Rel K dl ba ((v,t)::hs) H σ q F0:=λ{t v} e r=>r0.hold r λj u hj b hb=>by
  have ne:i≠j:=λz=>by rw[z,hj]at e;cases e
  exact(r0.o j u hj).2.2 i ne b hb
 unfold asP at hq
 split at hq
 ·rename_i xs P;let(v,hv,r):=r0.g i _ _ P U;have r1:=hold P r;let(p,vs,G,U,_,h1,h2):=r.r.lst;exact .inl (_,hv,p,U,(vs,SqL.of h1),k _ _ _ H q (F0,r1) mY hq)
 ·rename_i xs P;let(v,hv,r):=r0.g i _ _ P U;have r1:=hold P r;let(p,vs,U,h1,h2):=r.r.tup;exact .inr (_,hv,p,U,(vs,SqT.of h1),k _ _ _ H q (F0,r1) Ce hq)
 ·exact hq.elim)
def IC(g:Tg)(i:Nat):QS:=λD q=>match q[i]? with
 |some (.r t)=>Ex2 (λq'=>g.put t q=Z q') D.nx
 |_=>False
def Hs:lU K (jm (b8 i) (g.h K)) (IC g i):=λdl ba hs H σ q Dq D (F,r) hq E=>by
 unfold IC at hq
 split at hq
 ·rename_i t Q;let(q',P,hz):=hq;let(v,hv,rp):=r.g i _ _ Q U;exact(v,hv,xv r rp (λj u V b hb=>(r.o j u V).2.2 i (λz=>by rw[z,V]at Q;cases Q) b hb) P λak r'=>E.nx _ _ _ r' hz)
 ·exact hq.elim
def xy{pos:Pos}(he:PE X e (b8 i))(hg:PG X tg (g.h K))(hs:‹swapsWithSole [tg] e pos.line X.env=pure false›)(hw:‹swappedStores [tg] e X.env=pure none›)
  (h1:‹(assignEach [tg] X.env).map (·.2)=[assign tg X.env]›):QPS X K (.Assign [tg] e pos) (jm (b8 i) (g.h K)) (IC g i):=(sR he hg hs hw h1,Hs)
def mZ:vE K dl (Ite K ϊ a) (ia xs) [(.ref a,.l xs)] where
 go:=λH i D h hi=>by
  let(F,r):=h (.ref a,.l xs) ad
  let(p,vs,G,e,_,h1,h2):=r.r.lst;cases e;rw[aZ]at hi;have l1:i<vs.length:=by rw[h2.len];omega
  exact(vs,vs[i],SqL.of h1,by simp[l1])
 yld:=λH i x fp v H' D h hx y=>by
  have r:=h (.ref a,.l xs) ad
  let(p,vs,G,e,eF,h1,h2):=r.r.lst;cases e;let(x1,V,U):=bQ hx;let(w1,G1,ak,Q,ar):=h2.get V;let(q,u1,hq,U,U,P):=y;have e1:=P vs (SqL.of h1);rw[ak]at e1;cases e1;have sub:∀b∈G1,b∈fp (.ref a,.l xs):=λb g=>by rw[eF];exact j1 _ (ar b g)
  have rs:Rps K dl H [.int (i),w1] [.i (i),x1] ([]++(G1++[])):=Rps.cons (.i _,bY) (Rps.cons (Q,λb g=>r.n b (sub b g)) (.nil,bY))
  refine((Evo.refl D).new hq,_,rs.tup D hq,λc g=>.inr ?_)
  rw[qg]at g;exact(_,ad,sub c g)
 stop:=λH D h=>by
  let(F,r):=h (.ref a,.l xs) ad
  let(p,vs,G,e,_,h1,h2):=r.r.lst;cases e;exact(vs,SqL.of h1,by rw[aZ,h2.len];exact ka _)
def PK(i:Nat):QJ:=λq Q=>match q[i]? with
 |some (.o (.l xs))=>Q (ia xs) (q.set i (.r (.l xs)))
 |some (.r (.l xs))=>Q (ia xs) q
 |_=>False
def sN{a:Ev}{x1}{pos p:Pos}(hg:Gl X "enumerate")(hm:X.mg "enumerate"=Y)(jU:bootBuiltins "enumerate"=Z (.type "enumerate"))(h:PE X a (b8 i))(hs:‹AD X a›)(ak:‹AC X a []›)(hK:‹X.K=K›):
  QPJ X K (.Tuple elts x1 pos') (.Call (.Name "enumerate" p) [a] [] pos) (tY K ϊ (di (b8 i) ix)) (PK i):=(jI hK hg hm jU (bX h dC ak) hs,λdl ba hs H σ q Q R (F0,V) hq k=>by
 unfold PK at hq
 split at hq
 ·rename_i xs e1;let(v,hv,r):=V.g i _ _ e1 U;have r1:=(V.down e1).hold r λj u P b hb=>by
   obtain⟨_,z,_⟩|⟨ne,P⟩:=get_set P
   ·cases z
   ·exact(V.o j u P).2.2 i (λz=>ne z.symm) b hb
  let(p,vs,G,U,_,h1,h2):=r.r.lst;exact(_,hv,p,U,(vs,SqL.of h1),k _ _ _ H _ (F0,r1) mZ hq)
 ·rename_i xs e1;let(v,hv,r):=V.g i _ _ e1 U;have r1:=V.hold r λj u P b hb=>(V.o j u P).2.2 i (λz=>by subst z;rw[e1]at P;cases P) b hb
  let(p,vs,G,U,_,h1,h2):=r.r.lst;exact(_,hv,p,U,(vs,SqL.of h1),k _ _ _ H _ (F0,r1) mZ hq)
 ·exact hq.elim)
end
def Dep:Nat->T->Prop
 | 0,t=>(∃x,t=.s x)\/∃x,t=.i x
 |n+1,t=>(∃x,t=.s x)\/(∃x,t=.i x)\/∃ts,t=.t ts/\∀x∈ts,Dep n x
theorem Dep.s:Dep n (.s x):=by cases n <;> exact .inl (x,U)
theorem Dep.i{x:Int}:Dep n (.i x):=by
 cases n
 ·exact .inr (x,U)
 ·exact .inr (.inl (x,U))
theorem Dep.t(h:∀x∈ts,Dep n x):Dep (n+1) (.t ts):=.inr (.inr (ts,U,h))
def Dep.mono{t:T}(h:Dep n t)(hm:n<=m):Dep m t:=by
 induction n generalizing m t with
 |zero =>
  obtain⟨x,rfl⟩|⟨x,rfl⟩:=h
  ·exact Dep.s
  ·exact Dep.i
 |succ n g =>
  obtain⟨x,rfl⟩|⟨x,rfl⟩|⟨ts,rfl,h⟩:=h
  ·exact Dep.s
  ·exact Dep.i
  ·obtain⟨k,rfl⟩:∃k,m=k+1:=(m-1,al)
   exact Dep.t λx hx=>g (h x hx) al
variable{N':List Str}{sc:Scope}{fp:List J}
section
variable{X:Cx}{K:BT}{a b:Ev}{es:List Ev}{te ta tb:TE}{qe qa qb:QE}{tl:TA}{ql:QA}{pos p:Pos}{k k':Nat}{f:J}
structure Dn(K:BT)(mg:Str->Option B)(x:Str)(st:EQ)(f:J)(fd:Ch)(ps:List Str):Prop where
 F:Fun K x x st f fd
 m:mg x=Z (.ref f)
 b:Binds K fd ps []
def aJ{ps:PSp}(F:bf X.prog X.w X.K X.mg X.base CX0 k f fd prs (spQ K ps))(hr:eC k' X.A)(D:Dn X.K X.mg x st f fd prs)(ha:QPA X K (e::es) tl ql)(hk:k<=k':=by first|decide|omega)(hg:Gl X x:=by exact U)
  (q:autoParam (AS x) zdc._auto_1) (he:‹AC X e es›) (g:‹AM X pos es›):
  QPF X K (.Call (.Name x p) (e::es) [] pos) (CW (spQ K ps) [] E0 tl) (dq ps ql):=MR F (hr.mono hk) hg D.m D.F.kp D.b ha q he g
def aw:QPA X K [] ix cb:=yI.w ai
def ah:QPE X K (.Constant (.int i) j pos) (tC (.int i)) (qC (.i i)):=Zc br
def bW(hm:X.mg "len"=Y)(ha:QPA X K (e::es) tl ql)(hg:Gl X "len":=by exact U)(q:X.K=K:=by exact U)
  (he:‹AC X e es›) (g:‹AM X pos es›):QPF X K (.Call (.Name "len" p) (e::es) [] pos) (tCB (Ic K) tl) (qCB FA ql):=bA (GB q) Mm hg hm bi ha ac ac he g
def aA(i:Nat)(g:X.N.Nodup)(he:QPF X K e te qe)(hi:‹X.N[i]?=Z x›)(hx:Loc X.env.scope x:=by first|exact .inl rfl|exact .inr U)(hs:‹swapsWith e (Z (.Name x pos')) pos.line X.env=pure false›)(hf:AT X x:=by first|exact .inl rfl|exact .inr rfl|assumption):
  QPS X K (.Assign [.Name x pos'] e pos) (jm te (gD i)) (kG i qe):=Qt g hi hx he hs hf
def aY(i:Nat)(g:X.N.Nodup)(hi:‹X.N[i]?=Z x›)(hx:Loc X.env.scope x:=by first|exact .inl rfl|exact .inr U)(hf:AT X x:=by first|exact .inl rfl|exact .inr rfl|assumption):PG X (.Name x pos) (gD i):=mH g hi hx hf
def ck{cl:List (Str×J)}{s₂:ϋ}{H₂:Hp}(i:Nat)(g:N'.Nodup:=by decide +kernel)(hi:‹N'[i]?=Z x›)(hx:Loc (blk X N' sc cl C s₂ H₂ fp).env.scope x:=by first|exact .inl rfl|exact .inr U)(hf:‹(blk X N' sc cl C s₂ H₂ fp).env.scope.names.lookup x=Z .local›):PG (blk X N' sc cl C s₂ H₂ fp) (.Name x pos) (gD i):=mH g hi hx (.inr hf)
def cJ{q g:Str}(h1:PG X (.Name q p1) t1)(h2:PG X (.Name g p2) t2)(Q:X.K=K:=by exact U)(P:X.calm=true:=by exact U)
  (hn:‹(assignEach [.Name q p1,.Name g p2] X.env).length=2›) (z:‹(assignEach [.Name q p1,.Name g p2] X.env).findIdx? (·.1)=none›):PG X (.Tuple [.Name q p1,.Name g p2] j pos) (Oq K 2 (D4 t1 (D4 t2 Sf))):=iL Q P (bB h1 (bB h2 iK)) hn z
def bH(g:X.A.units+1<cLine)(ha:QPE X K a ta qa)(q:QPE X K b tb qb)(z:X.K=K:=by exact U):QPT X K (.Compare a [.Eq] [b] pos) (CU (tOp (Qr K) ta tb)) (kQ (qOp BL qa qb)):=bG (xR g z) qW (bF _) ha q
def Df(ha:QPE X K a ta qa)(g:QPE X K b tb qb):=bG (pos:=pos) Pt (oE (K:=K) (g':=λi j=>.b (decide (i<j))) λ_ _ _ _=>.b _) (bF _) ha g
def TR(ha:QPE X K a ta qa)(g:QPE X K b tb qb):=bG (pos:=pos) Uq (oE (K:=K) (g':=λi j=>.b (decide (i<=j))) λ_ _ _ _=>.b _) (bF _) ha g
def Il(ha:QPE X K a ta qa)(g:QPE X K b tb qb):=bG (pos:=pos) DI (oE (K:=K) (g':=λi j=>.b (decide (j<i))) λ_ _ _ _=>.b _) (bF _) ha g
end
abbrev NI(K:BT)(x:Str)(f:J):Prop:=W.nsIn K mainGlobals x=Z (Z (.ref f))
abbrev LK(K:BT)(f:J)(x q:Str)(st:EQ)(oc:B)(od:Option J)(kV dc pm:B)(an:Option J)(cd ct:B)(sl:Array (Option B)):Prop:=K.lookup f=Z (oc,od,.func (W.fnOf x q (dz st) (cq st) (ax st) .none kV dc pm an cd ct),sl)
abbrev CI(K:BT)(cd:B)(x:Str):Prop:=W.codeIn K cd x=O
abbrev KI(K:BT)(f:J):Prop:=W.keepIn K (.ref f)=O
variable{p3:Str}{p4:Str}
section
variable{K:BT}{q:Str}{f:J}{oc kV dc pm cd ct:B}{od an:Option J}{sl:Array (Option B)}
abbrev NB(K:BT)(x:Str):Prop:=W.nsIn K mainGlobals x=Z Y
inductive DY(K:BT)(x:Str)(st:EQ)(f:J):Prop
 |mk(n:NI K x f)(fd:Ch)(F:Fun K x x st f fd)
inductive DM(K:BT)(C:J)(x q:Str)(st:EQ)(f:J):Prop
 |mk(M:Meth K C x f)(fd:Ch)(F:Fun K x q st f fd)
def DY.of(n:NI K x f)(l:LK K f x x st oc od kV dc pm an cd ct sl)(c:CI K cd x)(k:KI K f):DY K x st f:=(n,_,Cn l c k)
theorem DM.of(m:W.findIn K (.ref C) x=Z (Z (.ref f)))(l:LK K f x q st oc od kV dc pm an cd ct sl)(c:CI K cd q)(k:KI K f)(i:W.isFn K (.ref f)=O):DM K C x q st f:=((m,i,k),_,Cn l c k)
theorem Fun.b1{p1:Str}(F:Fun K x q st f fd)(g:∀kV dc pm an cd ct u1,bindArgs (W.fnOf x q (dz st) (cq st) (ax st) .none kV dc pm an cd ct) ([u1],[])=pure [(p1,u1)]:=by intros;rfl):Binds K fd [p1] []:=F.binds λkV dc pm an cd ct us hl=>UB (P:=λus=>bindArgs _ (us,[])=pure (Yu _ us)) (g kV dc pm an cd ct) us hl
theorem Fun.b2{p1 p2:Str}(F:Fun K x q st f fd)(g:∀kV dc pm an cd ct u1 u2,bindArgs (W.fnOf x q (dz st) (cq st) (ax st) .none kV dc pm an cd ct) ([u1,u2],[])=pure [(p1,u1),(p2,u2)]:=by intros;rfl):Binds K fd [p1,p2] []:=F.binds λkV dc pm an cd ct us hl=>UA (P:=λus=>bindArgs _ (us,[])=pure (Yu _ us)) (g kV dc pm an cd ct) us hl
theorem Fun.b3{p1 p2:Str}(F:Fun K x q st f fd)(z:∀kV dc pm an cd ct u1 u2 g,bindArgs (W.fnOf x q (dz st) (cq st) (ax st) .none kV dc pm an cd ct) ([u1,u2,g],[])=pure [(p1,u1),(p2,u2),(p3,g)]:=by intros;rfl):Binds K fd [p1,p2,p3] []:=F.binds λkV dc pm an cd ct us hl=>Uz (P:=λus=>bindArgs _ (us,[])=pure (Yu _ us)) (z kV dc pm an cd ct) us hl
theorem Fun.b4{p1 p2:Str}(F:Fun K x q st f fd)(Q:∀kV dc pm an cd ct u1 u2 z g,bindArgs (W.fnOf x q (dz st) (cq st) (ax st) .none kV dc pm an cd ct) ([u1,u2,z,g],[])=pure [(p1,u1),(p2,u2),(p3,z),(p4,g)]:=by intros;rfl):Binds K fd [p1,p2,p3,p4] []:=F.binds λkV dc pm an cd ct us hl=>Uy (P:=λus=>bindArgs _ (us,[])=pure (Yu _ us)) (Q kV dc pm an cd ct) us hl
theorem Fun.b5{p1 p2 V:Str}(F:Fun K x q st f fd)(hb:∀kV dc pm an cd ct u1 u2 Q z g,bindArgs (W.fnOf x q (dz st) (cq st) (ax st) .none kV dc pm an cd ct) ([u1,u2,Q,z,g],[])=pure [(p1,u1),(p2,u2),(p3,Q),(p4,z),(V,g)]:=by intros;rfl):Binds K fd [p1,p2,p3,p4,V] []:=F.binds λkV dc pm an cd ct us hl=>Ux (P:=λus=>bindArgs _ (us,[])=pure (Yu _ us)) (hb kV dc pm an cd ct) us hl
end
mutual
def T.pln:T->Bool
 |.n=>O
 |.b _=>O
 |.i _=>O
 |.s _=>O
 |.t xs=>T.va xs
 |.zl xs=>T.va xs
 |.fd _ _ ks=>T.Rk ks
 |.fz _=>O
 |_=>ϊ
def T.va:List T->Bool
 |[]=>O
 |x::r=>x.pln&&T.va r
def T.Rk:List (Key×T)->Bool
 |[]=>O
 | (_,x)::r=>x.pln&&T.Rk r
end
def nof{A:Prop}(h:ϊ=O):A:=absurd h qr
theorem aK.plain{K:BT}(kt:∀a vs,H a=Z (.tup vs)->H' a=Z (.tup vs))(z:∀a o u,H a=Z (.frz o u)->H' a=Z (.frz o u)){v:V}{t:T}(h:aK K dl H v t F):t.pln=O->aK K dl H' v t F:=
 aK.rec (motive_2:=λv t F _=>T.va t=O->aB K dl H' v t F) (motive_3:=λv t F _=>T.Rk t=O->a7 K dl H' v t F)
  (λ_=>.n) (λx _=>.b x) (λx _=>.i x) (λx _=>.s x) (λ_ h=>nof h) (λh _ g q=>.t (kt _ _ h) (g q)) (λ_ _ _ h=>nof h) (λ_ _ _ h=>nof h) (λ_ h=>nof h) (λ_ h=>nof h) (λ_ h=>nof h) (λh _ g q=>.fd (z _ _ _ h) (g q)) (λ_ h=>nof h) (λ_ _ _ h=>nof h)
  (λ_ _ h=>nof h) (λ_ _ _ h=>nof h) (λ_ _ _ h=>nof h) (λ_ _ _ h=>nof h) (λh _ g q=>.zl (z _ _ _ h) (g q)) (λ_ h=>nof h) (λ_ _ _ _ _ h=>nof h) (λh _=>.fz (z _ _ _ h)) (λ_=>.nil) (λ_ _ i1 i2 q=>.cons (i1 (uB _ _▸q).1) (i2 (uB _ _▸q).2)) (λ_=>.nil) (λ_ _ i1 i2 q=>.cons (i1 (uB _ _▸q).1) (i2 (uB _ _▸q).2)) h
theorem aB.plain{K:BT}(kt:∀a vs,H a=Z (.tup vs)->H' a=Z (.tup vs))(g:∀a o u,H a=Z (.frz o u)->H' a=Z (.frz o u)){vs:List V}(h:aB K dl H vs ts F):T.va ts=O->aB K dl H' vs ts F:=
 h.ind (λ_=>.nil) (λ_ _ _ _ _ _ h _ z q=>.cons (h.plain kt g (uB _ _▸q).1) (z (uB _ _▸q).2))
theorem aK.Ng{K:BT}{v:V}{t:T}(h:aK K dl H v t F):t.pln=O->F=[]:=
 aK.rec (motive_3:=λ_ _ _ _=>True)
  (λ_=>rfl) (λ_ _=>rfl) (λ_ _=>rfl) (λ_ _=>rfl) (λ_ h=>nof h) (λ_ _ g=>g) (λ_ _ _ h=>nof h) (λ_ _ _ h=>nof h) (λ_ h=>nof h) (λ_ h=>nof h) (λ_ h=>nof h) (λ_ _ _ _=>rfl) (λ_ h=>nof h) (λ_ _ _ h=>nof h)
  (λ_ _ h=>nof h) (λ_ _ _ h=>nof h) (λ_ _ _ h=>nof h) (λ_ _ _ h=>nof h) (λ_ _ _ _=>rfl) (λ_ h=>nof h) (λ_ _ _ _ _ h=>nof h) (λ_ _=>rfl) (λ_=>rfl) (λ_ _ i1 i2=>tX i1 i2) trivial (λ_ _ _ _=>trivial) h
theorem aB.Ng{K:BT}{vs:List V}(h:aB K dl H vs ts F):T.va ts=O->F=[]:=h.ind (λ_=>rfl) (λ_ _ _ _ _ _ h _ g=>tX h.Ng g)
section
variable{X:Cx}{K:BT}{ba:Hp}{σ:St}{s:ϋ}{o:Ev}{te:TE}{qe:QE}
def Inv.D6(I:Inv X gd σ H s)(ha:H a=Z (.lst xs)):∃o,Inv X gd σ (upd H a (.frz o (.lst xs))) s:=by
 have g:∀o v,X.ba a≠Z (.frz o v):=λo v e=>by
  have:=I.base.kJ a o v e
  rw[ha]at this;cases this
 let(z,its,n,r,e):=(I.hok a _ ha);exact(_,I.zc ha nofun nofun nofun g (e,z,its,n,r,e))
def O9(te:TE):TE:=λσ H Q=>te σ H λv H1=>∃a xs,v=.ref a/\H1 a=Z (.lst xs)/\∀o,Q v (upd H1 a (.frz o (.lst xs)))
def Nl(he:PE X e te):PE X e (O9 te):=by
 left;refine thn (he gd s σ H _ I h) λu s' g=>?_
 let(v,H',P,r,a,xs,V,z,q):=g;let(o,K):=P.D6 z;exact(v,_,K,r,q o)
def T7(qe:QE):QE:=λq Q=>qe q λt=>match t with
 |.l ts=>T.va ts=O/\Q (.zl ts)
 |_=>False
def Di(he:QPF X K e te qe):QPF X K e (O9 te) (T7 qe):=(Nl he.h,λdl H σ q Q R rd hq k=>he.s dl H σ q _ _ rd hq λv t F H1 e1 P f1 n1 g=>by
 split at g
 ·let(p,vs,G,U,U,h1,h2):=P.r.lst;obtain rfl:=h2.Ng g.1;refine(p,vs,U,h1,λo=>?_)
  have V:=e1.fresh (o:=.frz o (.lst vs)) (f1 p j2) (P.n p j2);have ne:∀{a:J}{u:HO},H1 a=Z u->(∀xs,u ≠ .lst xs)->a≠p:=λh n z=>by rw[z,h1]at h;exact n _ (Option.some.inj h).symm
  have ts:=h2.plain (H':=upd H1 p (.frz o (.lst vs))) (λa us h=>by rw[au (ne h nofun)];exact h) (λa o u h=>by rw[au (ne h nofun)];exact h) g.1
  exact k _ (.zl _) [] _ V (.zl az ts,bY) bY kc g.2
 ·exact g.elim)
def T.lst:T->Option (List T)
 |.l xs=>Z xs
 |.zl xs=>Z xs
 |_=>Y
def Rp.VT(r:Rp K dl H v t F)(h:t.lst=Z ts):∃p vs G,v=.ref p/\SqL K H p vs/\aB K dl H vs ts G:=by
 cases t with
 |l xs=>cases h;let(p,vs,G,U,U,h1,h2):=r.r.lst;exact(p,vs,G,U,SqL.of h1,h2)
 |zl xs=>cases h;let(p,o,vs,U,U,h1,h2):=r.r.zls;exact(p,vs,[],U,.inl (.inr (o,h1)),h2)
 |_=>cases h
end
end L2
namespace L2
open PySem PySem.Spec PyProof.Rows
def ItV(v d:J)(h:Do):Prop:=h.IsItemsView v d
inductive BB(x:V)(vs:List V)(H:Hp)(Q:VK):Prop
 |mk(d kvs:_)(h1:x=.ref d)(h2:vs=[])(h3:Rd H d (.dK kvs))(h4:∀v,H v=Y->v≠d->Q (.ref v) (upd H v (.ext (ItV v d))))
variable{P:Da}{a:J}
section
variable{X:Cx}{o:Ev}{to:TE}{p apos aQ:Pos}{H:Hp}
theorem Rd.lt(r:Rd H a u)(x:HOk P w H h):a<h.objs.size:=(r.ok x).lt
def JR:MtR X "dict.items" BB:=by
 intro gd s σ H x vs v us Q I P rv h;let(d,kvs,U,U,hd,q):=h;cases P;have g:=rv.zero;subst g;let(z,V,ws,r,dd):=gJ I.hok hd;have lt:=Rd.lt hd I.hok;refine call_meetsIn PySem.F.slot_dict_items dd.typeIs PySem.F.entry_dict_items (PySem.F.args_dict_items_1 _) (meets_dict_items (a6 X.prog X.w) d V) ((ws,dd),?_);have K:(s.heap.push {cls:=.type "dict_items",data:=.fields #[.ref d]}).get? s.heap.objs.size=Z {cls:=.type "dict_items",data:=.fields #[.ref d]}:=ke s.heap U;have I1:=I.laid (o:=.ext (ItV s.heap.objs.size d)) (t':=s.toks) (λb u e=>fC _ e) (ka _)
  ((_,K,U,U),(_,K),λh1 h2 x k=>by let(o,ho,c):=x;exact(o,k o ho,c))
 exact(.ref s.heap.objs.size,_,I1,U,q _ (I.hok.fresh (ka _)) (C3 lt))
def Hg(to:TE):TE:=λσ H Q=>to σ H λx H1=>BB x [] H1 Q
def Jr(ho:PE X o to)(cg:‹attributeBase o "items" X.env (eval o X.env)=eval o X.env›)(cf:‹(apos.endLine==aQ.line)=true›):PE X (.Call (.Attribute o "items" apos) [] [] aQ) (Hg to):=by
 left;refine wpAny_Call_method0_late cg cf (thn (ho gd s σ H _ I h) λv s1 g=>?_)
 let(x,H1,P,V,K):=g;let(d,kvs,U,e,hd,q):=id K;cases V;let(z,hS,ws,r,dd):=gJ P.hok hd;exact("dict","dict.items",PySem.F.plainAttrs_dict,PySem.F.slot_dict_items,PySem.F.type_dict_items,dd.typeIs,dd.mapOf.noDict,Calls.callWith_builtin U (PySem.evalArgs_none (JR gd s1 σ H1 (.ref d) [] (.ref d) [] Q P U .nil K)))
def kT:Key->T
 |.inl i=>.i i
 |.inr x=>.s x
def Pr(p:Key×T):T:=.t [kT p.1,p.2]
end
structure GJ(dl:Dl)(H:Hp)(F:List J)(H':Hp):Prop where
 k:∀b o,H b=Z o->b ∉ F->Nd dl b->NR o->H' b=Z o
 r:∀a x,H a=Z (.room x)->a ∉ F->∃y,y<=x/\H' a=Z (.room y)
 l:∀b xs,b∈F->H b=Z (.lst xs)->∃ys,H' b=Z (.lst ys)
 d:Dls dl H'
variable{elts:List Ev}{pos':Pos}
section
variable{X:Cx}{K:BT}{a b:Ev}{ta:TE}{qa:QE}{pos p:Pos}
def Vj(qa:QE):QJ:=λq Q=>qa q λt=>match t with|.l xs=>Q (ia xs) q|_=>False
def zf{x1}(hm:X.mg "enumerate"=Y)(ha:QPF X K a ta qa)(hg:Gl X "enumerate":=by exact U)(hs:‹AD X a›)(ak:‹AC X a []›)(hK:‹X.K=K›):
  QPJ X K (.Tuple elts x1 pos') (.Call (.Name "enumerate" p) [a] [] pos) (tY K ϊ (di ta ix)) (Vj qa):=(jI hK hg hm bi (bX ha.h dC ak) hs,λdl ba hs H σ q Q R (F0,P) hq k=>ha.s dl H σ q _ _ P.rd hq λv t F H' e1 r f n V=>by
 split at V
 ·have r1:=(P.evo e1).hold r λj u hj b hb z=>(P.iw hb).no (f b z)
  let(l1,g,G,U,U,h1,h2):=r.r.lst;exact(l1,U,(g,SqL.of h1),k _ _ _ H' q (F0,r1) mZ V)
 ·exact V.elim)
end
end L2
namespace L2
open PySem PySem.Spec PyProof.Rows
section
variable{K:BT}{dl:Dl}{H:Hp}
end
variable{dl:Dl}{H:Hp}{H':Hp}
def GJ.tf(f:GJ dl H F H')(th:∀b∈F,gm H b)(D:Dls dl H):TF H H':=by
 have ne:∀{b:J}{o:HO},H b=Z o->o.mt=ϊ->b ∉ F:=λ{b o} h K z=>by
  let(_,e,m):=th b z;rw[h]at e;cases e;rw[K]at m;cases m
 refine(λb vs h=>f.k b _ h (ne h U) (D.nd h nofun nofun) nofun,λb o u h=>f.k b _ h (ne h U) (D.nd h nofun nofun) nofun,
  λb φ h=>f.k b _ h (ne h U) (D.nd h nofun nofun) nofun,λb xs h=>?_,λb x h=>f.r b x h (ne h U))
 by_cases g:b∈F
 ·exact f.l b xs g h
 ·by_cases hn:Nd dl b
  ·exact(xs,f.k b _ h g hn nofun)
  ·obtain⟨p,hp,z⟩:∃p∈dl,¬(b≠p.1/\b≠p.2):=Classical.byContradiction λc=>hn λp hp=>Classical.byContradiction λz=>c (p,hp,z)
   let(s,n,ls,Q):=D p hp;let(s',P,ls',Q'):=f.d p hp;have h1:=ja h Q.hd (λz=>nomatch z)
   have h2:=Classical.byContradiction λq=>z (h1,q)
   exact(_,by rw[h2];exact Q'.hl)
def G6{S:List J}(hx:x∈S)(g:b ∉ S):upd H x o b=H b:=au λz=>g (by rw[z];exact hx)
variable{H1:Hp}
def GJ.Vt(e:Evo dl H H1)(hx:x∈Fu)(hn:∀b∈Fu,Nd dl b)(hl:∀xs,H x=Z (.lst xs)->∃ys,o=.lst ys):GJ dl H Fu (upd H1 x o) where
 k:=λb ob h nb n g=>by rw[G6 hx nb];exact e.k b ob h n g
 r:=λb y h nb=>by rw[G6 hx nb];exact e.r b y h
 l:=λb xs q h=>by
  by_cases z:b=x
  ·subst z;let(ys,U):=hl xs h;exact(ys,az)
  ·exact(xs,by rw[au z];exact e.k b _ h (hn b q) nofun)
 d:=λp hp=>(e.d p hp).other (hn x hx p hp).1 (hn x hx p hp).2
end L2
namespace PySem
open Sem (wp)
section
variable{prog:Da}{w:Cl}{A:Db}{E:B->ϋ->Prop}
def vo:typeLookup (.type "zip") "keys"=pure none:=am_miss_of_fast be
def kK:typeLookup (.type "zip") "__getattr__"=pure none:=bi
def gu:entryFor table "zip.__getattribute__"=Z Builtin.«object.__getattribute__»:=
 entryFor_alias (id':="object.__getattribute__") bi be be bi
theorem tE(a:J)(vs:Array B)(sl:Array (Option B))(u:Tok):
  Meets (Builtin.«object.__getattribute__» ([.ref a,.str "keys" u],[])) (λA R s=>s.heap.get? a=Z {cls:=.type "zip",dict:=Y,data:=.fields vs,slots:=sl}/\raisesAttr (.ref a) "keys" A R s):=
 Meets.of_wp λprog w A R s hs=>by
  let(hp,g,d,tk,os):=s;let(hx,hs):=hs;have hT:((hp,g,d,tk,os):ϋ).TypeIs (.ref a) "zip":=(_,hx,U);have q:=vo;unfold Builtin.«object.__getattribute__»
  repeat (any_goals (first|assumption|wp_step))
  exact wpAny_raiseAttrError hs.1 hs.2 (attrMsg_fits be (by size_fits))
set_option maxRecDepth 8000 in
theorem vp{s:ϋ}{a:J}{vs:Array B}{sl:Array (Option B)}{Q:Option B->ϋ->Prop}
  (hx:s.heap.get? a=Z {cls:=.type "zip",dict:=Y,data:=.fields vs,slots:=sl}) (K:A.handled=Y)
  (h:∀h' tk,(∀b o,s.heap.get? b=Z o->h'.get? b=Z o)->Q Y {s with heap:=h',toks:=tk}):
  wpAny (model prog w) A (getAttr? (.ref a) "keys") Q E s:=by
 let(hp,g,d,tk,os):=s;have hT:∀q,((hp,g,d,q,os):ϋ).TypeIs (.ref a) "zip":=λ_=>(_,hx,U)
 have f1:=sub_AttributeError;have V:=F.slot_zip_getattribute.lookup;have f4:=F.slot_zip_getattribute.bind (.ref a);have P:=kK;unfold getAttr? getAttrBy? getAttrBy
 repeat (any_goals (first|assumption|exact hT _|((with_reducible show wpAny _ _ (call (B.builtin "zip.__getattribute__") _ _) _ _ _);refine call_meets F.slot_zip_getattribute (hT _) gu (F.args_zip_getattribute_2 _ _) (tE a vs sl _) (hx,K,λh' q e z=>?_))|wp_step))
 let(t',u',he):=z.there;show wpAny _ _ (getattributeRaised _ _ _ _ _ _ _) _ _ _;unfold getattributeRaised
 repeat (any_goals (first|assumption|wp_step))
 exact h _ _ z.keeps
end
end PySem
namespace L2
open PySem PySem.Spec PyProof.Rows
def kU:List T->Option (List Key)
 |[]=>Z []
 |x::r=>match x.key,kU r with
  |some k,Z ks=>Z (k::ks)
  |_,_=>Y
theorem aB.J9{K:BT}{dl:Dl}:∀{xs:List T}{vs:List V}{F:List J}{ks:List Key},aB K dl H vs xs F->kU xs=Z ks->vs=ks.map kV
 |[],_,_,_,h,e=>by cases h;cases e;rfl
 |x::r,_,_,_,h,e=>by
  cases h with
  |cons h1 h2 =>
   unfold kU at e
   split at e
   ·next k ks q g =>
    cases e;rw[h1.key q,aB.J9 h2 g];rfl
   ·cases e
variable{x:Str}{pos':Pos}
section
variable{X:Cx}{K:BT}{e:Ev}{te:TE}{qe:QE}{pos:Pos}
def Ua(i:Nat)(qe:QE):QS:=λD q=>∃n,q[i]?=Z (.o (.i n))/\qe q λt=>match t with
 |.i m=>D.nx (q.set i (.o (.i (n+m))))
 |_=>False
def MK(hN:X.N.Nodup)(he:QPE X K e te qe)(hi:‹X.N[i]?=Z x›)(hx:Loc X.env.scope x:=by first|exact .inl rfl|exact .inr U)(hf:AT X x:=by first|exact .inl rfl|exact .inr rfl|assumption):
  QPS X K (.AugAssign (.Name x pos') .Add e pos) (Ti i te (ipI λi j=>i+j)) (Ua i qe):=(Q8 hN hi hx he.h RX hf,λdl ba hs H σ q Dq D (F,r) hq E=>by
 let(n,Q,hq):=hq;let(v,hv,V):=r.g i _ _ Q U;let(U,hF):=V.r.int;refine(_,hv,he.s dl H σ q _ _ r.rd hq λw t Fw H1 e1 r1 P=>?_)
 split at P
 ·rename_i m;let(U,_):=r1.r.int;exact(n,m,U,U,E.nx H1 _ _ (r.IU e1 (.c (.i (n+m))) bY kc) P)
 ·exact P.elim)
end
section
variable{X:Cx}{K:BT}{dl:Dl}{ba H H':Hp}{hs:List (V×T)}{σ:St}{q:Sq}{F:Nat->List J}{e o:Ev}{te:TE}{qe:QE}{apos aQ eJ:Pos}
inductive zd(K:BT)(x:V)(vs:List V)(H:Hp)(Q:VK):Prop
 |mk(l b xs zs:_)(h1:x=.ref l)(h2:vs=[.ref b])(h3:H l=Z (.lst xs))(h4:SqT K H b zs)(h5:xs.length+zs.length<=kf)(h6:Q .non (upd H l (.lst (xs++zs))))
theorem B0:MtM X "list.extend" (zd X.K):=by
 intro gd s σ H x vs v us Q I rx rv h;let(l,b,xs,zs,U,U,V,hB,hz,q):=h;cases rx;let(u,U,ru):=rv.one;cases ru;let(z,its,n,r,hl,e):=I.B6 V;let(eT,P,p2,z2):=I.tuple hB;let(o2,e2,g,n2,hd2):=(p2);have ak:=P.length;have hsz:its.toArray.size+eT.toArray.size<=kf:=by rw[nP,nP];lia
 have Ko:¬(!its.toArray.isEmpty&&Builtin.List.listTooLong (its.toArray.size+eT.toArray.size))=true:=by
  rw[zN hsz,XY];exact qr
 refine yK F.slot_list_extend (_,e,U) F.entry_list_extend ?_ (F.args_list_extend_2 _ _);show wpAny _ _ (Builtin.List.listExtendWith (.ref l) (.ref b) .none) _ _ s;refine dF (Lo (o2,e2,g) ?_);rw[if_pos ad]
 refine dF (listItems_at e2 hd2 (dF (listItems_at e U ?_)));rw[if_neg Ko];refine dF (listUpdate_at e U (kb (_,U,(.non,_,I.NV V e ad (r.append P) ?_,U,q))) al (by rw[YQ];lia))
 rw[i5]
 lia
def Pn(i:Nat)(qe:QE):QS:=λD q=>match q[i]? with
 |some (.o (.l xs))=>qe q λt=>match t with
  |.t ys=>T.ims ys=O/\xs.length+ys.length<=kf/\D.nx (q.set i (.o (.l (xs++ys))))
  |_=>False
 |_=>False
def MJ(ho:PE X o (b8 i))(he:QPE X K e te qe)(hK:‹X.K=K›)(cg:‹attributeBase o "extend" X.env (eval o X.env)=eval o X.env›)
  (jT:‹At X aQ [e]›)
  (cf:‹(apos.endLine==aQ.line)=true›) (hs:‹AC X e []›) (c8:‹(backTo aQ (kg [] X.env)).any (·.1)=false›)
  (ar:‹swapsWith (.Call (.Attribute o "extend" apos) [e] [] aQ) Y eJ.line X.env=pure false›):
  QPS X K (.Expr (.Call (.Attribute o "extend" apos) [e] [] aQ) eJ) (pO (tBM K "list" (zd K) (b8 i) (di te ix))) (Pn i qe):=
 (rl (by subst hK;exact vV PySem.F.plainAttrs_list PySem.F.slot_list_extend PySem.F.type_list_extend B0 ho (bX he.h dC hs) cg jT cf hs c8) ar,λdl ba hs H σ q Dq D (F,r) hq E=>by
 unfold Pn at hq
 split at hq
 ·rename_i xs ei;let(v,hv,rp):=r.g i _ _ ei U;let(o1,o2,o3):=r.o i _ ei;let(p,vs,G,U,V,h1,h2):=rp.r.lst;refine(_,hv,.inl (U,vs,SqL.of h1),he.s dl H σ q _ _ r.rd hq λw t F' H' e1 r1 P=>?_)
  split at P
  ·let(im,hl,P):=P;let(p2,ws,U,h3,h4):=r1.r.tup;obtain rfl:=h4.im im;have pn:=rp.n p (by rw[V];exact j2)
   refine(p,p2,vs,ws,U,U,e1.k p _ h1 pn nofun,SqT.of h3,by rw[h2.len,h4.len];exact hl,?_)
   have hG:=λb Q=>rp.n b (by rw[V];exact j1 _ Q)
   have ak:=h2.dA (e1.tf r.d) (λ_ z=>z) λb Q o eo=>e1.k b o eo (hG b Q) (.of (h2.there b Q) eo)
   refine E.nx _ σ _ (r.oK ei hv V e1 (ak.append h4) ?_ λb Q=>?_) P
   ·rw[V]at o1;rw[qg];exact(uj.mp o1).2
   ·rw[qg]at Q;exact .inl Q
  ·exact P.elim
 ·exact hq.elim)
end
end L2
namespace L2
open PySem PySem.Spec PyProof.Rows
variable{tg:Ev}{g:Tg}
section
variable{X:Cx}{K:BT}{b c o:Ev}{pos apos aQ:Pos}{i:Nat}
def Pj(i:Nat)(g:Tg):QS:=λD q=>match q[i]? with
 |some (.o (.l xs))=>∃ys x,xs=ys++[x]/\T.ims xs=O/\Ex2 (λq'=>g.put x (q.set i (.o (.l ys)))=Z q') D.nx
 |_=>False
def MI(ho:PE X o (b8 i))(hg:PG X tg (g.h K))(hK:‹X.K=K›)(cg:‹attributeBase o "pop" X.env (eval o X.env)=eval o X.env›)(cf:‹(apos.endLine==aQ.line)=true›)
  (hs:‹swapsWithSole [tg] (.Call (.Attribute o "pop" apos) [] [] aQ) pos.line X.env=pure false›) (hw:‹swappedStores [tg] (.Call (.Attribute o "pop" apos) [] [] aQ) X.env=pure none›)
  (h1:‹(assignEach [tg] X.env).map (·.2)=[assign tg X.env]›):QPS X K (.Assign [tg] (.Call (.Attribute o "pop" apos) [] [] aQ) pos) (jm (L4 K "list" ME (b8 i)) (g.h K)) (Pj i g):=
 (sR (by subst hK;exact BS PySem.F.plainAttrs_list PySem.F.slot_list_pop PySem.F.type_list_pop BZ ho cg cf) hg hs hw h1,λdl ba hs H σ q Dq D (F,r) hq E=>by
 unfold Pj at hq
 split at hq
 ·rename_i xs ei;let(ys,x,U,P,q',Q,hq):=hq;let(v,hv,rp):=r.g i _ _ ei U;let(p,vs,G,U,eF,h1,h2):=rp.r.lst;let(us,w,F1,F2,U,r1,r2,U):=h2.last;rw[tV,uB]at P;obtain rfl:=r1.im P.1;have hx:x.im=true:=by have:=P.2;simpa [T.ims]using this
  obtain rfl:=r2.im hx;refine(_,hv,.inl (U,_,SqL.of h1),p,_,w,U,U,h1,ad,?_)
  rw[XJ];let(F3,r3):=r.oK ei hv eF (.refl r.d) r1 kc bY
  have pn:=rp.n p (by rw[eF];exact j2)
  have tf:=GJ.tf (GJ.Vt (o:=.lst us) (.refl r.d) (d2.mpr U) (λb V=>by rw[d2.mp V];exact pn) (λ_ _=>(_,U))) (λb V=>by rw[d2.mp V];exact(_,h1,U)) r.d
  have rx:Rp K dl (upd H p (.lst us)) w x []:=.c (r2.dA tf (λ_ z=>z) bY)
  exact xv r3 rx (λ_ _ _ _ _ z=>nomatch z) Q λak r'=>E.nx _ _ _ r' hq
 ·exact hq.elim)
end
variable{elts:List Ev}{pos':Pos}{tl:TA}{ql:QA}
section
variable{X:Cx}{K:BT}{a:Ev}{pos:Pos}
def Vh(ql:QA):QI:=λq Q=>ql q λts=>match ts with|[.l xs]=>Q (ia xs)|_=>False
def Ir{V}{p:Pos}(hg:Gl X "enumerate")(hm:X.mg "enumerate"=Y)(jU:bootBuiltins "enumerate"=Z (.type "enumerate"))(ha:QPA X K [a] tl ql)(hs:‹AD X a›)(hK:‹X.K=K›):
  QPI X K (.Tuple elts V pos') (.Call (.Name "enumerate" p) [a] [] pos) (tY K ϊ tl) (Vh ql):=(jI hK hg hm jU ha.h hs,λdl H σ q Q R rd hq k=>ha.s dl H σ q _ _ rd hq λvs ts F H' e1 r _ z=>by
 split at z
 ·let(v,U,P):=r.one;let(l1,g,G,U,_,h1,h2):=P.r.lst;exact(l1,U,(g,SqL.of h1),k _ _ _ H' e1 mZ (λp hp=>by rw[d2.mp hp];exact(_,P)) z)
 ·exact z.elim)
end
section
variable{K:BT}{b:Ev}
inductive onL(t:T)(Q:List T->Prop):Prop
 |mk(xs:List T)(h1:t.lst=Z xs)(h2:Q xs)
def MS:QC:=λts Q=>on1 ts λt=>onL t λxs=>T.ims xs=O/\Q (.l xs)
def sv:kN K (λxs H Q=>∃p ys,xs=[.ref p]/\(SqL K H p ys\/SqT K H p ys)/\∀l,H l=Y->Q (.ref l) (upd H l (.lst ys))) MS:=by
 intro dl H vs ts F Q R D r hq k
 replace hq:=on1.inv hq
 let(t,U,xs,hx,hi,hq):=hq;let(v,U,g):=r.one;let(p,vs,G,U,h1,h2):=g.VT hx;obtain rfl:=h2.im hi;refine(p,vs,U,.inl h1,λl hl=>?_)
 have rs:Rps K dl H vs _ []:=(h2,λc q=>nomatch q)
 exact k _ _ _ _ ((Evo.refl D).new hl) (rs.lst D hl) (λb z=>by rw[d2.mp z];exact hl) ad hq
end
end L2
namespace PySem
open Sem (wp)
section
variable{prog:Da}{w:Cl}{A:Db}{R:Result->ϋ->Prop}{I:J}{fp wr:List J}{n:Nat}{P:Nat->B->Prop}{St:Nat->Do->Prop}{κ:Type}[DecidableEq κ]{knd:KeyKind prog w κ}
def bO(xs more:List (List κ×J×B)):List (List κ×J×B):=more.foldl (λacc p=>storedH acc p.1 p.2.1 p.2.2) xs
def sj(xs:List (List κ×J×B))(k:List κ)(a:J)(v:B):(storedH xs k a v).length<=xs.length+1:=by
 unfold storedH
 split <;> simp
def jL(more:List (List κ×J×B)):∀(xs:List (List κ×J×B)),(bO xs more).length<=xs.length+more.length:=by
 induction more with
 |nil=>intro xs;exact ka _
 |cons p r g =>
  intro xs;have h1:=g (storedH xs p.1 p.2.1 p.2.2);have h2:=sj xs p.1 p.2.1 p.2.2;show(bO (storedH xs p.1 p.2.1 p.2.2) r).length<=_;simp only[pq]
  lia
def mV(xs more:List (List κ×J×B))(p:List κ×J×B):bO xs (more++[p])=storedH (bO xs more) p.1 p.2.1 p.2.2:=by
 unfold bO;rw[Xy];rfl
def gW(x:(tupleKind knd).is h ks b)(k:∀o,h.get? b=Z o->h'.get? b=Z o):(tupleKind knd).is h' ks b:=by
 let(o,its,m,h1,r):=x;exact(o,its,m,k o h1,r)
def Heap.DictOfH.at{h h':Do}(x:h.DictOfH (tupleKind knd) S xs)(k:∀o,h.get? S=Z o->h'.get? S=Z o)(q:∀z∈xs,∀o,h.get? z.2.1=Z o->h'.get? z.2.1=Z o):h'.DictOfH (tupleKind knd) S xs:=by
 let(o,es,ep,h1,h2,h3,h4,h5,h6):=x;exact(o,es,ep,k o h1,h2,h3,h4,λz g=>gW (h5 z g) (q z g),h6)
def mem_storedH{k:List κ}(h:z∈storedH xs k a v):z.2.1=a\/∃y∈xs,y.2.1=z.2.1:=by
 unfold storedH at h
 split at h
 ·let(y,q,U):=j0.mp h;refine .inr (y,q,?_);unfold putAt
  split <;> rfl
 ·obtain g|g:=i6.mp h
  ·exact .inr (z,g,U)
  ·rw[d2.mp g];exact .inl U
def pS:∀{xs:List (List κ×J×B)}{z:List κ×J×B},z∈bO xs more->(∃y∈xs,y.2.1=z.2.1)\/∃y∈more,y.2.1=z.2.1:=by
 induction more with
 |nil=>intro xs z h;exact .inl (z,h,U)
 |cons p r K =>
  intro xs z h;obtain⟨y,g,e⟩|⟨y,g,e⟩:=K h
  ·obtain q |⟨u,P,q⟩:=mem_storedH g
   ·exact .inr (p,j2,by rw[<- e,q])
   ·exact .inl (u,P,by rw[q,e])
  ·exact .inr (y,j1 _ g,e)
theorem gq(hu:A.units+3<cLine)(W:Walks prog w A.in1 I fp wr n P St)(S:J)(aV:S ∉ fp)(res:B)(h0:Do)(pairs:List (List κ×J×B))(hsz:pairs.length<=kf)(a5:pairs.length=n)
  (ar:∀z∈pairs,(tupleKind knd).is h0 z.1 z.2.1/\z.2.1 ∉ wr/\z.2.1≠S)
  (hp:∀i v,P i v->∃(a b:J)(o:Obj)(val:B)(k:List κ)(m:Nat),v=.ref a/\pairs[i]?=Z (k,b,val)/\h0.get? a=Z o/\o.cls=.type "tuple" /\ o.data=.seq #[.ref b,val] m/\a ∉ wr/\a≠S):
  ∀(j i:Nat)(s:ϋ),n-i=j->i<=n->St i s.heap->s.heap.DictOfH (tupleKind knd) S (bO [] (pairs.take i))->(∀b o,b ∉ wr->b≠S->h0.get? b=Z o->s.heap.get? b=Z o) ->
  (∀h' tk,(∀b o,b ∉ wr->b≠S->s.heap.get? b=Z o->h'.get? b=Z o)->h'.DictOfH (tupleKind knd) S (bO [] pairs)->R (.ok (.ret res)) {s with heap:=h',toks:=tk}) ->
  codeAny (model prog w) A (.builtin "dict.update.loop" ([.ref S,.ref I,rawInt i,res],[])) R s:=by
 have aR:=λh=>aV (W.sub _ h)
 have sub:∀{i:Nat}{z:List κ×J×B},z∈bO [] (pairs.take i)->z.2.1 ∉ wr/\z.2.1≠S:=λ{i z} h=>by
  obtain⟨y,hy,_⟩|⟨y,hy,e⟩:=pS h
  ·cases hy
  ·rw[<- e];exact(ar y (Fs hy)).2
 intro j
 induction j with
 |zero =>
  intro i s hk hi ak hS Q hR;have bM:i=n:=al
  subst bM;refine QG F.bu ?_;rw[XM F.aN _];refine dF (W.done s _ _ ak λh' tk g=>?_)
  refine dF (kb (kb (hR h' tk (λb o K _ e=>g b o K e) ?_)))
  have hS:=hS.at (λo=>g S o aR) λz V o=>g _ o (sub V).1
  rw[<- a5,mu]at hS;exact hS
 |succ j ih =>
  intro i s hk hi ak hS Q hR;have aP:=Xl hk;refine QG F.bu ?_;refine dF (W.item i s _ _ aP ak λv h' tk hP Ci g=>?_)
  let(a,b,o,val,k,m,U,av,ho,hc,hd,aQ,bN):=hp i v hP;have ay:=g a o aQ (Q a o aQ bN ho);have cf:=hS.at (λo=>g S o aR) λz V o=>g _ o (sub V).1
  have V:=ar _ (gV av);have t6:(tupleKind knd).is h' k b:=gW V.1 λo e=>g b o V.2.1 (Q b o V.2.1 V.2.2 e)
  refine dF (CF (dF (wpAny_tryCatch ?_)));refine dF (Lo (o,ay,hc) ?_);refine dF (wpAny_seqItems ay hd (kb ?_));have bj:(bO [] (pairs.take i)).length<=kf:=by
   have h1:=jL (pairs.take i) [];rw[p7,WJ]at h1
   lia
  refine CF (wpAny_dictSet_heap (hsz:=bj) ?_ t6 cf λcg vw a3=>?_)
  ·rw[XM F.aN _];exact tupleKind_room_in1 al
  have e:bO [] (pairs.take (i+1))=storedH (bO [] (pairs.take i)) k b val:=by
   rw[pM,av];exact mV _ _ _
  rw[<- e]at vw;have fr:∀b o,b≠S->h'.get? b=Z o->cg.get? b=Z o:=λb o K eb=>(a3.2 b K).trans eb
  exact kb (O3 F.aN _,ih (i+1) _ (by rw[Yl,hk];rfl) aP (W.frame _ _ _ Ci λb K o eb=>fr b o (λz=>aV (z▸K)) eb) vw (λb o K q eb=>fr b o q (g b o K (Q b o K q eb))) λh3 a0 bp b0=>(hR h3 a0 (λb o K q eb=>bp b o K q (fr b o q (g b o K eb))) b0))
theorem l9{E:B->ϋ->Prop}{s:ϋ}{S p:J}{its:Array B}{pairs:List (List κ×J×B)}{id:String}{res:B}(hu:A.units+3<cLine)(hh:A.handled=Y)(hS:s.heap.DictOfH (tupleKind knd) S [])(av:p≠S)
  (ho:∃(o:Obj)(n:Nat),s.heap.get? p=Z o/\o.dict=Y/\o.data=.seq its n/\(o.cls=.type "tuple" \/ o.cls=.type "list")) (hsz:pairs.length<=kf) (ay:pairs.length=its.size)
  (Q:∀z∈pairs,(tupleKind knd).is s.heap z.1 z.2.1)
  (hp:∀(i:Nat)(v:B),its[i]?=Z v->∃(a b:J)(o:Obj)(val:B)(k:List κ)(m:Nat),v=.ref a/\pairs[i]?=Z (k,b,val)/\s.heap.get? a=Z o/\o.cls=.type "tuple" /\ o.data=.seq #[.ref b,val] m)
  (hR:∀h' tk,(∀b o,b≠S->s.heap.get? b=Z o->h'.get? b=Z o)->h'.DictOfH (tupleKind knd) S (bO [] pairs)->R (.ok (.ret res)) {s with heap:=h',toks:=tk}):
  wpAny (model prog w) A.in1 (Builtin.Dict.updateFrom id S (.ref p) [] res) (λfin s'=>match fin with|.done f=>R (.ok f) s' |.again c'=>c'.quiet=O/\codeAny (model prog w) A c' R s') (λe s'=>R (.error e) s') s:=by
 let(o,n,hg,V,K,g):=ho;have P:∀{a:J}{oa:Obj}{m:Nat}{us:Array B},s.heap.get? a=Z oa->oa.data=.seq us m->a≠S:=λ{a oa m us} e4 e6 z=>by
  let(o,_,_,e,hc,hd,_):=hS;rw[<- z,e4]at e;cases e;rw[e6]at hd;cases hd
 have fin:∀(h1:Do) tk h2 I St,(∀b o,s.heap.get? b=Z o->h1.get? b=Z o)->(∀b o,h1.get? b=Z o->h2.get? b=Z o)->h1.objs.size<=I->Walks prog w A.in1 I [I,p] [I] its.size (λi v=>its[i]?=Z v) St->St 0 h2 ->
   codeAny (model prog w) A (.builtin "dict.update.loop" ([.ref S,.ref I,rawInt 0,res],[])) R {s with heap:=h2,toks:=tk}:=by
  intro h1 tk h2 I St k1 k2 hI W ar;have q:∀b o,s.heap.get? b=Z o->b≠I:=λb o e z=>by
   have:=j5 (k1 b o e)
   exact absurd (ro this hI) (by rw[z];exact SQ _)
  have aP:S ∉ [I,p]:=λz=>by
   let(o,_,_,e,_):=hS;obtain z|z:=kO.mp z
   ·exact q S o e z
   ·exact av (d2.mp z).symm
  refine gq (knd:=knd) hu W S aP res s.heap pairs hsz ay (λz hz=>?_) (λi v hP=>?_) its.size 0 _ U (v5 _) ar ?_ (λb o _ _ e=>k2 b o (k1 b o e)) λh' ak hk aQ=>?_
  ·have hk:=Q z hz;let(oz,iz,mz,e1,e2,e3,_):=hk;exact(Q z hz,λy=>q _ oz e1 (d2.mp y),P e1 e3)
  ·let(a,b,oa,val,k,m,e1,e2,e4,e5,e6):=hp i v hP;exact(a,b,oa,val,k,m,e1,e2,e4,e5,e6,λz=>q a oa e4 (d2.mp z),P e4 e6)
  ·exact hS.at (λo e=>k2 _ _ (k1 _ _ e)) λz hz=>nomatch hz
  ·exact hR h' ak (λb o hb e=>hk b o (λz=>q b o e (d2.mp z)) hb (k2 b o (k1 b o e))) aQ
 obtain g|g:=g
 ·refine dF (Lo (o,hg,g) ?_);refine dF (jb hg g K V hh λh1 tk k1=>?_)
  refine dF (VQ ?_);have hT:h1.IsTuple p its:=(o,k1 _ _ hg,g,n,K);exact dF (wpAny_pyIter_tuple hT (kb (O3 F.aN _,(fin h1 tk _ h1.objs.size _ k1 (λb o e=>fC _ e) (ka _) (Walks.tuple (show A.in1.handled=Y from hh) _ p (ri (j5 (k1 _ _ hg))) its) ((_,ke _ U,U,U),hT.push _)))))
 ·refine dF (Lo (o,hg,g) ?_);refine dF (jO hg g K V hh λh1 tk k1=>?_)
  refine dF (VQ ?_);have hT:h1.IsList p its:=(o,k1 _ _ hg,g,n,K);exact dF (wpAny_pyIter_list hT (kb (O3 F.aN _,(fin h1 tk _ h1.objs.size _ k1 (λb o e=>fC _ e) (ka _) (Walks.list (show A.in1.handled=Y from hh) _ p (ri (j5 (k1 _ _ hg))) its) ((_,ke _ U,U,U),hT.push _)))))
end
end PySem
namespace L2
open PySem PySem.Spec PyProof.Rows
variable{H:Hp}{gd:List (J×Obj)}
section
variable{X:Cx}
def cC(kvs more:List (List Key×V)):List (List Key×V):=more.foldl (λacc kv=>putK acc kv.1 kv.2) kvs
def KT.merge:∀{more:List (List Key×V)}{rs:List (List Key×J×B)}{kvs:List (List Key×V)}{xs:List (List Key×J×B)},KT H more rs->KT H kvs xs->KT H (cC kvs more) (bO xs rs):=by
 intro more rs kvs xs r
 induction r generalizing kvs xs with
 |nil=>intro q;exact q
 |@cons p q ps qs h t z =>
  intro g;let(h1,h2,h3):=h;have e:=KT.put g p.1 h2 h3;have K:KT H (putK kvs p.1 p.2) (storedH xs q.1 q.2.1 q.2.2):=by rw[<- h1];exact e
  exact z K
theorem f6:∀(more kvs:List (List Key×V)),(cC kvs more).length<=kvs.length+more.length
 |[],kvs=>by show kvs.length<=kvs.length+0;lia
 |p::r,kvs=>by
  have h1:=f6 r (putK kvs p.1 p.2);have h2:=gC kvs p.1 p.2;show(cC (putK kvs p.1 p.2) r).length<=_;rw[pq];lia
inductive Ih(xs:List V)(H:Hp)(Q:VK):Prop
 |mk(p:J)(ps bs:List J)(kvs:List (List Key×V))(h1:xs=[.ref p])(h2:H p=Z (.lst (ps.map V.ref)))(h3:ps.length=kvs.length)(h3':bs.length=kvs.length)(h4:∀(i:Nat)(a b:J)(kv:List Key×V),ps[i]?=Z a->bs[i]?=Z b->kvs[i]?=Z kv->H a=Z (.tup [.ref b,kv.2])/\H b=Z (.tup (kv.1.map kV)))(h5:∀d,H d=Y->Q (.ref d) (upd H d (.dT (cC [] kvs))))
def FN{σ:St}(I:Inv X gd σ H s):∀{ps bs:List J}{kvs:List (List Key×V)}{us:List B},Vals (ps.map V.ref) us->ps.length=kvs.length->bs.length=kvs.length->(∀(i:Nat)(a b:J)(kv:List Key×V),ps[i]?=Z a->bs[i]?=Z b->kvs[i]?=Z kv->H a=Z (.tup [.ref b,kv.2])/\H b=Z (.tup (kv.1.map kV))) ->
  ∃pairs:List (List Key×J×B),KT H kvs pairs/\∀(i:Nat)(v:B),us[i]?=Z v->∃(a b:J)(o:Obj)(val:B)(k:List Key)(m:Nat),v=.ref a/\pairs[i]?=Z (k,b,val)/\s.heap.get? a=Z o/\o.cls=.type "tuple" /\ o.data=.seq #[.ref b,val] m:=by
 intro ps
 induction ps with
 |nil =>
  intro bs kvs us r hl _ _;have e:kvs=[]:=by cases kvs with|nil=>rfl|cons _ _=>simp at hl
  subst e;cases r;exact([],.nil,λi v h=>by simp at h)
 |cons p ps ih =>
  intro bs kvs us r hl K h;cases kvs with
  |nil=>simp at hl
  |cons kv kvs =>
   cases bs with
   |nil=>simp at K
   |cons b bs =>
   cases r with
   |@cons _ u _ us r1 Q =>
    let(pairs,h1,h2):=ih Q (hl:) (K:) λi p b kv z q g=>h (i+1) p b kv (z:) (q:) (g:)
    let(hp,hq):=h 0 p b kv ad ad ad
    let(its,P,(o,ho,hc,m,hd),_):=I.tuple (SqT.of hp);cases P with
    |@cons _ key _ rest k1 k2 =>
     cases k2 with
     |@cons _ val _ Tr k3 k4 =>
      cases k4
      cases(k1)
      refine((kv.1,b,val)::pairs,.cons (U,hq,k3) h1,λi v hv=>?_)
      cases i with
      |zero =>
       simp at hv;subst hv
       cases(r1)
       exact(p,b,o,val,kv.1,m,U,ad,ho,hc,hd)
      |succ i =>
       let(a,b',oa,PZ,k,m',z,q,g):=h2 i v (hv:)
       exact(a,b',oa,PZ,k,m',z,(q:),g)
def KT.keys(r:KT H kvs xs):∀z∈xs,H z.2.1=Z (.tup (z.1.map kV)):=by
 induction r with
 |nil=>intro z g;cases g
 |@cons p q ps qs h t K =>
  intro z g;obtain e|e:=kO.mp g
  ·rw[e,<- h.1];exact h.2.1
  ·exact K z e
theorem Cu(hu:X.A.units+5<cLine)(hc:X.calm=O):cx X (.type "dict") Ih:=by
 intro gd s σ H xs us Q I r h;let(p,ps,bs,kvs,U,hp,hl,av,ak,q):=h;let(u,U,ru):=vals1 r;cases ru;have hh:=I.ok.hd hc;obtain⟨its,rv,K,ob⟩:∃its:List B,Vals (ps.map V.ref) its/\(ps.map V.ref).length<=kf/\∃(o:Obj)(n:Nat),s.heap.get? p=Z o/\o.dict=Y/\o.data=.seq its.toArray n/\(o.cls=.type "tuple" \/ o.cls=.type "list"):=by
  let(K,its,n,rv,e):=(I.hok p _ hp);exact(its,rv,K,_,n,e,U,U,.inr U)
 let(pairs,kv,tZ):=FN I rv hl av ak;refine callType_codes (Q₁:=λobj g=>obj=.ref s.heap.objs.size/\g={s with heap:=s.heap.push {cls:=.type "dict",data:=.dict #[]}}) F.kt_called_dict (F.kt_typeCall_dict_1 _) F.entry_dict_init (kt_code_dict_new _ (U,U)) ?_
 rintro obj g ⟨rfl,rfl⟩
 have P:(s.heap.push {cls:=.type "dict",data:=.dict #[]}).DictOfH (tupleKind (a6 X.prog X.w)) s.heap.objs.size []:=Heap.DictOfH.new s.heap;refine(P.typeIs,F.args_dict_init_2 _ _,(dF (dF (wpAny_notOrdered_dict P.typeIs (kb ?_)))));let(o,n,ho,aP,ay,aQ):=ob;have ar:=rv.length;rw[cO]at ar K;have aR:=Paired.length kv;refine l9 (E:=λ_ _=>True) (pairs:=pairs) ?_ hh P (ri (j5 ho)) (o,n,fC _ ho,aP,ay,aQ) al (by rw[nP];lia) (λz K=>?_) (λi v hv=>?_) λh' tk hk hd=>?_
 ·show X.A.units+1+3<cLine;omega
 ·exact gW (jP I.hok (kv.keys z K)) λo e=>fC _ e
 ·let(a,b,oa,val,k,m,e1,e2,e4,e5,e6):=tZ i v (hv:)
  exact(a,b,oa,val,k,m,e1,e2,fC _ e4,e5,e6)
 ·refine(U,.ref s.heap.objs.size,_,I.laid (λb u e=>hk b u (ri (j5 e)) (fC _ e)) (ka _) ?_,U,q _ (I.hok.fresh (ka _)))
  let(q',es,ep,hq,h2,h3,h4,_,h5):=hd;refine(?_,?_,_,KT.keeps (KT.merge kv .nil) λc ys ec=>by rw[au (λz=>by rw[z,I.hok.fresh (ka _)]at ec;cases ec)];exact ec,q',es,ep,hq,h2,h3,h4,h5)
  ·have:=f6 kvs []
   simp only[WJ]at this
   lia
  ·have:=I.big
   exact beq_eq_false_iff_ne.mpr (C3 this)
end
variable{d:J}{dl:Dl}
section
variable{X:Cx}{K:BT}{a b e:Ev}{ta tb te:TE}{qa qb qe:QE}{pos p:Pos}
def Inv.D5{σ:St}(I:Inv X gd σ H s)(ha:H d=Z (.dT kvs)):∃o,Inv X gd σ (upd H d (.frz o (.dT kvs))) s:=by
 have q:∀o v,X.ba d≠Z (.frz o v):=λo v e=>by
  have:=I.base.kJ d o v e
  rw[ha]at this;cases this
 let(z,hs,vs,r,o,es,ep,e,c):=(I.hok d _ ha);exact(o,I.zc ha nofun nofun nofun q (e,z,hs,vs,KT.keeps r λc ys g=>by rw[au (ja g ha (λz=>nomatch z))];exact g,o,es,ep,e,c))
def zG:T->Option (List Key×V)
 |.t [.t ks,.i x]=>(kU ks).map λk=>(k,.int x)
 |_=>Y
def kx:List T->Option (List (List Key×V))
 |[]=>Z []
 |x::r=>match zG x,kx r with
  |some p,Z ps=>Z (p::ps)
  |_,_=>Y
def FO{p:List Key×V}(h:zG x=Z p):∃ks n,x=.t [.t ks,.i n]/\kU ks=Z p.1/\p.2=.int n:=by
 unfold zG at h
 split at h
 ·let(k,h1,U):=gs.mp h;exact(_,_,U,h1,U)
 ·cases h
theorem aB.cE:∀{xs:List T}{vs:List V}{F:List J}{kvs:List (List Key×V)},aB K dl H vs xs F->kx xs=Z kvs->∃ps bs:List J,vs=ps.map V.ref/\ps.length=kvs.length/\bs.length=kvs.length/\∀(i:Nat)(a b:J)(kv:List Key×V),ps[i]?=Z a->bs[i]?=Z b->kvs[i]?=Z kv->H a=Z (.tup [.ref b,kv.2])/\H b=Z (.tup (kv.1.map kV))
 |[],_,_,_,h,e=>by cases h;cases e;exact([],[],U,U,U,λi a b kv h=>by simp at h)
 |x::r,_,_,_,h,e=>by
  cases h with
  |cons h1 h2 =>
   unfold kx at e
   split at e
   ·rename_i p ps q g;cases e;let(ks,n,U,hk,hv):=FO q;let(qs,bs,U,l1,l2,P):=h2.cE g;let(a,us,U,ha,hr):=h1.tup;cases hr with
    |cons g1 g2 =>
     cases g2 with
     |cons g3 g4 =>
      cases g4;let(b,ws,U,Q,hw):=g1.tup;let(U,_):=g3.int;have ew:=hw.J9 hk;subst ew;refine(a::qs,b::bs,U,by simp[l1],by simp[l2],λi a' b' kv q g z=>?_)
      cases i with
      |zero=>cases q;cases g;cases z;rw[hv];exact(ha,Q)
      |succ i=>exact P i a' b' kv (q:) (g:) (z:)
   ·cases e
def Qb(te:TE):TE:=λσ H Q=>tCB Ih (di te ix) σ H λv H1=>∃d kvs,v=.ref d/\H1 d=Z (.dT kvs)/\∀o,Q v (upd H1 d (.frz o (.dT kvs)))
def QU(qe:QE):QE:=λq Q=>qe q λt=>match t with
 |.l xs=>Ex3 (λkvs=>kx xs=Z kvs) (λkvs=>.fz (.dT (cC [] kvs))) Q
 |_=>False
def Iy(hu:X.A.units+150<cLine)(hm:X.mg "dict"=Y)(he:QPF X K e te qe)(hg:Gl X "dict":=by exact U)(hc:X.calm=true:=by exact U)
  (hv:bootBuiltins "dict"=Z (.type "dict"):=by kernel_rfl) (hs:‹AC X e []›) (V:‹(backTo pos (kg [] X.env)).any (·.1)=false›):
  QPF X K (.Call (.Name "dict" p) [e] [] pos) (Qb te) (QU qe):=(by
 left;refine thn (vU (Cu al hc) hg hm hv (bX he.h dC hs) ac ac hs V gd s σ H _ I h) λu s' ak=>?_
 let(v,H',I',r,d,kvs,g,e2,q):=ak;let(o,I2):=I'.D5 e2;exact(v,_,I2,r,q o),λdl H σ q Q R rd hq k=>he.s dl H σ q _ _ rd hq λv t F H1 g r1 f1 n1 P=>by
 split at P
 ·let(kvs,hk,hq):=P;let(p,vs,G,U,U,h1,h2):=r1.r.lst;let(ps,bs,U,l1,l2,hh):=h2.cE hk;exact(p,ps,bs,kvs,U,h1,l1,l2,hh,λd hd=>(d,_,U,az,λo=>(k _ _ [] _ ((g.new hd).fresh (g.free hd) (g.d.nd0 hd)) (.fz az,bY) bY kc hq)))
 ·exact P.elim)
def aK.fzz{v:V}(h:aK K dl H v (.fz u) F):∃a o,v=.ref a/\F=[]/\H a=Z (.frz o u):=h.inv
def T4:Q2:=λt u Q=>match t,u with
 |.fz (.dT kvs),.t ks=>Ex2 (λp:List Key×Int=>kU ks=Z p.1/\bP kvs p.1=Z (.int p.2)) λp=>Q (.i p.2)
 |_,_=>False
def sO(hu:X.A.units+150<cLine)(ha:QPE X K a ta qa)(g:QPE X K b tb qb)(hs:SO b:=by intro _ _;rfl):QPF X K (.Subscript a b pos) (Pc ta tb) (qOp T4 qa qb):=(gy al ha.h g.h hs,λdl H σ q Q R rd hq k=>ha.s dl H σ q _ _ rd hq λv t F H1 V P hq=>g.s dl H1 σ q _ _ (rd.evo V) hq λw u G H2 e2 r2 hq=>by
 have P:=P.evo V.d e2;unfold T4 at hq
 split at hq
 ·let(p,(hk,hv),hq):=hq;let(d,o,U,U,hd):=P.r.fzz;let(b,vs,U,g,hr):=r2.r.tup;have ev:=hr.J9 hk;subst ev;exact(d,_,U,.inr (_,p.1,b,.inr (o,hd),U,g,hv.symm),k _ _ [] H2 (V.trans e2) (.c (.i _)) bY kc hq)
 ·exact hq.elim)
end
def Iti(d:J)(o:Obj)(kvs:List (Key×V)):It:=
 (λi H=>H d=Z (.frz o (.dK kvs))/\i<kvs.length,
   λi H v H'=>∃(p:J)(kv:Key×V),H p=Y/\v=.ref p/\H'=upd H p (.tup [kV kv.1,kv.2])/\kvs[i]?=Z kv,
   λi H=>H d=Z (.frz o (.dK kvs))/\kvs.length<=i)
variable{P:Da}{elts:List Ev}
theorem Bc{K:BT}(d it:J)(o:Obj)(kvs:List (Key×V))(es:Array Y2)(ep:Nat)(ho:o.data=.dict es ep):
  Turn P w K (.Tuple elts x1 pos) (Iti d o kvs) [it] it (λi h=>∃ok q,IsItemIter h it d i kvs.length ep ok q) where
 mem:=by simp
 obj:=λi h st b g=>by
  have e:=(g:)
  subst e;let(ok,q,e):=st;exact(_,e,λv z=>by cases z)
 keep:=λi h h' st k=>let(ok,q,e):=st;(ok,q,k it ad _ e)
 item:=by
  intro X hP hw hK hc i gd s σ H E I hf st hg;subst hP hw hK;let(ok,q,h1):=st;let(hd,aP):=hg;let(_,vs,r,at_):=lO I hd ho;have l1:=Paired.length r;obtain⟨wv,hv⟩:∃wv,vs[i]?=Z wv:=(_,dN al)
  let(kv,ek,e1,e2):=Paired.at_ r hv;rw[l1]at h1;refine wpAny_pyNext_items_item h1 at_ hv λkey h' t6 ar ay V8 av=>(_,U,(wpAny_letOwnedTupleGo_items ar λak Oi R3=>?_))
  have hn:=I.hok.fresh (ka s.heap.objs.size);have le:=j5 h1;have up:∀c o,c≠it->h'.get? c=Z o->ak.get? c=Z o:=λc o hc z=>R3.extBut _ _ hc z
  have I1:Inv X gd σ (upd H s.heap.objs.size (.tup [kV kv.1,kv.2])) {s with heap:=s.heap.push {cls:=.type "tuple",data:=.seq #[key,wv.2]}}:=
   I.laid (λb u z=>fC _ z) (ka _) (by show 2<=kf;decide,[key,wv.2],.cons (Cb (by rw[e1];exact t6)) (.cons e2 .nil),((_,ke _ U,U,_,U),_,ke _ U,U))
  have Q:∀b ∈ [it],uG X gd (upd H s.heap.objs.size (.tup [kV kv.1,kv.2])) b:=λb g=>by
   let(f0,r):=hf b g;rw[d2.mp g]at f0 r ⊢;exact(by rw[au (ri le)];exact f0,r)
  have I2:=by
   refine I1.qU (h':=ak) (t':=s.toks) (λb o g z=>?_) Q
   simp only[kO,x2,or_false]at g;obtain⟨rfl,rfl⟩|z':=Yt z
   ·exact up _ _ g ay
   ·exact up _ _ g (av b o g z')
  rw[<- l1]at Oi;exact(.ref s.heap.objs.size,upd H s.heap.objs.size (.tup [kV kv.1,kv.2]),I2,U,(_,kv,hn,U,U,ek),(_,_,Oi),λb g=>(Q b g).1)
 done:=by
  intro X hP hw hK hc i gd s σ H E I hf st hg;subst hP hw hK;let(ok,q,h1):=st;let(hd,hle):=hg;let(_,vs,r,at_):=lO I hd ho;have l1:=Paired.length r;rw[l1]at h1;exact wpAny_pyNext_items_end (I.ok.hd hc) h1 at_ (Ln al) λh' eb=>(U,I.qU (λb o g z=>eb b o (λy=>g (by simp[y])) z) hf)
 self:=λ_ _ _ _ _ st h=>by
  let(ok,q,h1):=st;exact W.kcp_self h1 h
variable{pos':Pos}{a:J}{ob:Obj}{H1:Hp}
section
variable{X:Cx}{K:BT}{o:Ev}{to:TE}{qo:QE}{apos aQ:Pos}
def Cg(to:TE):TI:=λσ H R=>Hg to σ H λx H1=>∃v d ob kvs,x=.ref v/\H1 v=Z (.ext (ItV v d))/\H1 d=Z (.frz ob (.dK kvs))/\R (Iti d ob kvs) H1
def zw{x1}(ho:PE X o to)(cg:‹attributeBase o "items" X.env (eval o X.env)=eval o X.env›)(cf:‹(apos.endLine==aQ.line)=true›):PI X (.Tuple elts x1 pos') (.Call (.Attribute o "items" apos) [] [] aQ) (Cg to):=by
 intro gd s σ H R I h;refine thn (Jr ho cg cf gd s σ H _ I h) λu s1 P=>?_
 let(x,H1,g,r1,v,d,ob,kvs,ex,hv,hd,q):=P;subst ex;cases r1;let(K,_):=(g.hok v _ hv);let(eo,z,ar,ak,r0,o',es,ep,V,c,Q,rest):=(g.hok d _ hd);rw[eo]at V;cases V;let(hs,vs,r,at_):=lO g hd Q;have l1:=Paired.length r;refine wpAny_pyIter_items K at_ ?_;refine(_,[s1.heap.objs.size],_,_,H1,U,g.kept (λb o e=>fC _ e),Bc d _ ob kvs es ep Q,(_,_,by rw[l1];exact ke _ U),λc hc=>?_,q)
 rw[d2.mp hc];exact g.Gm (ka _) (g.hok.fresh (ka _))
def a7.at2(h:a7 K dl H vs ts F):F=[]->∀{i:Nat}{kv:Key×V}{t:Key×T},vs[i]?=Z kv->ts[i]?=Z t->kv.1=t.1/\aK K dl H kv.2 t.2 []:=
 h.ind (λ_ _ _ _ h=>by simp at h) λk v x vs ts F G h _ g e {i kv t} h1 h2=>by
  let(z,q):=yL.mp e;subst z;cases i with
  |zero=>cases h1;cases h2;exact(U,h)
  |succ i=>exact g q (h1:) (h2:)
def z9:vE K dl (Iti a ob vs) (ts.map Pr) [(.ref a,.fd ob vs ts)] where
 go:=λH i D h hi=>by
  let(F,r):=h (.ref a,.fd ob vs ts) ad
  let(_,e,_,h1,h2):=r.r.qK;cases e;rw[cO]at hi;exact(h1,by rw[h2.len];exact hi)
 yld:=λH i x fp v H' D h hx y=>by
  have r:=h (.ref a,.fd ob vs ts) ad
  let(_,e,_,h1,h2):=r.r.qK;let(p,kv,hp,U,U,ek):=y;rw[fy]at hx;let(t,q,U):=gs.mp hx;let(Q,g):=h2.at2 U ek q;have rs:Rps K dl H [kV kv.1,kv.2] [kT t.1,t.2] ([]++([]++[])):=Rps.cons (by rw[Q];cases t.1;exact .i _;exact .s _,bY) (Rps.cons (g,bY) (.nil,bY))
  exact((Evo.refl D).new hp,_,rs.tup D hp,λc P=>nomatch P)
 stop:=λH D h=>by
  let(F,r):=h (.ref a,.fd ob vs ts) ad
  let(_,e,_,h1,h2):=r.r.qK;cases e;exact(h1,by rw[cO,h2.len];exact ka _)
def Vg(qo:QE):QI:=λq Q=>qo q λt=>match t with|.fd _ _ ts=>Q (ts.map Pr)|_=>False
def HA{σ:St}{R:It->Hp->Prop}{vs:List (Key×V)}(hd:H1 d=Z (.frz ob (.dK vs)))(k:∀w,H1 w=Y->R (Iti d ob vs) (upd H1 w (.ext (ItV w d)))):BB (.ref d) [] H1 λx H2=>∃v d ob kvs,x=.ref v/\H2 v=Z (.ext (ItV v d))/\H2 d=Z (.frz ob (.dK kvs))/\R (Iti d ob kvs) H2:=
 (d,vs,U,U,.inr (ob,hd),λw hw g=>(w,d,ob,vs,U,az,by rw[au g.symm];exact hd,k w hw))
def Ip{V}(ho:QPE X K o to qo)(cg:‹attributeBase o "items" X.env (eval o X.env)=eval o X.env›)(cf:‹(apos.endLine==aQ.line)=true›):
  QPI X K (.Tuple elts V pos') (.Call (.Attribute o "items" apos) [] [] aQ) (Cg to) (Vg qo):=(zw ho.h cg cf,λdl H σ q Q R rd hq k=>ho.s dl H σ q _ _ rd hq λv t F H1 z P g=>by
 split at g
 ·let(d,U,U,h1,h2):=P.r.qK;refine HA (σ:=σ) h1 λw hw=>k _ _ _ _ (z.new hw) z9 (λp hp=>by rw[d2.mp hp];exact(_,P.evo z.d ((Evo.refl z.d).new hw))) g
 ·exact g.elim)
def Io{x1}(ho:QPE X K o to qo)(cg:‹attributeBase o "items" X.env (eval o X.env)=eval o X.env›)(cf:‹(apos.endLine==aQ.line)=true›):
  QPJ X K (.Tuple elts x1 pos') (.Call (.Attribute o "items" apos) [] [] aQ) (Cg to) (asJ (Vg qo)):=(zw ho.h cg cf,λdl ba hs H σ q Q R (F0,r0) hq k=>ho.s dl H σ q _ _ r0.rd hq λv t F H1 P V g=>by
 split at g
 ·let(d,U,U,h1,h2):=V.r.qK;refine HA (σ:=σ) h1 λw hw=>?_
  have ev:=(Evo.refl P.d).new (o:=.ext (ItV w d)) hw;exact k _ _ _ _ q (F0,(r0.evo (P.trans ev)).hold (V.evo P.d ev) λj u hj b hb z=>nomatch z) z9 g
 ·exact g.elim)
end
end L2
namespace L2
open PySem PySem.Spec PyProof.Rows
variable{d:J}{ep:Nat}{ns:List Int}{Q:B->ϋ->Prop}
section
variable{prog:Da}{w:Cl}{A:Db}{E:B->ϋ->Prop}{s:ϋ}
theorem K0{R:List B->ϋ->Prop}(K:A.handled=Y)(lo:(d==sysModules)=ϊ)(z:s.heap.DictAt (a6 prog w) d kvs ep)(hn:kvs.length<=kf)
  (h:∀(h':Do)(tk:Nat)(acc:Array B),(∀b o,s.heap.get? b=Z o->h'.get? b=Z o)->s.heap.objs.size<h'.objs.size->ItemsOf (λi v=>∃k x,kvs[i]?=Z (k,x)/\(a6 prog w).is k v=O) acc kvs.length->R acc.toList {s with heap:=h',toks:=tk}):wpAny (model prog w) A (collect (.ref d)) R E s:=by
 have g:=z.lt_size;refine dF (wpAny_runValue (QG PySem.F.entry_proto_collect ?_));refine dF (W0 (kb (O3 PySem.F.plain_list_iadd _,QG PySem.F.entry_list_iadd ?_)));have P:(s.heap.push (~~~([]).toArray)).get? s.heap.objs.size=Z (~~~#[]):=ke _ U;have old:∀b o,s.heap.get? b=Z o->b≠s.heap.objs.size:=λb o e=>ri (j5 e)
 have ld:∀{h':Do}{tk:Nat}{acc:Array B}{c:Nat},(∀b o,b≠s.heap.objs.size->(s.heap.push (~~~([]).toArray)).get? b=Z o->h'.get? b=Z o)->h'.get? s.heap.objs.size=Z {cls:=.type "list",dict:=Y,data:=.seq acc c,slots:=#[]} ->
   ItemsOf (λi v=>∃k x,kvs[i]?=Z (k,x)/\(a6 prog w).is k v=O) acc kvs.length->R acc.toList {s with heap:=h',toks:=tk}:=λ{h' tk acc c} k1 k2 k3 =>
  h h' tk acc (λb o e=>k1 b o (old b o e) (fC _ e)) (j5 k2) k3
 have key:=W.kdl_extend (s:={s with heap:=s.heap.push (~~~([]).toArray)}) (res:=.ref s.heap.objs.size)
  (R:=λq s'=>∃h' tk acc c,q=.ok (.ret (.ref s.heap.objs.size))/\s'={s with heap:=h',toks:=tk}/\h'.get? s.heap.objs.size=Z {cls:=.type "list",dict:=Y,data:=.seq acc c,slots:=#[]}/\R acc.toList {s with heap:=h',toks:=tk})
  (W.kdl_dict lo) K (z.push _) s.heap.objs.size (C3 g) (C3 g) 0 P (λh' tk acc c k1 k2 k3=>(h',tk,acc,c,U,U,k2,ld k1 k2 k3)) hn
 refine QH key (λfin s' x=>?_) λe s' x=>?_
 ·cases fin with
  |done f =>
   let(h',tk,acc,c,e,U,k2,k3):=x;cases e;exact dF (wpAny_load k2 (kb k3))
  |again c₁ =>
   refine(x.1,codeAny_mono x.2 λq s₂ y=>?_)
   let(h',tk,acc,c,U,U,k2,k3):=y;exact dF (wpAny_load k2 (kb k3))
 ·let(_,_,_,_,Q,_):=x;cases Q
def yz(hh:A.handled=Y)(lo:(d==sysModules)=ϊ)(P:s.heap.DictAt (a6 prog w) d kvs ep)(hk:kvs.map (·.1)=ns.map Sum.inl)(z:ns.length<64)
  (hQ:∀(l:J)(out:Array B)(ns':List Int)(e:Nat)(h':Do)(tk:Nat),IntsAre out.toList ns'->ns'.Perm ns->ns'.Pairwise (· <= ·)->h'.get? l=Z (seqObj "list" out e)->s.heap.objs.size<=l->(∀b o,s.heap.get? b=Z o->h'.get? b=Z o)->Q (.ref l) {s with heap:=h',toks:=tk}):
  wpAny (model prog w) A (call (.builtin "sorted") [.ref d]) Q E s:=by
 have hlen:=(congrArg Ez hk:)
 refine Calls.call_function_entry kind_sorted plain_sorted entry_sorted (args_sorted1 _) ?_;refine dF (kb ?_);refine dF (K0 hh lo P (uE (ro (by lia:kvs.length<64) ac)) λh' tk acc K hsz gf=>?_)
 have q:acc.toList.length=ns.length:=by rw[W2,gf.1,hlen]
 have hI:=by
  have go:∀vs ns,vs.length=ns.length->(∀(i:Nat) v n,vs[i]?=Z v->ns[i]?=Z n->∃t,v=.int n t)->IntsAre vs ns:=by
   intro vs
   induction vs with
   |nil=>intro ns hl _;cases ns with|nil=>exact .nil|cons _ _=>simp at hl
   |cons v r ih =>
    intro ns hl h;cases ns with
    |nil=>simp at hl
    |cons n ns =>
     let(t,U):=h 0 v n U U;exact .cons n t (ih ns (hl:) λi v' n' h1 h2=>h (i+1) v' n' (h1:) (h2:))
  refine go _ _ q λi v n h1 h2=>?_
  let(k,x,e1,V):=gf.2 i v (by rw[<- XC];exact h1)
  have e3:=congrArg (·[i]?) hk;simp only[fy,e1,h2]at e3;have e4:=Option.some.inj e3;subst e4
  have:=Cb V
  exact this
 refine dF (wpAny_newList ?_ (fits_of_scanBound (Xr (by rw[q];exact z) ac)))
 have g:(h'.push (seqObj "list" acc.toList.toArray 0)).get? h'.objs.size=Z (seqObj "list" acc.toList.toArray 0):=ke _ U;refine dF (CF (yK slot_list_sort (_,g,U) entry_list_sort (list_sort_tree g hI (by rw[q];exact z) λout ns' a1 a2 a3=>(_,U,?_)) (args_list_sort _)))
 let(e,he):=sortedHeap_at g;refine kb (_,U,hQ _ out ns' e _ _ a1 a2 a3 he ?_ λb o V=>?_)
 ·exact uE hsz
 ·have:=K b o V
  rw[sortedHeap_old (ri (j5 this)) (by rw[wh];exact X7 (j5 this))]
  exact fC _ this
end
variable{kvs:List (Key×V)}{b:Ev}{ta:TE}{qa:QE}{qb:QE}
section
variable{X:Cx}{K:BT}
inductive BA(xs:List V)(H:Hp)(Q:VK):Prop
 |mk(d:J)(ob:Obj)(kvs:List (Key×V))(ns:List Int)(h1:xs=[.ref d])(h2:H d=Z (.frz ob (.dK kvs)))(h3:kvs.map (·.1)=ns.map Sum.inl)(h4:ns.length<64)(h5:∀l (ns':List Int),ns'.Perm ns->ns'.Pairwise (· <= ·)->H l=Y->Q (.ref l) (upd H l (.lst (ns'.map V.int))))
def KV.z7(h:KV kvs vs):vs.map (·.1)=kvs.map (·.1):=by
 induction h with
 |nil=>rfl
 |cons h _ g=>rw[qS,g];exact congrArg (· :: _) h.1.symm
def Ct(hc:X.calm=O):cx X (.builtin "sorted") BA:=by
 intro gd s σ H xs us Q I r h;let(d,ob,kvs,ns,U,hd,hk,K,q):=h;let(u,U,ru):=vals1 r;cases ru;let(eo,z,ar,ak,r0,o',es,ep,e',c,pE,rest):=(I.hok d _ hd);rw[eo]at e';cases e';let(hs,vs,rv,at_):=lO I hd pE;refine yz (I.ok.hd hc) hs at_ (by rw[KV.z7 rv];exact hk) K λl out ns' e h' tk a1 a2 a3 he g P=>?_
 exact(.ref l,_,I.laid (o:=.lst (ns'.map V.int)) P g (by rw[cO,a2.length_eq];exact uE (ro K ac),out.toList,e,vH a1,by exact he),U,q l ns' a2 a3 (I.hok.fresh g))
def AA(q:X.K=K)(g:X.calm=O):cx X (.builtin "sorted") BA:=Ct g
def QF:QC:=λts Q=>on1 ts λt=>match t with
 |.fd _ _ ks=>Ex2 (λns:List Int=>ks.map (·.1)=ns.map Sum.inl/\ns.length<64) λns=>∀ns':List Int,ns'.Perm ns->ns'.Pairwise (· <= ·)->Q (.l (ns'.map .i))
 |_=>False
def Fd:kN K BA QF:=λdl H vs ts F Q R D r hq k=>by
 replace hq:=on1.inv hq
 let(t,U,hq):=hq;cases t with
 |fd o g ks =>
  let(ns,(h1,h2),hq):=hq;let(v,U,z):=r.one;let(a,U,U,h3,h4):=z.r.qK;exact(a,o,g,ns,U,h3,by rw[h4.ks];exact h1,h2,λl ns' p1 p2 hl=>(k _ (.l (ns'.map .i)) [l] _ ((Evo.refl D).new hl) (.l az (iG ns'),λb q=>by rw[d2.mp q];exact D.nd0 hl) (λb q=>by rw[d2.mp q];exact hl) ad (hq ns' p1 p2)))
 |_=>exact False.elim hq
inductive Ia(x:V)(y:V)(H:Hp)(Q:VK):Prop
 |mk(a:J)(z:V)(n:Int)(h1:x=.ref a)(h2:y=.int n)(h3:H a=Z (.lst [z]))(h4:0<=n)(h5:n<=16000000)(h6:∀p,H p=Y->Q (.ref p) (upd H p (.lst (tr n.toNat z))))
def Ky:∀n:Nat,(List.foldl (λq g=>q++g) #[] (tr n #[x]))=(tr n x).toArray:=by
 have go:∀n acc,List.foldl (λq g=>q++g) acc (tr n #[x])=acc++(tr n x).toArray:=by
  intro n
  induction n with
  |zero=>simp
  |succ n z =>
   intro acc;rw[XT,XQ,z]
   apply Array.ext'
   simp[XT]
 intro n;rw[go];simp
def NA:OpR X (binaryOp .Mult) Ia:=by
 intro gd s σ H x y v u Q I P K h;let(a,z,n,U,U,ha,h0,ar,q):=h;cases P;let(t,U):=K;let(hz,its,m,rv,e):=(I.hok a _ ha);obtain⟨w,rfl,g⟩:∃w,its=[w]/\RelV z w:=by
  cases rv with
  |cons h1 h2=>cases h2;exact(_,U,h1)
 have ak:=Xp;refine wpAny_binaryOp_repeat_ref ac (_,e,U) (λs'=>typeIs_int s' n t) noFill_list_mul PySem.F.fills_int_mul PySem.F.slot_int_rmul repeat_list PySem.F.slot_int_index.lookup
  (call_meets PySem.F.slot_int_rmul (typeIs_int s n t) PySem.F.entry_int_rmul (PySem.F.args_int_rmul_2 _ _) (int___rmul___int_list n t a _ m)
   (e,U,(_,e,U),call_meets PySem.F.slot_list_mul (_,e,U) PySem.F.entry_list_mul (PySem.F.args_list_mul_2 _ _)
    (AutoListH.list___mul___list_int_3 a _ m n t (by simp[Builtin.List.listFitsIndex];lia) (by simp;lia) (by simp[Builtin.List.listTooLong];lia))
    (e,?_)))
 have e2:((if([w].toArray).isEmpty=O then 0 else n.toNat))=n.toNat:=by rw[if_neg ad]
 rw[Ky];refine(.ref s.heap.objs.size,_,I.laid (o:=.lst (tr n.toNat z)) (λb ob q=>fC _ q) (ka _) (by rw[XA];lia,tr n.toNat w,0,?_,ke _ U),U,q _ (I.hok.fresh (ka _)))
 generalize n.toNat=j
 induction j with
 |zero=>exact .nil
 |succ j V=>exact .cons g V
def IG:Q2:=λt u Q=>match t,u with
 |.l [x],.i n=>x.im=O/\0<=n/\n<=16000000/\Q (.l (tr n.toNat x))
 |_,_=>False
def Hx:dO K Ia IG:=by
 intro dl H x y t u F G Q R D r1 r2 hq k;unfold IG at hq
 split at hq
 ·rename_i x n;let(hi,h0,V,hq):=hq;let(a,vs,G0,U,U,h1,s1):=r1.r.lst;let(U,U):=r2.r.int;obtain⟨z,rfl,rz⟩:∃z,vs=[z]/\aK K dl H z x []:=by
   cases s1 with
   |cons g1 g2=>cases g2;rw[g1.im hi]at g1;exact(_,U,g1)
  refine(a,z,n,U,U,h1,h0,V,λp hp=>?_)
  have ev:=(Evo.refl D).new (o:=.lst (tr n.toNat z)) hp;have g:=rz.dA (ev.tf D) (λ_ q=>q) λ_ q=>nomatch q
  have rr:∀j,aB K dl (upd H p (.lst (tr n.toNat z))) (tr j z) (tr j x) []:=by
   intro j
   induction j with
   |zero=>exact .nil
   |succ j ih=>exact .cons g ih
  exact k _ (.l (tr n.toNat x)) [p] _ ev (.l az (rr _),λb P=>by rw[d2.mp P];exact D.nd0 hp) (λb P=>by rw[d2.mp P];exact hp) ad hq
 ·exact hq.elim
def Dh(ha:QPE X K a ta qa)(g:QPE X K b tb qb):QPF X K (.BinOp a .Mult b pos) (tOp Ia ta tb) (qOp IG qa qb):=lF NA Hx ha g
end
variable{p3:Str}{p4:Str}{fd:Ch}
section
variable{K:BT}{x q:Str}{st:EQ}{f:J}
def VY{P:List B->Prop}(h:∀a b c d e g,P [a,b,c,d,e,g])(us:List B)(e:us.length=6):P us:=by
 cases us with
 |nil=>cases e
 |cons a r=>exact Ux (P:=λr=>P (a::r)) (h a) r (Nat.succ.inj e)
theorem Fun.b6(F:Fun K x q st f fd)(hb:∀kV dc pm an cd ct u1 u2 V Q z g,bindArgs (W.fnOf x q (dz st) (cq st) (ax st) .none kV dc pm an cd ct) ([u1,u2,V,Q,z,g],[])=pure [(p1,u1),(p2,u2),(p3,V),(p4,Q),(p5,z),(p6,g)]:=by intros;rfl):Binds K fd [p1,p2,p3,p4,p5,p6] []:=F.binds λkV dc pm an cd ct us hl=>VY (P:=λus=>bindArgs _ (us,[])=pure (Yu _ us)) (hb kV dc pm an cd ct) us hl
end
variable{gd:List (J×Obj)}{A:Db}{a:J}
section
variable{X:Cx}{H:Hp}
def UH:eqV (kV k) (kV k')=decide (k=k'):=by
 cases k with
 |inl a=>cases k' with
  |inl b=>exact(decide_eq_decide.mpr (λh=>congrArg _ h,λh=>Sum.inl.inj h))▸(by exact Wa.mpr ((beq_iff_eq).trans (decide_eq_true_iff).symm))
  |inr b=>exact(decide_eq_false λz=>nomatch z).symm
 |inr a=>cases k' with
  |inl b=>exact(decide_eq_false λz=>nomatch z).symm
  |inr b=>exact(decide_eq_decide.mpr (λh=>congrArg _ h,λh=>Sum.inr.inj h))▸(by exact Wa.mpr ((beq_iff_eq).trans (decide_eq_true_iff).symm))
def DR:gh (kV k)=true:=by cases k <;> rfl
def Ou{f g:List Key}{K z:Nat}(hn:K=f.length)(hm:z=g.length)(he:∀(j:Nat)(x y:Key),f[j]?=Z x->g[j]?=Z y->e j=decide (x=y)):((AK (min K z)).all e&&K==z)=decide (f=g):=by
 subst hn hm;rw[Wa,uB,RY,beq_iff_eq,decide_eq_true_iff]
 constructor
 ·rintro⟨h1,h2⟩
  exact Xg h2 λi g1 g2=>of_decide_eq_true ((he i _ _ (dN g1) (dN g2)).symm.trans (h1 i (SR.mpr al)))
 ·rintro rfl
  refine(λj q=>?_,U)
  have q:j<f.length:=by have:=SR.mp q;lia
  exact(he j _ _ (dN q) (dN q)).trans (decide_eq_true U)
def KA{σ:St}{b:J}{f g:List Key}(I:Inv X gd σ H s)(ha:H a=Z (.tup (f.map kV)))(Q:H b=Z (.tup (g.map kV)))(hu:A.units+1<cLine):SeqAt.EqAt A s (.ref a) (.ref b) (decide (f=g)):=by
 by_cases q:a=b
 ·subst q;rw[ha]at Q;injection Option.some.inj Q with e;obtain rfl:=ya e;rw[decide_eq_true rfl];exact SeqAt.EqAt.same _
 ·let(its,q1,p1,_):=I.tuple (SqT.of ha);let(eT,V,p2,_):=I.tuple (SqT.of Q);have l1:=q1.length;have l2:=V.length
  have:=SeqAt.EqAt.of_refs q (SeqAt.RcAt.tuples (A:=A) (e:=λj=>match f[j]?,g[j]? with|some x,Z y=>decide (x=y)|_,_=>O) p1 p2 al λj g1 g2=>?_)
  ·rwa [Ou (l1.symm:) (l2.symm:) λj x y hx P=>by rw[hx,P]]at this
  ·let(v1,e1,K):=q1.at' g1;let(v2,e2,z):=V.at' g2;rw[fy]at e1 e2;let(x,hx,U):=gs.mp e1;let(y,P,U):=gs.mp e2
   have:=yu (A:=A.in1) (s:=s) K z DR DR
   rw[UH]at this;simp only[hx,P];exact this
end
variable{dl:Dl}{H:Hp}{es:List Ev}
section
variable{X:Cx}{K:BT}{o e:Ev}{apos aQ pos:Pos}{tl te:TE}{ql qe:QE}
inductive Dd(K:BT)(x:V)(vs:List V)(H:Hp)(Q:VK):Prop
 |mk (l p:J) (ps:List J) (fs:List (List Key)) (f:List Key) (j:Nat) (h1:x=.ref l) (h2:vs=[.ref p]) (h3:SqL K H l (ps.map V.ref)) (h4:ps.length=fs.length) (h5:∀(i:Nat)(a:J)(g:List Key),ps[i]?=Z a->fs[i]?=Z g->H a=Z (.tup (g.map kV))) (h6:H p=Z (.tup (f.map kV))) (h7:fs.findIdx? (λg=>decide (g=f))=Z j) (h8:Q (.int (j:Nat)) H)
def F6(hu:X.A.units+150<cLine):MtR X "list.index" (Dd X.K):=by
 intro gd s σ H x vs v us Q I rx rv h;let(l,p,ps,fs,f,j,U,U,hl,aV,av,hp,hj,q):=h;cases rx;let(u,U,ru):=rv.one;cases ru;let(its,r,pl,hz):=I.list hl;let((c,dd,dat,sl),ho,hc,n,hd):=pl.isList;subst hc hd;have hlen:=r.length;rw[cO]at hlen hz;have hn:=iQ;let(aQ,hit,ay):=Xw.mp hj;have at_:∀(m:Nat)(hm:m<its.length),∃a g,its[m]=.ref a/\ps[m]?=Z a/\fs[m]?=Z g/\H a=Z (.tup (g.map kV)):=λm hm=>by
  have P:ps[m]?=Z (ps[m]' al):=dN _
  let(w,hw,ar):=r.get (i:=m) (x:=.ref (ps[m]' al)) (by rw[fy,P];rfl)
  cases ar;have ak:fs[m]?=Z (fs[m]' al):=dN _
  exact(_,_,Option.some.inj ((dN hm).symm.trans hw),P,ak,av m _ _ P ak)
 obtain⟨G,aR⟩:∃G:B->Bool,∀v,G v=O ↔ ∃a,v=.ref a/\H a=Z (.tup (f.map kV)):=(λv=>@decide _ (Classical.propDecidable (∃a,v=.ref a/\H a=Z (.tup (f.map kV)))),λv=>@decide_eq_true_iff _ (Classical.propDecidable _))
 have hG:∀{a:J}{g:List Key},H a=Z (.tup (g.map kV))->G (.ref a)=decide (g=f):=λ{a g} ha=>by
  rw[Wa,decide_eq_true_iff,aR]
  constructor
  ·rintro⟨b,e,hb⟩
   cases e;rw[ha]at hb;injection Option.some.inj hb with e;exact ya e
  ·rintro rfl
   exact(_,U,ha)
 refine call_meets PySem.F.slot_list_index (_,ho,U) PySem.F.entry_list_index (PySem.F.args_list_index_2 _ _) (SeqAt.list_indexAt l its.toArray n dd sl (.ref p) G j (by rw[nP];lia) al ?_ (λm hm aP=>?_)) (ho,λz hz=>?_,?_)
 ·let(a,g,e1,_,e3,V):=at_ j al
  rw[Yv,e1,hG V];rw[dN aQ]at e3;cases e3;exact hit
 ·let(a,g,e1,_,e3,V):=at_ m al
  rw[Yv,e1,hG V];rw[dN al]at e3
  cases e3
  have:=ay m aP
  simpa using this
 ·let(m,hm,e):=qp (show z∈its by simpa using hz)
  let(a,g,e1,_,_,V):=at_ m hm;rw[<- e,e1,hG V];exact KA I V hp (by show X.A.units+1+1<_;lia)
 ·exact(.int _,H,I.tok _,(_,U),q)
def Bh(f:List Key):T:=.t (f.map kT)
def aK.UE{v:V}(h:aK K dl H v (Bh f) F):∃a,v=.ref a/\H a=Z (.tup (f.map kV)):=by
 let(a,vs,U,h1,h2):=h.tup
 have:∀{f:List Key}{vs:List V}{F:List J},aB K dl H vs (f.map kT) F->vs=f.map kV:=by
  intro f
  induction f with
  |nil=>intro vs F h;cases h;rfl
  |cons k r g =>
   intro vs F h;cases h with
   |cons h1 h2 =>
    rw[g h2];cases k with
    |inl i=>rw[h1.int.1];rfl
    |inr x=>rw[h1.str.1];rfl
 rw[this h2]at h1;exact(a,U,h1)
theorem aB.z7:∀{fs:List (List Key)}{vs:List V}{F:List J},aB K dl H vs (fs.map Bh) F->∃ps:List J,vs=ps.map V.ref/\ps.length=fs.length/\∀(i:Nat)(a:J)(g:List Key),ps[i]?=Z a->fs[i]?=Z g->H a=Z (.tup (g.map kV))
 |[],_,_,h=>by cases h;exact([],U,U,λi a g h=>by simp at h)
 |f::r,_,_,h=>by
  cases h with
  |cons h1 h2 =>
   let(a,U,ha):=h1.UE;let(ps,U,hl,hp):=aB.z7 h2;refine(a::ps,U,by simp[hl],λi b g z q=>?_)
   cases i with
   |zero=>cases z;cases q;exact ha
   |succ i=>exact hp i b g (z:) (q:)
inductive WH(xs:List T)(u:T)(Q:T->Prop):Prop
 |mk (fs:List (List Key)) (f:List Key) (j:Nat) (h1:xs=fs.map Bh) (h2:u=Bh f) (h3:fs.findIdx? (λg=>decide (g=f))=Z j) (h4:Q (.i (j:Nat)))
def Pl(ql qe:QE):QE:=λq Q=>ql q λt=>match t with
 |.l xs=>qe q λu=>WH xs u Q
 |_=>False
def oQ(hu:X.A.units+150<cLine)(ho:QPE X K o tl ql)(he:QPE X K e te qe)(hK:‹X.K=K›)(cg:‹attributeBase o "index" X.env (eval o X.env)=eval o X.env›)
  (jT:‹At X aQ [e]›)
  (cf:‹(apos.endLine==aQ.line)=true›) (hs:‹AC X e []›) (c8:‹(backTo aQ (kg [] X.env)).any (·.1)=false›):
  QPF X K (.Call (.Attribute o "index" apos) [e] [] aQ) (tBM K "list" (Dd K) tl (di te ix)) (Pl ql qe):=
 (by subst hK;exact vV PySem.F.plainAttrs_list PySem.F.slot_list_index PySem.F.type_list_index (F6 hu) ho.h (bX he.h dC hs) cg jT cf hs c8,λdl H σ q Q R rd hq k=>ho.s dl H σ q _ _ rd hq λv t F H1 e1 r1 hq=>by
  split at hq
  ·let(p,vs,G,U,eF,h1,h2):=r1.r.lst;refine(.inl (U,vs,SqL.of h1),he.s dl H1 σ q _ _ (rd.evo e1) hq λy u F2 H2 e2 r2 hz=>?_)
   let(fs,f,j,U,U,hj,g):=hz;have rp:=r1.evo e1.d e2;let(p',ar,G',e',av,ak,V):=rp.r.lst;cases e';let(ps,U,hl,P):=V.z7;let(b,U,hb):=r2.r.UE;exact(p,b,ps,fs,f,j,U,U,SqL.of ak,hl,P,hb,hj,(k _ _ [] H2 (e1.trans e2) (.c (.i _)) bY kc g))
  ·exact hq.elim)
def QPE.qn(h:QPE X K e te qe):QPF X K e te (qQ qe):=(h.h,λdl H σ q Q R rd hq k=>h.s dl H σ q _ R rd hq λv t F H' P r g=>by
 split at g
 ·cases r.r with
  |l h1 h2=>exact k _ .q [] H' P (.q h1,bY) bY kc g
 ·exact g.elim)
def MO{tl:TA}{ql:QA}(h:QPA X K es tl ql)(V:autoParam (es.length<=1000) zdc._auto_1):QPE X K (.List es pos) (Qa tl) (IH ql):=(Jq h.h,λdl H σ q Q R rd hq k=>h.s dl H σ q _ _ rd hq λvs ts F H1 g P l1 z =>
 (by rw[l1];exact qR V ac,λp hp=>k _ _ (p::F) _ (g.new hp) (P.lst g.d hp) z))
def fi(n:Nat):List Int:=(AK n).map λ(i:Nat)=>(i:Int)
def y3(te:TE):TE:=λσ H Q=>te σ H λx H1=>∃n:Nat,x=.int n/\n<=10000/\∀q,H1 q=Y->Q (.ref q) (upd H1 q (.lst ((fi n).map V.int)))
def A5:∀{n:Nat}{acc:Array B},ItemsOf (λi v=>∃t,v=.int (0+(i:Nat)*1) t) acc n->Vals ((fi n).map V.int) acc.toList:=λ{n acc} h=>by
 have hl:=(h.1:)
 have:∀k m L,L.length=k->m+k=n->(∀i v,L[i]?=Z v->∃t,v=B.int ((m+i:Nat)) t)->Vals (((List.range' m k).map λ(i:Nat)=>(i:Int)).map V.int) L:=by
  intro k
  induction k with
  |zero=>intro m L h _ _;obtain rfl:=uC.mp h;exact .nil
  |succ k q =>
   intro m L h hm hv;cases L with
   |nil=>cases h
   |cons v L =>
    let(t,U):=hv 0 v U;refine .cons (t,U) (q (m+1) L (Nat.succ.inj h) al λi v g=>?_)
    let(t,e):=hv (i+1) v (g:)
    exact(t,al)
 have e:fi n=(List.range' 0 n).map λ(i:Nat)=>(i:Int):=by unfold fi;rw[List.range_eq_range']
 rw[e];refine this n 0 acc.toList hl al λi v hv=>?_
 let(t,e):=h.2 i v (hv:)
 exact(t,al)
theorem BR{p1 p2 bM pos:Pos}(hc:X.calm=O)(aP:Gl X "list")(av:X.mg "list"=Y)(ay:Gl X "range")(ar:X.mg "range"=Y)(he:PE X e te)
  (P:‹AD X e›) (ak:‹kg [.Call (.Name "range" p2) [e] [] bM] X.env=[(ϊ,eval (.Call (.Name "range" p2) [e] [] bM) X.env)]›):
  PE X (.Call (.Name "list" p1) [.Call (.Name "range" p2) [e] [] bM] [] pos) (y3 te):=by
 left;refine GN (dE I aP av boot_list (PyProof.Rows.callWith_type1 ?_ ak U));refine Calls.spliced_cons (GN (dE I ay ar boot_range (PyProof.Rows.callWith_type1 ?_ P U)));rw[P];refine Calls.spliced_cons (thn (he gd s σ H _ I h) λu s1 aR=>?_)
 let(x,H1,I1,r1,n,ex,hn,q):=aR;subst ex;let(t0,U):=r1;refine Calls.spliced_nil ?_;have hh:=I1.ok.hd hc;refine call_range_1 (Calls.spliced_nil (callType_codes (Q₁:=λobj K=>obj=.ref _/\K={s1 with heap:=(s1.heap.push _).push (~~~#[]),toks:=_}) F.called_list (F.typeCall_list_1 _) F.entry_list_init (code_list_new _ (U,U)) λobj K h₁=>?_))
 let(U,U):=h₁;refine((_,ke _ U,U),F.args_list_init_2 _ _,?_);have e0:∀(g:Do) o,(g.push o).objs.size=g.objs.size+1:=λg o=>wh ..
 refine wpAny_list_init_range (t:=s1.toks) (u:=t0) (v:=s1.toks+1) (A:=X.A.in1) (a:=0) (b:=(n)) (n:=n) hh ?_ (small_one ac ac al al) ?_ al _ ?_ λh' tk nN c' kp aQ gf=>?_
 ·exact fC _ (ke _ U)
 ·rw[rangeSize_one];split <;> lia
 ·exact ke _ U
 ·refine(U,.ref _,_,I1.laid (o:=.lst ((fi n).map V.int)) (λb o e=>kp b o (λz=>?_) (fC _ (fC _ e))) (by rw[e0];lia) (?_,nN.toList,c',A5 gf,(aQ:)),U,q _ (I1.hok.fresh (by rw[e0];lia)))
  ·have hb:=j5 e;rw[z,e0]at hb
   lia
  ·rw[cO];unfold fi;rw[cO,X8];exact qR hn ac
def II(qe:QE):QE:=λq Q=>qe q λt=>match t with
 |.i x=>Ex3 (λn:Nat=>x=n/\n<=10000) (λn=>.l ((fi n).map .i)) Q
 |_=>False
def BH{p1 p2 bM pos:Pos}(ay:Gl X "list")(ar:X.mg "list"=Y)(av:Gl X "range")(ak:X.mg "range"=Y)(he:QPE X K e te qe)(hc:‹X.calm=true›)
  (V:‹AD X e›) (P:‹kg [.Call (.Name "range" p2) [e] [] bM] X.env=[(ϊ,eval (.Call (.Name "range" p2) [e] [] bM) X.env)]›):
  QPF X K (.Call (.Name "list" p1) [.Call (.Name "range" p2) [e] [] bM] [] pos) (y3 te) (II qe):=(BR hc ay ar av ak he.h V P,λdl H σ q Q R rd hq k=>he.s dl H σ q _ _ rd hq λv t F H1 e1 r1 g=>by
 split at g
 ·let(n,(U,hn),hq):=g;let(U,U):=r1.r.int;refine(n,U,hn,λp hp=>?_)
  have:=Rps.lst (K:=K) (iG (fi n),bY) e1.d hp
  exact k _ _ [p] _ (e1.new hp) this (λb hb=>by rw[d2.mp hb];exact e1.free hp) ad hq
 ·exact g.elim)
end
variable{R:Result->ϋ->Prop}{S:J}{z:J}{i1:J}{i2:J}{l1:J}{l2:J}{xs:Array B}{ys:Array B}{n:Nat}
section
variable{prog:Da}{w:Cl}{s:ϋ}{κ:Type}[DecidableEq κ]{knd:KeyKind prog w κ}
theorem GQ{TI TO:J}{t1 t2:Bool}{pairs:List (List κ×J×B)}{h₁:Do}(hu:A.units+3<cLine)(hh:A.handled=Y)(D:ZipApart z TI TO i1 i2 l1 l2)(Q:z≠S)(yh:TI≠S)(pF:TO≠S)(ar:i1≠S)(ak:i2≠S)(ye:l1≠S)(yd:l2≠S)
  (en:n=min xs.size ys.size) (hn:n<=kf) (a5:pairs.length=n) (a3:∀(i:Nat) x y,xs[i]?=Z x->ys[i]?=Z y->∃k b,x=.ref b/\pairs[i]?=Z (k,b,y))
  (av:∀q∈pairs,(tupleKind knd).is h₁ q.1 q.2.1/\q.2.1≠S/\q.2.1≠z/\q.2.1≠TO/\q.2.1≠i1/\q.2.1≠i2) (res:B)
  (hR:∀h' tk,(∀b o,b≠S->b≠z->b≠TO->b≠i1->b≠i2->h₁.get? b=Z o->h'.get? b=Z o)->h'.DictOfH (tupleKind knd) S (bO [] pairs)->R (.ok (.ret res)) {s with heap:=h',toks:=tk}):
  ∀(k i:Nat)(h:Do)(tk:Nat),n-i=k->i<=n->ZSt h z TI TO i1 i2 l1 l2 S t1 t2 i->a8 h t1 l1 xs->a8 h t2 l2 ys->(∀b o,b≠S->b≠z->b≠TO->b≠i1->b≠i2->h₁.get? b=Z o->h.get? b=Z o) ->
   h.DictOfH (tupleKind knd) S (bO [] (pairs.take i))->codeAny (model prog w) A (.builtin "dict.update.loop" ([.ref S,.ref z,rawInt i,res],[])) R {s with heap:=h,toks:=tk}:=by
 have sub:∀{i:Nat}{q:List κ×J×B},q∈bO [] (pairs.take i)->q.2.1≠S/\q.2.1≠z/\q.2.1≠TO/\q.2.1≠i1/\q.2.1≠i2:=λ{i q} h=>by
  obtain⟨y,hy,_⟩|⟨y,hy,e⟩:=pS h
  ·cases hy
  ·rw[<- e];exact(av y (Fs hy)).2
 intro k
 induction k with
 |zero =>
  intro i h tk hk hi V P K pW hS;have bp:i=n:=al
  refine QG PySem.F.bu ?_;refine dF (CM hh D V P K ?_ λh' he=>?_)
  ·by_cases q:xs.size<=i
   ·exact .inl (W3 q)
   ·exact .inr (W3 al)
  refine dF (kb (kb (hR h' tk (λb o b1 b2 b3 b4 b5 e=>he b o b2 b3 b4 b5 (pW b o b1 b2 b3 b4 b5 e)) ?_)))
  have hS:=hS.at (λo=>he S o Q.symm pF.symm ar.symm ak.symm) λq hq o=>have(_,q2,q3,q4,q5):=sub hq;he _ o q2 q3 q4 q5
  rw[bp,<- a5,mu]at hS;exact hS
 |succ k ih =>
  intro i h tk hk hi V P K pW hS;have aP:=Xl hk;have hm:=Y5.mp (en▸aP);have hx:=WL hm.1;have hy:=WL hm.2;let(key,b,aR,ay):=a3 i _ _ hx hy;have Wn:S<h.objs.size:=by let(_,_,_,e,_):=hS;exact j5 e
  refine QG PySem.F.bu ?_;refine dF (CL D V Wn P K hx hy λh' Ci ht hz g=>?_)
  have bM:h'.DictOfH (tupleKind knd) S (bO [] (pairs.take i)):=hS.at (λo=>g S o Q.symm pF.symm ar.symm ak.symm) λq hq o=>have(_,q2,q3,q4,q5):=sub hq;g _ o q2 q3 q4 q5
  have hq:=av _ (gV ay);let(a0,q1,q2,q3,q4,q5):=hq;have t6:(tupleKind knd).is h' key b:=gW a0 λo e=>g b o q2 q3 q4 q5 (pW b o q1 q2 q3 q4 q5 e)
  rw[aR]at ht;refine dF (CF (dF (wpAny_tryCatch ?_)));refine dF (Lo (_,ht,U) ?_);refine dF (wpAny_seqItems ht U (kb ?_));have bj:(bO [] (pairs.take i)).length<=kf:=by
   have h1:=jL (pairs.take i) [];rw[p7,WJ]at h1
   lia
  refine CF (wpAny_dictSet_heap (hsz:=bj) ?_ t6 bM λaQ vw aV=>?_)
  ·rw[XM F.aN _];exact tupleKind_room_in1 al
  have e:bO [] (pairs.take (i+1))=storedH (bO [] (pairs.take i)) key b ys[i]:=by
   rw[pM,ay];exact mV _ _ _
  rw[<- e]at vw;have fr:∀b o,b≠S->h'.get? b=Z o->aQ.get? b=Z o:=λb o hb eb=>(aV.2 b hb).trans eb
  refine kb (O3 PySem.F.aN _,ih (i+1) aQ _ (by rw[Yl,hk];rfl) aP (Ci.keep fr Q yh pF ar ak) ?_ ?_ (λb o b1 b2 b3 b4 b5 eb=>fr b o b1 (g b o b2 b3 b4 b5 (pW b o b1 b2 b3 b4 b5 eb))) vw)
  ·exact P.at λo e=>fr _ o ye (g _ o D.l1z D.l1TO D.l1i1 D.l1i2 e)
  ·exact K.at λo e=>fr _ o yd (g _ o D.l2z D.l2TO D.l2i1 D.l2i2 e)
end
theorem J7:∀{ps:List J}{ks:List (List Key)}{ys:List V}{us:List B},ps.length=ks.length->(∀(i:Nat)(a:J)(g:List Key),ps[i]?=Z a->ks[i]?=Z g->H a=Z (.tup (g.map kV)))->Vals ys us->KT H (ks.zip ys) (ks.zip (ps.zip us))
 |[],[],_,_,_,_,_=>.nil
 |[],_::_,_,_,h,_,_=>by cases h
 |_::_,[],_,_,_,_,_=>.nil
 |p::ps,k::ks,_,_,_,_,.nil=>.nil
 |p::ps,k::ks,_,_,hl,hp,.cons h r=>.cons (U,hp 0 p k U U,h) (J7 (hl:) (λi a g z q=>hp (i+1) a g (z:) (q:)) r)
inductive VA(K:BT)(vs:List V)(H1:Hp)(R:VK):Prop
 |mk(l1 l2:J)(ps:List J)(ks:List (List Key))(ys:List V)(h1:vs=[.ref l1,.ref l2])(h2:SqB K ϊ H1 l1 (ps.map V.ref))(h3:SqB K O H1 l2 ys)(h4:ps.length=ks.length)(h5:∀(i:Nat)(a:J)(g:List Key),ps[i]?=Z a->ks[i]?=Z g->H1 a=Z (.tup (g.map kV)))(h6:∀d o,H1 d=Y->R (.ref d) (upd H1 d (.frz o (.dT (cC [] (ks.zip ys))))))
def vL(K:BT)(tl:TA):TE:=λσ H R=>tl σ H λvs H1=>VA K vs H1 R
section
variable{X:Cx}{a:Ev}{tl:TA}{pos p bM p2:Pos}
theorem zB(hu:X.A.units+150<cLine)(hg:Gl X "dict")(hm:X.mg "dict"=Y)(cu:Gl X "zip")(cm:X.mg "zip"=Y)(ha:PA X [a,b] tl)(hs:kg [a,b] X.env=[(ϊ,eval a X.env),(ϊ,eval b X.env)])(aR:AD X b)
  (aQ:kg [.Call (.Name "zip" p2) [a,b] [] bM] X.env=(ϊ,eval (.Call (.Name "zip" p2) [a,b] [] bM) X.env)::kg [] X.env) (hc:X.calm=O):
  PE X (.Call (.Name "dict" p) [.Call (.Name "zip" p2) [a,b] [] bM] [] pos) (vL X.K tl):=by
 intro gd s σ H R I h;refine Call_ (dE I hg hm bi (PyProof.Rows.callWith_type1 (T:="dict") ?_ aQ ap))
 rw[aQ];refine Calls.spliced_cons ?_;refine Call_ (dE I cu cm bi (PyProof.Rows.callWith_type1 (T:="zip") (thn (ha bM gd s σ H _ I h) λus s1 (vs,H1,V,r1,q1)=>?_) (by rw[hs,aR]) (by rw[aR];rfl)))
 let(l1,l2,ps,ks,ys,e,q2,q3,Wb,cg,q):=q1;subst e;let(u1,u2,U,cf,b0):=vals2 r1;cases cf;cases b0;let(RV,av,o1,z1):=V.Bp (tp:=ϊ) q2;let(eT,ar,o2,z2):=V.Bp (tp:=O) q3;let(c0,e1):=o1.obj;let(cT,e2):=o2.obj;have g1:l1<s1.heap.objs.size:=j5 e1;have g2:l2<s1.heap.objs.size:=j5 e2;have hh:X.A.handled=none:=V.ok.hd hc;refine nG o1 o2 λh1 Q bp bj a5 a3 hk=>?_
 refine Calls.spliced_nil ?_;have nz:s1.heap.objs.size+4<h1.objs.size:=j5 Q;have ay:=av.length;have cL:=ar.length;rw[cO]at ay z1;refine callType_codes (s:={s1 with heap:=h1}) (Q₁:=λobj P=>obj=.ref h1.objs.size/\P={s1 with heap:=h1.push {cls:=.type "dict",data:=.dict #[]}}) F.kt_called_dict (F.kt_typeCall_dict_1 _) F.entry_dict_init (kt_code_dict_new _ (U,U)) ?_
 rintro obj P ⟨rfl,rfl⟩
 have lN:(h1.push {cls:=.type "dict",data:=.dict #[]}).DictOfH (tupleKind (a6 X.prog X.w)) h1.objs.size []:=Heap.DictOfH.new h1;refine(lN.typeIs,F.args_dict_init_2 _ _,?_);unfold Builtin.«dict.__init__»;refine dF ?_;unfold Builtin.Dict.selfAndRest;refine dF (wpAny_notOrdered_dict lN.typeIs ?_);refine kb ?_;show wpAny _ _ (Builtin.Dict.updateFrom "dict.__init__" h1.objs.size (.ref (s1.heap.objs.size+4)) [] .none) _ _ _;unfold Builtin.Dict.updateFrom;have up:∀b o,h1.get? b=Z o->(h1.push {cls:=.type "dict",data:=.dict #[]}).get? b=Z o:=λb o e=>fC _ e
 refine dF (Lo (T:="zip") (_,up _ _ Q,U) ?_);rw[if_pos ac]
 refine dF (vp (up _ _ Q) hh λh2 ak k2=>?_)
 refine dF (VQ ?_);refine dF (wpAny_pyIter_zip (s:={s1 with heap:=h2,toks:=ak}) (k2 _ _ (up _ _ Q)) ?_)
 have g:=λb o e=>k2 b o (up b o e)
 let(cS,cK,_):=a5.obj;let(cP,cH,_):=a3.obj;have ne:∀{b:J}{o:Obj},h1.get? b=Z o->b≠h1.objs.size:=λe=>ri (j5 e)
 have kt:KT H1 (ks.zip ys) (ks.zip (ps.zip eT)):=J7 Wb cg ar;have old:∀(b:J)(o:Obj),s1.heap.get? b=Z o->b≠h1.objs.size/\b≠s1.heap.objs.size+4/\b≠s1.heap.objs.size+3/\b≠s1.heap.objs.size/\b≠s1.heap.objs.size+1:=λb o e=>by
  have lt:@LT.lt Nat _ b s1.heap.objs.size:=j5 e;have ne':∀m:Nat,s1.heap.objs.size<=m->b≠m:=λm hm z=>absurd (z▸lt:m<s1.heap.objs.size) al
  exact(ne (hk _ _ e),ne' _ al,ne' _ al,ne' _ (ka _),ne' _ al)
 refine kb (O3 F.aN _,GQ (A:=X.A.in1) (s:=s1) (knd:=a6 X.prog X.w) (h₁:=h2) (t1:=ϊ) (t2:=O) (xs:=RV.toArray) (ys:=eT.toArray) (pairs:=ks.zip (ps.zip eT)) (by show X.A.units+1+3<_;lia) hh (pN g1 g2) (ne Q) (ne bp) (ne bj) (ne cK) (ne cH) (ne (hk _ _ e1)) (ne (hk _ _ e2)) U ?_ ?_ (λi x y hx hy=>?_) (λq hq=>?_) .none (λh' bN ct hd=>?_) _ 0 h2 ak U (v5 _) (g _ _ bp,a5.at λo e=>g _ o e,a3.at λo e=>g _ o e,.inl (g _ _ Q,.none,.none,g _ _ bj)) (o1.at λo e=>g _ o (hk _ o e)) (o2.at λo e=>g _ o (hk _ o e)) (λ_ _ _ _ _ _ _ e=>e) ?_)
 ·rw[nP,nP];lia
 ·rw[P5,P5,nP,nP];lia
 ·rw[XE]at hx hy;have a0:i<ps.length:=by rw[ay];exact(g5.mp hx).1
  let(u,aP,ru):=av.get (i:=i) (x:=.ref ps[i]) (by rw[fy,dN a0];rfl)
  rw[hx]at aP;cases aP;cases ru;have Wk:i<ks.length:=al
  exact(ks[i],ps[i],U,GL.mpr (dN Wk,GL.mpr (dN a0,hy)))
 ·have hb:=kt.keys q hq;have aV:(tupleKind (a6 X.prog X.w)).is s1.heap q.1 q.2.1:=jP V.hok hb;let(oz,iz,mz,eo,_):=id aV;exact(gW aV λo e=>g _ o (hk _ o e),old _ _ eo)
 ·have fr:∀b u,s1.heap.get? b=Z u->h'.get? b=Z u:=λb u e=>by
   let(n1,n2,n3,n4,n5):=old b u e;exact ct b u n1 n2 n3 n4 n5 (g b u (hk b u e))
  have fresh:s1.heap.objs.size<=h1.objs.size:=al
  have hf:=V.hok.fresh fresh;have I2:=V.laid (t':=bN) (h':=h') (a:=h1.objs.size) (o:=.dT (cC [] (ks.zip ys))) fr fresh (by
   let(q',es,ep,hq,w2,w3,w4,_,w5):=hd;refine(?_,?_,_,KT.keeps (KT.merge kt .nil) λc ys ec=>by rw[au (λz=>by rw[z,hf]at ec;cases ec)];exact ec,q',es,ep,hq,w2,w3,w4,w5)
   ·have:=f6 (ks.zip ys) []
    rw[P5,WJ]at this
    lia
   ·have:=V.big
    exact beq_eq_false_iff_ne.mpr (C3 (ro this fresh)))
  let(o,I3):=I2.D5 az;rw[fE]at I3;exact(U,.ref h1.objs.size,_,I3,U,q _ o hf)
 ·exact lN.at (λo e=>k2 _ _ e) λz Q=>nomatch Q
end
section
variable{X:Cx}{K:BT}{a:Ev}{tl:TA}{ql:QA}{pos p bM p2:Pos}
inductive DZT(xs ys:List T)(Q:T->Prop):Prop
 |mk(ks:List (List Key))(ns:List Int)(h1:xs=ks.map Bh)(h2:ys=ns.map .i)(h3:Q (.fz (.dT (cC [] (ks.zip (ns.map .int))))))
def FD(ql:QA):QE:=λq Q=>ql q λts=>on2 ts λt u=>match t with
 |.l xs=>match u with
  |.t ys=>DZT xs ys Q
  |_=>False
 |_=>False
theorem aB.ints1:∀{ns:List Int}{vs:List V}{F:List J},aB K dl H vs (ns.map .i) F->vs=ns.map V.int
 |[],_,_,h=>by cases h;rfl
 |n::r,_,_,h=>by
  cases h with
  |cons h1 h2=>rw[h1.int.1,aB.ints1 h2];rfl
def zj(hu:X.A.units+150<cLine)(hg:Gl X "dict")(hm:X.mg "dict"=Y)(ar:Gl X "zip")(ak:X.mg "zip"=Y)(ha:QPA X K [a,b] tl ql)(hK:‹X.K=K›)(hs:‹kg [a,b] X.env=[(ϊ,eval a X.env),(ϊ,eval b X.env)]›)(V:‹AD X b›)
  (P:‹kg [.Call (.Name "zip" p2) [a,b] [] bM] X.env=(ϊ,eval (.Call (.Name "zip" p2) [a,b] [] bM) X.env)::kg [] X.env›) (hc:‹X.calm=true›):
  QPF X K (.Call (.Name "dict" p) [.Call (.Name "zip" p2) [a,b] [] bM] [] pos) (vL K tl) (FD ql):=(by subst hK;exact zB hu hg hm ar ak ha.h hs V P hc,λdl H σ q Q R rd hq k=>ha.s dl H σ q _ _ rd hq λvs ts F H1 e1 r1 l1 g=>by
 replace g:=on2.inv g
 let(t,u,U,g):=g
 split at g
 ·cases u with
  |t _ =>
   let(ks,ns,U,U,hq):=g;cases r1.r with
   |cons h1 r=>cases r with
    |cons h2 r2 =>
     cases r2;let(l,vs,G1,U,U,a1,a2):=h1.lst;let(l2,ws,U,b1,b2):=h2.tup;let(ps,U,hl,hp):=a2.z7;obtain rfl:=b2.ints1;exact(l,l2,ps,ks,_,U,SqL.of a1,SqT.of b1,hl,hp,λd o hd=>(k _ _ [] _ ((e1.new hd)) (.fz az,bY) bY kc hq))
  |_=>exact g.elim
 ·exact g.elim)
end
section
variable{X:Cx}{K:BT}{e:Ev}{te:TE}{qe:QE}
inductive Vq(v:V)(H1:Hp)(Q:VK):Prop
 |no(h1:v=.non)(h2:Q v H1)
 |li(a:J)(xs:List V)(h1:v=.ref a)(h2:H1 a=Z (.lst xs))(h3:∀o,Q v (upd H1 a (.frz o (.lst xs))))
def Hi(te:TE):TE:=λσ H Q=>te σ H λv H1=>Vq v H1 Q
def Jt(he:PE X e te):PE X e (Hi te):=by
 left;refine thn (he gd s σ H _ I h) λu s' g=>?_
 let(v,H',K,r,z):=g;cases z with
 |no h1 h2=>exact(v,H',K,r,h2)
 |li a xs e1 P q =>
  let(o,V):=K.D6 P;exact(v,_,V,r,q o)
def QR(qe:QE):QE:=λq Q=>qe q λt=>match t with
 |.l ts=>T.va ts=O/\Q (.zl ts)
 |.n=>Q .n
 |_=>False
def zi(he:QPF X K e te qe):QPF X K e (Hi te) (QR qe):=(Jt he.h,λdl H σ q Q R rd hq k=>he.s dl H σ q _ _ rd hq λv t F H1 V P f1 n1 g=>by
 cases t with
 |l ts =>
  let(p,vs,G,U,U,h1,h2):=P.r.lst;obtain rfl:=h2.Ng g.1;refine .li p vs U h1 λo=>?_
  have e2:=V.fresh (o:=.frz o (.lst vs)) (f1 p j2) (P.n p j2);have ne:∀{a:J}{u:HO},H1 a=Z u->(∀xs,u ≠ .lst xs)->a≠p:=λh n z=>by rw[z,h1]at h;exact n _ (Option.some.inj h).symm
  have ts:=h2.plain (H':=upd H1 p (.frz o (.lst vs))) (λa us h=>by rw[au (ne h nofun)];exact h) (λa o u h=>by rw[au (ne h nofun)];exact h) g.1
  exact k _ (.zl _) [] _ e2 (.zl az ts,bY) bY kc g.2
 |n =>
  let(U,U):=P.r.non;exact .no U (k _ .n [] _ V P bY kc g)
 |_=>exact g.elim)
def Vn(v:V)(H:Hp)(k:Bool):Prop:=∃(a:J)(o:Obj)(kvs:List (Key×V)),v=.ref a/\H a=Z (.frz o (.dK kvs))/\k = !kvs.isEmpty
def MY(ha:PE X e te)(he:∀whole,isTrue e X.env whole=(do let v <- whole;standAt e.pos;holding [v] (truthy v))):PT X e (λσ H Q=>te σ H λx H'=>∃k,Vn x H' k/\Q k H'):=by
 left;refine isTrue_plain (thn (ha gd s σ H _ I h) λv s1 (x,H1,g,K,k,(a,o,kvs,V,h1,P),q)=>?_) (he _)
 subst V P;cases K;let(z,hd,vs,r,m):=gJ g.hok (.inr (o,h1));have hlen:=Paired.length r;exact wpAny_truthy_dict hd m (by rw[<- hlen];exact we z) (H1,g.tok _,by rw[tS r];exact q)
def TU(qe:QE):QT:=λq Q=>qe q λt=>match t with
 |.fd _ _ xs=>Q (!xs.isEmpty)
 |_=>False
def MH(h:QPE X K e te qe)(he:∀whole,isTrue e X.env whole=(do let v <- whole;standAt e.pos;holding [v] (truthy v)):=by intro _;rfl):
  QPT X K e (λσ H Q=>te σ H λx H'=>∃k,Vn x H' k/\Q k H') (TU qe):=(MY h.h he,λdl H σ q Q R rd hq k=>h.s dl H σ q _ _ rd hq λv t F H' e r g=>by
 split at g
 ·let(p,U,U,h1,h2):=r.r.qK;have hl:=h2.len;exact(_,(_,_,_,U,h1,U),k _ H' e (by
   rename_i vs xs
   have:(!vs.isEmpty) = !xs.isEmpty:=by cases vs <;> cases xs <;> first|rfl|(simp at hl)
   rw[this];exact g))
 ·exact g.elim)
def Dm:QC:=λts Q=>on1 ts λt=>match t with
 |.zl xs=>T.ims xs=O/\Q (.t xs)
 |_=>False
def Bl:kN K (λxs H Q=>∃p ys,xs=[.ref p]/\((SqL K H p ys/\∀l,H l=Y->Q (.ref l) (upd H l (.tup ys)))\/(SqT K H p ys/\Q (.ref p) H))) Dm:=by
 intro dl H vs ts F Q R D r hq k
 replace hq:=on1.inv hq
 let(t,U,hq):=hq;cases t with
 |zl xs =>
  let(v,U,g):=r.one;let(p,o,vs,U,U,h1,h2):=g.r.zls;refine(p,vs,U,.inl (.inl (.inr (o,h1)),λl hl=>?_))
  have rs:Rps K dl H vs _ []:=(h2,λc q=>nomatch q)
  exact k _ _ _ _ ((Evo.refl D).new hl) (rs.tup D hl) bY kc hq.2
 |_=>exact hq.elim
end
end L2
namespace K31
open PySem L2
abbrev Zf:Str:="_law_deal_here"
abbrev Zg:Str:="piece"
abbrev Zh:Str:="_law_room"
abbrev Zi:Str:="_law_f"
abbrev Zj:Str:="_law_numbers"
abbrev Zk:Str:="_law_scope"
abbrev Zl:Str:="value"
abbrev Zm:Str:="_law_kind"
abbrev Zn:Str:="_law_parts"
abbrev Zo:Str:="_law_lines"
abbrev Zp:Str:="_law_world"
abbrev Zq:Str:="_law_kinds_here"
abbrev Zr:Str:="_law_many"
abbrev Zs:Str:="_law_turns"
abbrev Zt:Str:="_law_program_here"
abbrev Zu:Str:="_law_found"
abbrev Zv:Str:="_law_words_here"
abbrev Zw:Str:="_law_sizes_here"
abbrev Zx:Str:="_law_script"
abbrev Zy:Str:="_law_some"
abbrev Zz:Str:="_law_most"
abbrev ZA:Str:="_law_k"
abbrev ZB:Str:="_law_field"
abbrev ZC:Str:="_law_fields"
abbrev ZD:Str:="_law_maker"
abbrev ZE:Str:="_law_paper"
abbrev ZF:Str:="_law_cell"
abbrev ZH:Str:="_law_other"
abbrev ZI:Str:="_law_at"
abbrev ZJ:Str:="_law_own"
abbrev ZK:Str:="_law_body_here"
abbrev ZL:Str:="_law_marks"
abbrev ZM:Str:="_law_value_here"
abbrev ZN:Str:="_law_base"
abbrev ZO:Str:="_law_turn"
abbrev ZP:Str:="_law_makers"
abbrev ZQ:Str:="_law_heads"
abbrev ZR:Str:="_law_name"
abbrev ZS:Str:="_law_first"
def tgT:L2.T->Nat
 |.t [_,_]=>0
 |.t [_,.i _,_]=>1
 |.t [_,_,_]=>2
 |.t [_,_,_,_]=>3
 |.t [.s w,_,_,_,_]=>if w="make" then 4 else 5
 |_=>6
def top(i:Nat):EQ:=PySem.Challenge.pw_pursewright_k31_asked_and_told.main.body.getD i (.Pass (0,0,0,0))
abbrev iy:EQ:=inClass (top 8) 0
theorem xb:aG ["self",Zg,"above","arm"] ["self",Zg,"above","arm"] (ax iy):=by symm
abbrev gN:EQ:=inClass (top 15) 0
theorem uX:aG ["self","f","free","spent","kinds","holdings"] ["self","f","free","spent","kinds","holdings"] (ax gN):=by symm
abbrev jz:EQ:=top 1
theorem iB:aG ["kinds","kind","name","makers"] ["kinds","kind"] (ax jz):=by symm
abbrev sE:EQ:=top 2
theorem gZ:aG ["kinds","kind","reached","names","name","makers"] ["kinds","kind"] (ax sE):=by symm
abbrev fu:EQ:=top 3
theorem b9:aG ["kinds","kind","reached","waiting","here","maker","field"] ["kinds","kind"] (ax fu):=by symm
abbrev fw:EQ:=top 4
theorem eM:aG ["kinds","maker","name","makers"] ["kinds","maker"] (ax fw):=by symm
abbrev jy:EQ:=top 6
theorem iA:aG ["functions","name","number","function"] ["functions","name"] (ax jy):=by symm
abbrev xk:EQ:=top 9
theorem mj:aG ["body","told","waiting","spot"] ["body"] (ax xk):=by symm
abbrev ft:EQ:=top 10
theorem oF:aG [Zg,"number"] [Zg,"number"] (ax ft):=by symm
abbrev sJ:EQ:=top 11
theorem Fh:aG ["body"] ["body"] (ax sJ):=by symm
abbrev gP:EQ:=top 12
theorem cZ:aG ["program","f","told","found","spot","kinds"] ["program","f"] (ax gP):=by symm
abbrev lC:EQ:=top 13
theorem ju:aG ["program",Zg,"arm","kinds","word","fields"] ["program",Zg,"arm","kinds"] (ax lC):=by symm
abbrev sH:EQ:=top 16
theorem fQ:aG ["program","f","told","found","spot",Zg,"met"] ["program","f"] (ax sH):=by symm
abbrev eO:EQ:=top 17
theorem dS:aG ["program","f","params","holdings"] ["program","f"] (ax eO):=by symm
abbrev iE:EQ:=top 18
theorem dj:aG ["program","n",Zg,"stand","holdings","name","family","free"] ["program","n",Zg,"stand"] (ax iE):=by symm
abbrev fV:EQ:=top 19
theorem a9:aG ["program","n",Zg,"arm","stand","family","free","g","kinds","holdings","name","kind"] ["program","n",Zg,"arm","stand"] (ax fV):=by symm
abbrev Bq:EQ:=top 20
theorem wZ:aG ["program","f","n",Zg,"word","g"] ["program","f","n",Zg] (ax Bq):=by symm
abbrev iD:EQ:=top 21
theorem uW:aG ["program","f","n",Zg] ["program","f","n",Zg] (ax iD):=by symm
abbrev lB:EQ:=top 22
theorem y8:aG [Zg] [Zg] (ax lB):=by symm
abbrev lu:EQ:=top 25
theorem dI:aG ["program","told","f","function","k","param"] ["program"] (ax lu):=by symm
abbrev gO:EQ:=top 26
theorem sC:aG ["program","family","kind"] ["program","family","kind"] (ax gO):=by symm
abbrev eQ:EQ:=top 27
theorem bT:aG ["program","f","told","ahead","n",Zg,"family"] ["program","f"] (ax eQ):=by symm
abbrev Br:EQ:=top 28
theorem fG:aG ["program","places","told","f","function","body","n","stand","done"] ["program"] (ax Br):=by symm
abbrev lr:EQ:=top 29
theorem dH:aG ["program","n","places","stand","told","name","kind","maker","pairs"] ["program","n","places","stand"] (ax lr):=by symm
abbrev sG:EQ:=top 30
theorem kr:aG ["places","pairs","weights","unknown","times"] ["places","pairs"] (ax sG):=by symm
abbrev jA:EQ:=top 32
theorem fH:aG [Zl,"makers","waiting","thing"] [Zl] (ax jA):=by symm
abbrev sM:EQ:=top 33
theorem oH:aG [Zl,"often","maker"] [Zl] (ax sM):=by symm
abbrev Bx:EQ:=top 35
theorem Mu:aG ["program","paper","f","args"] ["program","paper","f","args"] (ax Bx):=by symm
abbrev xp:EQ:=top 36
theorem jv:aG ["program","prices","f","args","total","k","param"] ["program","prices","f","args"] (ax xp):=by symm
abbrev xj:EQ:=top 37
theorem sD:aG ["program","paper","f",Zl,"prices","weights"] ["program","paper","f",Zl] (ax xj):=by symm
abbrev jx:EQ:=top 38
theorem w6:aG ["program","paper"] ["program","paper"] (ax jx):=by symm
abbrev iC:EQ:=top 39
theorem eV:aG ["program","prices","kind","holding","weights","maker","total"] ["program","prices","kind","holding"] (ax iC):=by symm
abbrev jw:EQ:=top 40
theorem mh:aG ["weights",Zl,"often"] ["weights",Zl] (ax jw):=by symm
abbrev Bu:EQ:=top 42
theorem ml:aG [Zx,ZN,"_law_cells","_law_number",ZF] [Zx,ZN] (ax Bu):=by symm
abbrev Bt:EQ:=top 43
theorem qZ:aG [Zf,Zr,"_law_number","_law_one",ZH] [Zf,Zr] (ax Bt):=by symm
abbrev xg:EQ:=top 44
theorem cn:aG [Zf,Zr,"_law_letters","_law_core",ZI,ZO,Zu,ZA,ZJ,"_law_word","_law_near"] [Zf,Zr] (ax xg):=by symm
abbrev xn:EQ:=top 45
theorem cD:aG [Zf,Zv,"_law_form","_law_a","_law_b","_law_m",Zu,Zr,"_law_made",ZA,ZP,"_law_j","_law_wide",ZC] [Zf,Zv] (ax xn):=by symm
abbrev Bs:EQ:=top 46
theorem qY:aG [Zf,Zk,Zy,Zu,Zm,ZJ] [Zf,Zk,Zy] (ax Bs):=by symm
abbrev xo:EQ:=top 47
theorem dm:aG [Zf,Zp,Zk,Zm,Zi,Zq,ZQ,Zv,ZJ,"_law_x",ZD,ZC,"_law_names"] [Zf,Zp,Zk,Zm,Zi] (ax xo):=by symm
abbrev Bv:EQ:=top 48
theorem dt:aG [Zf,Zp,Zk,Zi,Zh,Zq,ZQ,Zv,"_law_x",Zm,ZP,"_law_arms",ZD,ZC,"_law_more","_law_names"] [Zf,Zp,Zk,Zi,Zh] (ax Bv):=by symm
abbrev Bw:EQ:=top 49
theorem cj:aG [Zf,Zp,Zk,Zi,Zh,Zq,ZQ,Zv,Zm,"_law_form","_law_x","_law_coins","_law_word","_law_y",ZH,"_law_g","_law_names",ZR,ZP,ZD,ZC] [Zf,Zp,Zk,Zi,Zh] (ax Bw):=by symm
abbrev oI:EQ:=top 50
theorem bU:aG [Zf,Zz,Zh,Zv,Zq,ZQ,ZJ,Zi,Zr,"_law_params","_law_functions","_law_head",ZK] [Zf,Zz,Zh] (ax oI):=by symm
abbrev xf:EQ:=top 51
theorem sA:aG [Zo,Zn,Zj,"_law_place","_law_line"] [Zo,Zn,Zj] (ax xf):=by symm
abbrev sL:EQ:=top 52
theorem cM:aG [Zf,Zo,Zn,Zj,Zs,ZO,"_law_place","_law_why","_law_weights","_law_low",Zy,ZI,"_law_lack"] [Zf,Zo,Zn,Zj,Zs] (ax sL):=by symm
abbrev fW:EQ:=top 53
theorem fq:aG [ZK,"_law_arms","_law_word"] [ZK] (ax fW):=by symm
abbrev sI:EQ:=top 54
theorem fR:aG [Zf,Zo,Zn,Zj,Zs,ZO,ZH,ZI] [Zf,Zo,Zn,Zj,Zs] (ax sI):=by symm
abbrev oJ:EQ:=top 55
theorem cc:aG [Zf,Zz,Zh,Zs,Zt,Zo,Zr,Zn,Zj,"_law_functions"] [Zf,Zz,Zh,Zs] (ax oJ):=by symm
abbrev xl:EQ:=top 56
theorem fg:aG [Zq,Zu,ZO,Zm,ZP,ZD,ZC,"_law_great"] [Zq] (ax xl):=by symm
abbrev xi:EQ:=top 57
theorem cp:aG [Zf,Zq,Zw,Zm,Zh,Zy,ZD,ZC,"_law_great","_law_left",Zn,ZA,ZB,ZJ] [Zf,Zq,Zw,Zm,Zh] (ax xi):=by symm
abbrev By:EQ:=top 58
theorem xa:aG [Zf,Zt,Zi,Zh,Zw,Zy] [Zf,Zt,Zi,Zh] (ax By):=by symm
abbrev sF:EQ:=top 59
theorem fP:aG [ZL,Zj,ZS,ZM,"_law_total","_law_left",ZD,Zn] [ZL,Zj,ZS,ZM] (ax sF):=by symm
abbrev xh:EQ:=top 60
theorem HJ:aG [Zu] [Zu] (ax xh):=by symm
abbrev xm:EQ:=top 61
theorem cI:aG [Zf,Zt,ZE,Zi,ZL,"_law_args_here","_law_due",ZA,ZM,Zu,Zw] [Zf,Zt,ZE,Zi] (ax xm):=by symm
abbrev pQ:EQ:=top 62
theorem oG:aG [Zx,Zf,Zt,Zo,ZE,Zy] [Zx] (ax pQ):=by symm
set_option genInjectivity false in
structure Adr where
 aV:J
 dJ:J
 jX:Ch
 aP:J
 dh:J
 iY:Ch
 gH:J
 p8:Ch
 m9:J
 An:Ch
 dw:J
 je:Ch
 dy:J
 jf:Ch
 gG:J
 pZ:Ch
 rL:J
 Ek:Ch
 dv:J
 jd:Ch
 nj:J
 As:Ch
 fc:J
 k7:Ch
 iX:J
 um:Ch
 nh:J
 Aq:Ch
 df:J
 ib:Ch
 fM:J
 nB:Ch
 d8:J
 jV:Ch
 yl:J
 KL:Ch
 fL:J
 nA:Ch
 iW:J
 uk:Ch
 iV:J
 uh:Ch
 fb:J
 kZ:Ch
 dg:J
 ic:Ch
 ym:J
 KN:Ch
 iU:J
 ug:Ch
 ng:J
 Ap:Ch
 gI:J
 p9:Ch
 nq:J
 Av:Ch
 yr:J
 KS:Ch
 rQ:J
 Ep:Ch
 rK:J
 Ej:Ch
 gF:J
 pY:Ch
 fK:J
 ny:Ch
 gE:J
 pX:Ch
 yp:J
 KQ:Ch
 yo:J
 KP:Ch
 rG:J
 Eg:Ch
 rO:J
 En:Ch
 yn:J
 KO:Ch
 rP:J
 Eo:Ch
 yq:J
 KR:Ch
 ub:J
 Cr:Ch
 kB:J
 wj:Ch
 rF:J
 Ef:Ch
 nk:J
 Au:Ch
 d9:J
 jW:Ch
 ni:J
 Ar:Ch
 kC:J
 wk:Ch
 rM:J
 El:Ch
 rJ:J
 Ei:Ch
 yt:J
 KU:Ch
 nc:J
 Ao:Ch
 rH:J
 Eh:Ch
 rN:J
 Em:Ch
 wg:J
 PH:Ch
 ie:J
structure Txt(K:BT)(mg:Str->Option B)(a:Adr):Prop where
 cu:Cls K a.aV
 xV:mg "Spot"=Z (.ref a.aV)
 xW:Mk K a.aV a.dJ
 dr:bZ K a.aV "piece"
 bN:bZ K a.aV "above"
 jK:bZ K a.aV "arm"
 gM:Fun K "__init__" "Spot.__init__" iy a.dJ a.jX
 NU:Meth K a.aV "__init__" a.dJ
 j4:Binds K a.jX ["self",Zg,"above","arm"] []
 bj:Cls K a.aP
 tu:mg "Stand"=Z (.ref a.aP)
 tw:Mk K a.aP a.dh
 dD:bZ K a.aP "f"
 e7:bZ K a.aP "free"
 d3:bZ K a.aP "spent"
 c6:bZ K a.aP "kinds"
 cS:bZ K a.aP "holdings"
 fN:Fun K "__init__" "Stand.__init__" gN a.dh a.iY
 LH:Meth K a.aP "__init__" a.dh
 iZ:Binds K a.iY ["self","f","free","spent","kinds","holdings"] []
 ko:Dn K mg "makers_of" jz a.gH a.p8 ["kinds","kind"]
 nW:Dn K mg "within" sE a.m9 a.An ["kinds","kind"]
 jl:Dn K mg "reached_kinds" fu a.dw a.je ["kinds","kind"]
 fD:Dn K mg "kind_of_maker" fw a.dy a.jf ["kinds","maker"]
 fk:Dn K mg "number_of" jy a.gG a.pZ ["functions","name"]
 rV:Dn K mg "spots" xk a.rL a.Ek ["body"]
 jk:Dn K mg "spots_beneath" ft a.dv a.jd [Zg,"number"]
 uQ:Dn K mg "pieces" sJ a.nj a.As ["body"]
 lg:Dn K mg "kinds_ahead" gP a.fc a.k7 ["program","f"]
 lZ:Dn K mg "bound_by" lC a.iX a.um ["program",Zg,"arm","kinds"]
 AY:Dn K mg "stands" sH a.nh a.Aq ["program","f"]
 ip:Dn K mg "stand_at_begin" eO a.df a.ib ["program","f"]
 i9:Dn K mg "stand_with" iE a.fM a.nB ["program","n",Zg,"stand"]
 km:Dn K mg "stand_behind" fV a.d8 a.jV ["program","n",Zg,"arm","stand"]
 LB:Dn K mg "uses" Bq a.yl a.KL ["program","f","n",Zg]
 nX:Dn K mg "taken_free" iD a.fL a.nA ["program","f","n",Zg]
 uP:Dn K mg "spent_by" lB a.iW a.uk [Zg]
 gp:Dn K mg "unknowns" lu a.iV a.uh ["program"]
 cP:Dn K mg "unknowns_of" gO a.fb a.kZ ["program","family","kind"]
 iu:Dn K mg "piece_unknowns" eQ a.dg a.ic ["program","f"]
 CH:Dn K mg "rows" Br a.ym a.KN ["program"]
 uM:Dn K mg "use_rows" lr a.iU a.ug ["program","n","places","stand"]
 uO:Dn K mg "summed" sG a.ng a.Ap ["places","pairs"]
 qy:Dn K mg "makers_in" jA a.gI a.p9 [Zl]
 A0:Dn K mg "counts" sM a.nq a.Av [Zl]
 CJ:Dn K mg "asks" Bx a.yr a.KS ["program","paper","f","args"]
 ET:Dn K mg "asked" xp a.rQ a.Ep ["program","prices","f","args"]
 EO:Dn K mg "tells" xj a.rK a.Ej ["program","paper","f",Zl]
 kn:Dn K mg "prices_of" jx a.gF a.pY ["program","paper"]
 i8:Dn K mg "weights_by" iC a.fK a.ny ["program","prices","kind","holding"]
 kl:Dn K mg "weight_of" jw a.gE a.pX ["weights",Zl]
 yP:Dn K mg "_law_deal" Bu a.yp a.KQ [Zx,ZN]
 a5:Dn K mg "_law_draw" Bt a.yo a.KP [Zf,Zr]
 EN:Dn K mg "_law_words" xg a.rG a.Eg [Zf,Zr]
 ES:Dn K mg "_law_kinds" xn a.rO a.En [Zf,Zv]
 uS:Dn K mg "_law_fill" Bs a.yn a.KO [Zf,Zk,Zy]
 yO:Dn K mg "_law_ended" xo a.rP a.Eo [Zf,Zp,Zk,Zm,Zi]
 LC:Dn K mg "_law_case" Bv a.yq a.KR [Zf,Zp,Zk,Zi,Zh]
 l5:Dn K mg "_law_body" Bw a.ub a.Cr [Zf,Zp,Zk,Zi,Zh]
 wJ:Dn K mg "_law_program" oI a.kB a.wj [Zf,Zz,Zh]
 EM:Dn K mg "_law_wrong" xf a.rF a.Ef [Zo,Zn,Zj]
 uR:Dn K mg "_law_mended" sL a.nk a.Au [Zf,Zo,Zn,Zj,Zs]
 eI:Dn K mg "_law_free_of_pays" fW a.d9 a.jW [ZK]
 AZ:Dn K mg "_law_raised" sI a.ni a.Ar [Zf,Zo,Zn,Zj,Zs]
 wK:Dn K mg "_law_papered" oJ a.kC a.wk [Zf,Zz,Zh,Zs]
 yN:Dn K mg "_law_sizes" xl a.rM a.El [Zq]
 rT:Dn K mg "_law_value" xi a.rJ a.Ei [Zf,Zq,Zw,Zm,Zh]
 LD:Dn K mg "_law_args" By a.yt a.KU [Zf,Zt,Zi,Zh]
 uL:Dn K mg "_law_weight" sF a.nc a.Ao [ZL,Zj,ZS,ZM]
 yM:Dn K mg "_law_whole" xh a.rH a.Eh [Zu]
 ER:Dn K mg "_law_right" xm a.rN a.Em [Zf,Zt,ZE,Zi]
 Vr:Dn K mg "law" pQ a.wg a.PH [Zx]
 cK:mg "len"=Y
 Ew:mg "all"=Y
 jZ:mg "list"=Y
 cH:mg "tuple"=Y
 AB:mg "int"=Y
 Sr:mg "bool"=Y
 eB:mg "dict"=Y
 lQ:mg "reversed"=Y
 wD:mg "max"=Y
 Vd:mg "min"=Y
 wC:mg "sum"=Y
 fe:mg "range"=Y
 nK:mg "isinstance"=Y
 PJ:mg "zip"=Y
 bp:mg "enumerate"=Y
 K8:mg "sorted"=Y
 K7:mg "PAYING"=Z (.ref a.ie)
 IB:∀H:Hp,SqT K H a.ie ([("make":Str),"call","pay","give"].map V.str)
def x4:Str:="abcdefghijklmnopqrstuvwxyz"
def z8:List Str:=["kind","def","to","let","make","call"]
def kW:List Str:=["name","case","end","pay","get","give"]
def kept:List Str:=z8++kW
def near:List Str:=["lets","callx","payer","ender","tom","nameb","makes","gets","giver","kinds","defs","cases"]
theorem DQ(h0:0<=i)(h1:i<26):atI (Str.cps x4).toList i=Z (tI i.toNat):=by
 obtain⟨n,rfl⟩:∃n:Nat,i=n:=(i.toNat,al)
 have h2:n<26:=al
 have h3:∀n:Fin 26,atI (Str.cps x4).toList (n.val)=Z (tI n.val):=be
 have:=h3 (n,h2)
 simpa using this
theorem JO:∀w∈near,1<=w.length/\w.length<=20:=be
def tM(m:Mk1):T:=.t [.s m.1,.t (m.2.map .s)]
def tMs(ms:List Mk1):T:=.t (ms.map tM)
def tK(k:Kd):T:=.t [.s k.1,tMs k.2]
def tKs(ks:List Kd):T:=.t (ks.map tK)
inductive Jg(ts:List L2.T)(Q:L2.T->Prop):Prop
 |mk(ks:List Kd)(k:Str)(h1:ts=[tKs ks,.s k])(h2:Q (tMs (cV ks k)))
theorem aU{f:α->T}(h:∀x,(f x).im=O):∀xs:List α,T.ims (xs.map f)=O
 |[]=>rfl
 |x::r=>by show((f x).im&&T.ims (r.map f))=O;rw[h x,aU h r];rfl
theorem DZ(m:Mk1):(tM m).im=true:=by show(O&&(T.ims (m.2.map T.s)&&O))=O;rw[aU (λ_=>rfl)];rfl
theorem lL(m:List Mk1):(tMs m).im=true:=aU DZ m
theorem wb(m:Kd):(tK m).im=true:=by show(O&&((tMs m.2).im&&O))=O;rw[lL];rfl
theorem iR(m:List Kd):(tKs m).im=true:=aU wb m
inductive M0(ts:List L2.T)(Q:L2.T->Prop):Prop
 |mk(m:Int)(h1:ts=[.cB,.i m])(h2:0<m)(h3:m<=52)(h4:∀ws:List Str,(ws.length:Int)=m->ws.Nodup->(∀w∈ws,1<=w.length/\w.length<=20)->Q (.l (ws.map .s)))
variable{ws:List Str}
theorem gb:inT (.s w) (ws.map T.s)=inV (.str w) (ws.map V.str):=by
 unfold inT inV;rw[W4,W4];rfl
theorem t9(ws:List Str):fls (ws.map T.s)=true:=by
 unfold fls;rw[YN,RY];exact λ_ _=>rfl
theorem aX(ws:List Str):T.ims (ws.map T.s)=true:=aU (λ_=>rfl) ws
theorem noq(h:z∈kW):w++("q":Str)≠z:=by
 intro e;have h1:(w++("q")).cps.toList.getLast?=Z 113:=by simp[Str.cps_append,show(Str.ofString "q").cps=#[113]from by decide +kernel]
 rw[e]at h1;have h2:∀z∈kW,z.cps.toList.getLast? ≠ Z 113:=be
 exact h2 z h h1
theorem Rx:inV (.str (w++("q":Str))) (kW.map V.str)=false:=by
 cases e:inV (.str (w++("q"))) (kW.map V.str)with
 |false=>rfl
 |true=>exact absurd U (noq (DV.mp e))
theorem lK:inV (.str w) (kept.map V.str)=(inV (.str w) (z8.map V.str)||inV (.str w) (kW.map V.str)):=by
 unfold kept inV;rw[j3,List.any_append]
theorem OE{i:Int}(h0:0<=i)(h1:i<ws.length):∃w,atI (ws.map T.s) i=Z (.s w)/\w∈ws:=by
 let(v,e,hm):=K9 (xs:=ws.map T.s) h0 (h1:)
 let(w,hw,U):=j0.mp hm;exact(w,e,hw)
structure ig(ks:List Kd):Prop where
 k1:1<=ks.length
 k2:ks.length<=3
 nd:(ks.map (·.1)).Nodup
 mn:(names ks).Nodup
 ne:∀k∈ks,k.2 ≠ []/\k.2.length<=6
 fl:∀k∈ks,∀m∈k.2,m.2.length<=4/\∀f∈m.2,f∈ks.map (·.1)
inductive M8(ts:List L2.T)(Q:L2.T->Prop):Prop
 |mk(ws:List Str)(h1:ts=[.cB,.l (ws.map .s)])(h2:ws.length=40)(h3:ws.Nodup)(h4:∀ks,ig ks->(∀m∈names ks,m∈ws)->Q (tKs ks))
variable{j:Nat}
theorem f9(h:ws[j]?=Z w):atI (ws.map T.s) (j:Int)=Z (.s w):=bc (by rw[fy,h];rfl)
theorem U8(h:ws.length=40):fj (ws.map T.s) (Z 4) Y++fj (ws.map T.s) Y (Z 4)=(ws.drop 4++ws.take 4).map T.s:=by
 unfold fj;have q:HT.sIx (ws.map T.s).length 0 (Z 4)=4:=by rw[cO,h];rfl
 have g:HT.sIx (ws.map T.s).length (ws.map T.s).length (Z 4)=4:=by rw[cO,h];rfl
 rw[q,g];show(List.drop 4 (ws.map T.s)).take ((ws.map T.s).length-4)++(List.drop 0 (ws.map T.s)).take (4-0)=_;rw[List.take_of_length_le (by rw[QX];lia),Yw,j3,Ya,XI]
theorem KZ(f:α->β)(xs:List α)(lo hi:Option Int):fj (xs.map f) lo hi=(fj xs lo hi).map f:=by
 unfold fj;rw[cO,<- Ya,<- XI]
theorem DW(ws:List Str)(lo hi:Option Int):T.ims (fj (ws.map T.s) lo hi)=true:=by rw[KZ];exact aX _
theorem Ul(x y:Int)(b:Bool):atI [T.i x,T.i y] (if b=O then 1 else 0)=Z (.i (if b=O then y else x)):=by cases b <;> rfl
theorem Pq(h0:0<=r)(h1:r<3):∃v,atI [T.i x,T.i y,T.i z] r=Z (.i v)/\(v=x\/v=y\/v=z):=by
 obtain⟨n,rfl⟩:∃n:Nat,r=n:=(r.toNat,al)
 match n,h1 with
 | 0,_=>exact(x,U,.inl U)
 | 1,_=>exact(y,U,.inr (.inl U))
 | 2,_=>exact(z,U,.inr (.inr U))
 |n+3,h=>lia
theorem leK(a b:Nat)(h:‹Nat.ble a b=true›):a<=b:=Nat.le_of_ble_eq_true h
theorem Cw{α:Type}{p:α->Prop}:∀x∈([]:List α),p x:=λ_ h=>absurd h x2
theorem all1{α:Type}{p:α->Prop}{a:α}(h:p a):∀x ∈ [a],p x:=λ_ hx=>d2.mp hx▸h
theorem all2{α:Type}{p:α->Prop}{a b:α}(h:p a)(h2:p b):∀x ∈ [a,b],p x:=λx hx=>(kO.mp hx).elim (λe=>e▸h) (all1 h2 x)
theorem Wy{α:Type}{p:α->Prop}{a b c:α}(h:p a)(h2:p b)(h3:p c):∀x ∈ [a,b,c],p x:=λx hx=>(kO.mp hx).elim (λe=>e▸h) (all2 h2 h3 x)
structure uz(ws M:List Str)(many:Nat)(ks:List Kd)(k made:Nat):Prop where
 nm:ks.map (·.1)=ws.take k
 mn:names ks=M.take made
 b1:made<=6*k
 ne:∀k∈ks,k.2 ≠ []/\k.2.length<=6
 fl:∀k∈ks,∀m∈k.2,m.2.length<=4/\∀f∈m.2,f∈ws.take many
theorem uz.next(D:uz ws M many ks k made)(hn:ws[k]?=Z n)(hm:M.take made++ms.map (·.1)=M.take g)(h0:ms ≠ [])(h1:ms.length<=6)(h2:g<=made+ms.length)(h3:∀m∈ms,m.2.length<=4/\∀f∈m.2,f∈ws.take many):
  uz ws M many (ks++[(n,ms)]) (k+1) g where
 nm:=by rw[j3,D.nm,<- take_one hn];rfl
 mn:=by
  have:names (ks++[(n,ms)])=names ks++ms.map (·.1):=by unfold names;simp
  rw[this,D.mn,hm]
 b1:=by have:=D.b1;lia
 ne:=λx hx=>by
  obtain h|h:=i6.mp hx
  ·exact D.ne x h
  ·rw[d2.mp h];exact(h0,h1)
 fl:=λx hx=>by
  obtain h|h:=i6.mp hx
  ·exact D.fl x h
  ·rw[d2.mp h];exact h3
theorem uz.good(D:uz ws M many ks many made)(hw:ws.Nodup)(g:M.Nodup)(h1:1<=many)(h2:many<=3)(hl:3<=ws.length):ig ks:=by
 have hlen:ks.length=many:=by
  have:=congrArg Ez D.nm
  rw[cO,p7]at this
  lia
 refine(al,al,by rw[D.nm];exact hw.sublist (WY _ _),by rw[D.mn];exact g.sublist (WY _ _),D.ne,λk hk m hm=>?_)
 have z:=D.fl k hk m hm;rw[D.nm];exact z
theorem tT:decide ((Sum.inr a:Key)=.inr b)=decide (a=b):=by
 by_cases h:a=b
 ·simp
 ·rw[decide_eq_false h,decide_eq_false λz=>h (Sum.inr.inj z)]
variable{mg:Str->Option B}
theorem never(h:∀ts Q,¬ sp ts Q):bf P w K mg base CX k f fd ps (spQ K sp):=
 (λ_ _ _ _ g=>by let(_,ts,_,Qp,_,_,z,_):=g;exact(h ts Qp z).elim,λ_ _ _ _ _ _ _ _ _ _ _ _ _ g=>by let(_,ts,_,Qp,_,_,z,_):=g;exact(h ts Qp z).elim)
def kEn(k:Kd):Key×T:=(.inr k.1,tMs k.2)
theorem mJ:∀ks:List Kd,cE (ks.map tK)=Z (ks.map kEn)
 |[]=>rfl
 |k::r=>by
  show(match(Z (.inr k.1)),cE (r.map tK)with|some k',Z r=>Z ((Prod.mk k' (tMs k.2))::r)|_,_=>Y)=_
  rw[mJ r];rfl
theorem mW:∀{ps acc:List (Key×T)},(ps.map (·.1)).Nodup->(∀p∈ps,∀q∈acc,q.1≠p.1)->c7 acc ps=acc++ps
 |[],acc,_,_=>by simp[c7]
 |p::ps,acc,h,hd=>by
  have h':=uj.mp h;have e:g7 acc p.1 p.2=acc++[p]:=by
   unfold g7;rw[if_neg];intro z;let(q,hq,P):=Lm.mp z;exact hd p ad q hq (of_decide_eq_true P)
  show c7 (g7 acc p.1 p.2) ps=_;rw[e,mW h'.2 λK g q hq=>?_]
  ·simp
  ·obtain z|z:=i6.mp hq
   ·exact hd K (by simp[g]) q z
   ·rw[d2.mp z];exact λe=>h'.1 (j0.mpr (K,g,e.symm))
theorem NW(h:k∈ks.map (·.1)):bC (ks.map kEn) (.inr k)=Z (tMs (cV ks k)):=by
 unfold bC cV
 induction ks with
 |nil=>cases h
 |cons x r g =>
  by_cases e:x.1=k
  ·rw[qS,vF,vF,show(kEn x).1=.inr x.1 from U,tT,decide_eq_true e];rfl
  ·have h':k∈r.map (·.1):=by
    obtain z|z:=kO.mp h
    ·exact absurd z.symm e
    ·exact z
   rw[qS,vF,vF,show(kEn x).1=.inr x.1 from U,tT,decide_eq_false e];exact g h'
theorem Ox{ks:List Kd}(h:(ks.map (·.1)).Nodup):c7 [] (ks.map kEn)=ks.map kEn:=by
 rw[mW]
 ·rfl
 ·rw[rS]
  have:(ks.map ((λx=>x.1) ∘ kEn))=(ks.map (·.1)).map Sum.inr:=by rw[rS];rfl
  rw[this];exact UD.mpr (h.imp λg z=>g (Sum.inr.inj z))
 ·intro p _ q hq;cases hq
theorem pe(g:(ks.map (·.1)).Nodup)(h:k∈ks.map (·.1)):bC (c7 [] (ks.map kEn)) (.inr k)=Z (tMs (cV ks k)):=by rw[Ox g,NW h]
structure bw(ks:List Kd):Prop where
 k1:1<=ks.length
 k2:ks.length<=6
 nd:(ks.map (·.1)).Nodup
 mn:(names ks).Nodup
 ne:∀k∈ks,k.2 ≠ []/\k.2.length<=6
 fl:∀k∈ks,∀m∈k.2,m.2.length<=4/\∀f∈m.2,f∈ks.map (·.1)
theorem Ss(h0:0<=r)(h1:r.toNat<ws.length):atI (ws.map L2.T.s) r=Z (.s ws[r.toNat]):=by
 have:=f9 (ws:=ws) (j:=r.toNat) (w:=ws[r.toNat]) (by simp[h1])
 rwa [V5 h0]at this
abbrev Sc:=List (Str×Str)
def tP(p:Str×Str):T:=.t [.s p.1,.s p.2]
theorem d6(p:Str×Str):(tP p).im=true:=rfl
def Fills(sc:Sc)(ns fs:List Str):Prop:=ns.length=fs.length/\∀p∈ns.zip fs,p∈sc
variable{sc:Sc}{ns:List Str}
theorem Fills.snoc(h:Fills sc ns fs)(hp:(n,f)∈sc):Fills sc (ns++[n]) (fs++[f]):=by
 refine(by simp[h.1],λp g=>?_)
 rw[List.zip_append h.1]at g;obtain z|z:=i6.mp g
 ·exact h.2 p z
 ·simp at z;rw[z];exact hp
inductive BN(ts:List L2.T)(Q:L2.T->Prop):Prop
 |mk(sc:Sc)(fs:List Str)(t:T)(h1:(t=.t (fs.map .s)\/t=.l (fs.map .s)))(h2:ts=[.cB,.l (sc.map tP),t])(h3:sc.length<=60)(h4:fs.length<=1000)(h5:Q .n)(h6:∀ns:List Str,Fills sc ns fs->Q (.t (ns.map .s)))
abbrev Hd:=Str×Sc×Str
def tH(h:Hd):T:=.t [.s h.1,.t (h.2.1.map tP),.s h.2.2]
theorem UJ(h:Hd):(tH h).im=true:=by
 show(O&&(T.ims (h.2.1.map tP)&&O))=O;rw[aU d6];rfl
def tW(ks:List Kd)(hs:List Hd)(ws:List Str):T:=.t [tKs ks,.l (hs.map tH),.l (ws.map .s)]
structure Wld(ks:List Kd)(hs:List Hd)(ws:List Str):Prop where
 gk:bw ks
 wl:ws.length=40
 wn:ws.Nodup
 h1:1<=hs.length
 h8:hs.length<=8
 hn:(hs.map (·.1)).Nodup
 hp:∀h∈hs,h.2.1.length<=4/\(∀p∈h.2.1,p.2∈ks.map (·.1))/\h.2.1.map (·.1)=ws.take h.2.1.length/\h.2.2∈ks.map (·.1)
structure uy(ks:List Kd)(ws:List Str)(h:Hd)(sc:Sc):Prop where
 nm:sc.map (·.1)=ws.take sc.length
 ln:sc.length<=30
 kd:∀p∈sc,p.2∈ks.map (·.1)
 p1:h.2.1.length<=sc.length
 pf:sc.take h.2.1.length=h.2.1
abbrev Arm:=Str×List Str×T×Nat
def tA(a:Arm):T:=.t [.s a.1,.t (a.2.1.map .s),a.2.2.1]
inductive Snd(ks:List Kd)(hs:List Hd)(r:Str):Nat->Sc->T->Prop
 |give{sc:Sc}{x:Str}:(x,r)∈sc->Snd ks hs r 1 sc (.t [.s "give",.s x])
 |cT{n:Nat}{sc:Sc}{w:Str}{c:Int}{b:T}:(w="pay" \/ w="get")->Snd ks hs r n sc b->Snd ks hs r (n+1) sc (.t [.s w,.i c,b])
 |name{n:Nat}{sc:Sc}{x y k:Str}{b:T}:(y,k)∈sc->x ∉ sc.map (·.1)->Snd ks hs r n (sc++[Prod.mk x k]) b->Snd ks hs r (n+1) sc (.t [.s "name",.s x,.s y,b])
 |make{n:Nat}{sc:Sc}{x:Str}{m:Mk1}{kd:Kd}{ns:List Str}{b:T}:kd∈ks->m∈kd.2->Fills sc ns m.2->x ∉ sc.map (·.1)->Snd ks hs r n (sc++[(x,kd.1)]) b->Snd ks hs r (n+1) sc (.t [.s "make",.s x,.s m.1,.t (ns.map .s),b])
 |call{n:Nat}{sc:Sc}{x:Str}{h:Hd}{ns:List Str}{b:T}:h∈hs->Fills sc ns (h.2.1.map (·.2))->x ∉ sc.map (·.1)->Snd ks hs r n (sc++[(x,h.2.2)]) b->Snd ks hs r (n+1) sc (.t [.s "call",.s x,.s h.1,.t (ns.map .s),b])
 |case{sc:Sc}{x:Str}{kd:Kd}(arms:List Arm):(x,kd.1)∈sc->kd∈ks->arms.map (·.1)=kd.2.map (·.1) ->
   (∀(i:Nat)(a:Arm)(m:Mk1),arms[i]?=Z a->kd.2[i]?=Z m->a.2.1.length=m.2.length/\(sc.map (·.1)++a.2.1).Nodup) ->
   (∀(i:Nat)(a:Arm)(m:Mk1),arms[i]?=Z a->kd.2[i]?=Z m->Snd ks hs r a.2.2.2 (sc++a.2.1.zip m.2) a.2.2.1) ->
   Snd ks hs r (1+(arms.map (·.2.2.2)).sum) sc (.t [.s "case",.s x,.t (arms.map tA)])
theorem Snd.im(h:Snd ks hs r n sc b):b.im=true:=by
 induction h with
 |give _=>rfl
 |cT _ _ g=>show(O&&(O&&(T.im _&&O)))=O;rw[g];rfl
 |name _ _ _ g=>show(O&&(O&&(O&&(T.im _&&O))))=O;rw[g];rfl
 |make _ _ _ _ _ g=>show(O&&(O&&(O&&(T.ims _&&(T.im _&&O)))))=O;rw[g,aX];rfl
 |call _ _ _ _ g=>show(O&&(O&&(O&&(T.ims _&&(T.im _&&O)))))=O;rw[g,aX];rfl
 |@case sc x kd arms _ _ hn _ _ g =>
  show(O&&(O&&(T.ims (arms.map tA)&&O)))=O
  have:T.ims (arms.map tA)=true:=by
   have go:∀l,(∀t∈l,t.im=O)->T.ims l=true:=by
    intro l
    induction l with
    |nil=>intro _;rfl
    |cons t r g=>intro h;show(t.im&&T.ims r)=O;rw[h t j2,g λt q=>h t (j1 _ q)];rfl
   refine go _ λt q=>?_
   let(a,ha,U):=j0.mp q;let(i,hi,e):=qp ha;have hl:=by have:=congrArg Ez hn;simpa using this.symm
   have z:=g i a (kd.2[i]' al) (by rw[dN hi,e]) (dN _)
   show(O&&(T.ims (a.2.1.map .s)&&(a.2.2.1.im&&O)))=O;rw[z,aX];rfl
  rw[this];rfl
def tb:Nat->List Nat
 | 0=>[2]
 |n+1=>(1+max ((tb n).getD 0 2) (max ((tb n).getD 1 2) (max (2*(tb n).getD 2 2) (max (3*(tb n).getD 3 2) (max (4*(tb n).getD 4 2) (max (5*(tb n).getD 5 2) (6*(tb n).getD 6 2)))))))::tb n
def sz(n:Nat):Nat:=(tb n).getD 0 2
theorem jr:∀n k:Nat,(tb n).getD k 2=sz (n-k)
 | 0,0=>rfl
 | 0,k+1=>by rw[Nat.zero_sub];rfl
 |n+1,0=>rfl
 |n+1,k+1=>by
  rw[Nat.add_sub_add_right,<- jr n k];rfl
theorem L5(n:Nat):sz (n+1)=1+max (sz n) (max (sz (n-1)) (max (2*sz (n-2)) (max (3*sz (n-3)) (max (4*sz (n-4)) (max (5*sz (n-5)) (6*sz (n-6))))))):=by
 show 1+max ((tb n).getD 0 2) _=_;rw[jr,jr,jr,jr,jr,jr,jr];rfl
theorem Bj(n:Nat):1+sz n<=sz (n+1):=by exact XS (Xk _ _) 1
theorem Hm:∀n:Nat,2<=sz n
 | 0=>ka _
 |n+1=>by have:=Bj n;have:=Hm n;lia
variable{n:Nat}
theorem L7(h1:1<=k)(h6:k<=6):1+k*sz (n-k)<=sz (n+1):=by
 rw[L5]
 have:k=1\/k=2\/k=3\/k=4\/k=5\/k=6:=al
 have r:∀{a b c:Nat},a<=c->a<=max b c:=λh=>qR h (Nat.le_max_right _ _)
 refine XS ?_ 1;obtain rfl|rfl|rfl|rfl|rfl|rfl:=this
 ·rw[Nat.one_mul];exact r (Xk _ _)
 ·exact r (r (Xk _ _))
 ·exact r (r (r (Xk _ _)))
 ·exact r (r (r (r (Xk _ _))))
 ·exact r (r (r (r (r (Xk _ _)))))
 ·exact r (r (r (r (r (r (ka _))))))
theorem L6(h:n<=m):sz n<=sz m:=by
 induction h with
 |refl=>exact ka _
 |step _ g=>exact qR g (qR (Nat.le_add_left _ _) (Bj _))
theorem Tj:sz 30<=50000:=be
variable{kd:Kd}
theorem zU(g:(ks.map (·.1)).Nodup)(h:kd∈ks):cV ks kd.1=kd.2:=by
 unfold cV
 induction ks with
 |nil=>cases h
 |cons x r q =>
  rw[qS,uj]at g;by_cases e:x.1=kd.1
  ·obtain z|z:=kO.mp h
   ·subst z;simp
   ·exact absurd (j0.mpr (kd,z,e.symm)) g.1
  ·rw[vF,decide_eq_false e];obtain z|z:=kO.mp h
   ·exact absurd (by rw[z]) e
   ·exact q g.2 z
theorem Py{ks:List Kd}(h:k∈ks.map (·.1)):∃kd∈ks,kd.1=k:=by
 let(kd,h1,h2):=j0.mp h;exact(kd,h1,h2)
variable{x:Str}
theorem uy.fresh(S:uy ks ws h sc)(wn:ws.Nodup)(hx:ws[sc.length]?=Z x):x ∉ sc.map (·.1):=by
 rw[S.nm];intro z;have q:=wn.sublist (WY (sc.length+1) ws);rw[<- take_one hx]at q;exact(uF.mp q).2.2 x z x ad U
theorem uy.snoc(S:uy ks ws h sc)(hx:ws[sc.length]?=Z x)(hl:sc.length<30)(hk:k∈ks.map (·.1)):uy ks ws h (sc++[Prod.mk x k]) where
 nm:=by rw[j3,S.nm,i5];exact take_one hx
 ln:=by simp;lia
 kd:=λp hp=>by
  obtain z|z:=i6.mp hp
  ·exact S.kd p z
  ·rw[d2.mp z];exact hk
 p1:=by rw[i5];have:=S.p1;lia
 pf:=by rw[XN S.p1];exact S.pf
inductive rA(ts:List L2.T)(Q:L2.T->Prop):Prop
 |mk(ks:List Kd)(hs:List Hd)(ws:List Str)(sc:Sc)(f:Nat)(h:Hd)(h1:ts=[.cB,tW ks hs ws,.l (sc.map tP),.s h.2.2,.i f])(h2:Wld ks hs ws)(h3:hs[f]?=Z h)(h4:uy ks ws h sc)(h5:∀n b,n<=2->Snd ks hs h.2.2 n sc b->Dep 2 b->Q b)
inductive lH(N:Nat)(ts:List L2.T)(Q:L2.T->Prop):Prop
 |mk(ks:List Kd)(hs:List Hd)(ws:List Str)(sc:Sc)(f:Nat)(h:Hd)(u:Int)(h1:ts=[.cB,tW ks hs ws,.l (sc.map tP),.i f,.rm u])(h2:Wld ks hs ws)(h3:hs[f]?=Z h)(h4:uy ks ws h sc)(h5:sc.length<=21)(h6:u.toNat<N)(h7:∀n b,n<=sz u.toNat->Snd ks hs h.2.2 n sc b->Dep (3*u.toNat+2) b->Q b)
inductive Rg(N:Nat)(ts:List L2.T)(Q:L2.T->Prop):Prop
 |mk(ks:List Kd)(hs:List Hd)(ws:List Str)(sc:Sc)(f:Nat)(h:Hd)(u:Int)(h1:ts=[.cB,tW ks hs ws,.l (sc.map tP),.i f,.rm u])(h2:Wld ks hs ws)(h3:hs[f]?=Z h)(h4:uy ks ws h sc)(h5:sc.length<=17)(h6:sc ≠ [])(h7:u.toNat<N)(h8:∀n b,n<=sz (u.toNat+1)->Snd ks hs h.2.2 n sc b->Dep (3*u.toNat+5) b->Q b)
theorem KW{xs:List α}(h:n<=xs.length):fj xs Y (Z (n:Int))=xs.take n:=by
 unfold fj;rw[HT.HK,HT.Mv,OW h,Yw,Nat.sub_zero]
theorem Fills.self:Fills sc ((sc.take n).map (·.1)) ((sc.take n).map (·.2)):=by
 refine(ad,λp hp=>?_)
 rw[List.zip_map',j0]at hp;let(q,hq,U):=hp;exact Fs hq
theorem CN{fs:List Str}(h:ns.length=fs.length):(ns.zip fs).map (·.1)=ns:=by
 rw[Yg al]
theorem uy.more(S:uy ks ws h sc)(wn:ws.Nodup)(e:ns=(ws.drop sc.length).take fs.length)(hl:sc.length+fs.length<=30)(hw:40<=ws.length)(hk:∀f∈fs,f∈ks.map (·.1)):
  ns.length=fs.length/\(sc.map (·.1)++ns).Nodup/\uy ks ws h (sc++ns.zip fs):=by
 have l1:ns.length=fs.length:=by rw[e,p7,QX];lia
 have g:sc.map (·.1)++ns=ws.take (sc.length+fs.length):=by rw[S.nm,e,List.take_add]
 have q:(ns.zip fs).length=fs.length:=by rw[P5];lia
 refine(l1,by rw[g];exact wn.sublist (WY _ _),(?_,?_,λp hp=>?_,?_,?_))
 ·rw[j3,CN l1,g,i5,q]
 ·rw[i5];lia
 ·obtain z|z:=i6.mp hp
  ·exact S.kd p z
  ·exact hk p.2 (Xj z).2
 ·rw[i5];have:=S.p1;lia
 ·rw[XN S.p1];exact S.pf
variable{arms:List Arm}{Za:Nat}
theorem Qd(h:∀a∈arms,a.2.2.2<=Za):(arms.map (·.2.2.2)).sum<=arms.length*Za:=by
 induction arms with
 |nil=>simp
 |cons a r g =>
  have h1:=h a j2;have h2:=g λb q=>h b (j1 _ q)
  rw[qS,CD,pq,Nat.add_mul]
  lia
structure PU(ks:List Kd)(hs:List Hd)(r:Str)(sc:Sc)(Za D:Nat)(a:Arm)(m:Mk1):Prop where
 nm:a.1=m.1
 ln:a.2.1.length=m.2.length
 nd:(sc.map (·.1)++a.2.1).Nodup
 sn:Snd ks hs r a.2.2.2 (sc++a.2.1.zip m.2) a.2.2.1
 sz:a.2.2.2<=Za
 dp:Dep D a.2.2.1
structure vG(ks:List Kd)(hs:List Hd)(r:Str)(sc:Sc)(Za D:Nat)(arms:List Arm)(ms:List Mk1):Prop where
 ln:arms.length=ms.length
 ok:∀(i:Nat)(a:Arm)(m:Mk1),arms[i]?=Z a->ms[i]?=Z m->PU ks hs r sc Za D a m
variable{hs:List Hd}{r:Str}{D:Nat}
theorem vG.snoc(h:vG ks hs r sc Za D arms ms)(ha:PU ks hs r sc Za D a m):vG ks hs r sc Za D (arms++[a]) (ms++[m]):=by
 refine(by simp[h.ln],λi q m' h1 h2=>?_)
 by_cases hi:i<arms.length
 ·rw[ui hi]at h1;rw[ui (by rw[<- h.ln];exact hi)]at h2
  exact h.ok i q m' h1 h2
 ·rw[uD al]at h1
  rw[uD (by rw[<- h.ln];lia),<- h.ln]at h2
  have g:i-arms.length=0:=by
   have:=(g5.mp h1).1
   simp at this
   lia
  rw[g]at h1 h2;simp at h1 h2;subst h1 h2;exact ha
theorem vG.snd(h:vG ks hs r sc Za D arms kd.2)(hx:(x,kd.1)∈sc)(hk:kd∈ks):Snd ks hs r (1+(arms.map (·.2.2.2)).sum) sc (.t [.s "case",.s x,.t (arms.map tA)])/\(arms.map (·.2.2.2)).sum<=arms.length*Za:=by
 refine(.case arms hx hk ?_ (λi a m h1 h2=>((h.ok i a m h1 h2).ln,(h.ok i a m h1 h2).nd)) (λi a m h1 h2=>(h.ok i a m h1 h2).sn),Qd λa ha=>?_)
 ·apply YO
  intro i;rw[fy,fy];by_cases hi:i<arms.length
  ·have q:=dN hi;have g:kd.2[i]?=Z (kd.2[i]'(by rw[<- h.ln];exact hi)):=dN _
   rw[q,g];exact congrArg Z (h.ok i _ _ q g).nm
  ·rw[Ln al,Ln (by rw[<- h.ln];omega)]
   rfl
 ·let(i,hi,e):=qp ha;exact(h.ok i a _ (by rw[dN hi,e]) (dN (by rw[<- h.ln];exact hi))).sz
theorem gR{xs:List α}{r:Int}(h0:0<=r)(h1:r<xs.length):∃x∈xs,atI (xs.map f) r=Z (f x):=by
 have h:r.toNat<xs.length:=al
 refine(xs[r.toNat],SK h,?_)
 have:=bc (xs:=xs.map f) (by rw[fy,dN h];rfl)
 rwa [V5 h0]at this
theorem max_two{r g:Int}(P:0<=r)(K:r<n)(z:0<=g)(q:g<n):0 <=(if g > r then g else r)/\(if g > r then g else r)<n:=by split <;> lia
theorem GO{α β:Type}{A:List α}{Za:List β}{a:α}{b:β}(ha:A[j]?=Z a)(g:Za[j]?=Z b):(A.take (j+1)).zip (Za.take (j+1))=(A.take j).zip (Za.take j)++[(a,b)]:=by
 have h1:=(g5.mp ha).1;have h2:=(g5.mp g).1;rw[pM,pM,ha,g,List.zip_append (by rw[p7,p7];lia)]
 rfl
theorem vG.im(h:vG ks hs r sc Za D arms ms):T.ims (arms.map tA)=true:=by
 have go:∀l,(∀t∈l,t.im=O)->T.ims l=true:=by
  intro l
  induction l with
  |nil=>intro _;rfl
  |cons t r q=>intro h;show(t.im&&T.ims r)=O;rw[h t j2,q λt g=>h t (j1 _ g)];rfl
 refine go _ λt g=>?_
 let(a,ha,U):=j0.mp g;let(i,hi,e):=qp ha;have z:=(h.ok i a _ (by rw[dN hi,e]) (dN (by rw[<- h.ln];exact hi))).sn.im
 show(O&&(T.ims (a.2.1.map .s)&&(a.2.2.1.im&&O)))=O;rw[z,aX];rfl
theorem Am{l:List Str}:Dep (n+1) (.t (l.map .s)):=Dep.t λx hx=>by
 let(z,_,U):=j0.mp hx;exact Dep.s
theorem gL:∀x∈([]:List T),Dep n x:=bY
theorem cF(h:Dep n t)(hs:∀x∈ts,Dep n x):∀x∈t::ts,Dep n x:=λx hx=>(kO.mp hx).elim (λe=>e▸h) (hs x)
theorem uf:Dep (n+1) (.t [.s "give",.s x]):=Dep.t (cF Dep.s (cF Dep.s gL))
theorem Gr(h:Dep D b):Dep (D+1) (.t [.s w,.i c,b]):=Dep.t (cF Dep.s (cF Dep.i (cF h gL)))
variable{y:Str}
theorem KG(h:Dep D b):Dep (D+1) (.t [.s w,.s x,.s y,b]):=Dep.t (cF Dep.s (cF Dep.s (cF Dep.s (cF h gL))))
theorem nt(h:Dep D b)(h1:1<=D):Dep (D+1) (.t [.s w,.s x,.s y,.t (ns.map .s),b]):=by
 obtain⟨k,rfl⟩:∃k,D=k+1:=(D-1,al)
 exact Dep.t (cF Dep.s (cF Dep.s (cF Dep.s (cF Am (cF h gL)))))
theorem vG.dep(h:vG ks hs r sc Za D arms ms)(h1:1<=D):Dep (D+3) (.t [.s "case",.s x,.t (arms.map tA)]):=by
 obtain⟨k,rfl⟩:∃k,D=k+1:=(D-1,al)
 refine Dep.t (cF Dep.s (cF Dep.s (cF (Dep.t λt g=>?_) gL)))
 let(a,ha,U):=j0.mp g;let(i,hi,e):=qp ha;exact Dep.t (cF Dep.s (cF Am (cF (h.ok i a _ (by rw[dN hi,e]) (dN (by rw[<- h.ln];exact hi))).dp gL)))
abbrev Fn:=Hd×T×Nat
def tF(f:Fn):T:=.t [.s f.1.1,.t (f.1.2.1.map tP),.s f.1.2.2,f.2.1]
structure Prog(ks:List Kd)(fs:List Fn):Prop where
 gk:bw ks
 l8:fs.length<=8
 hn:(fs.map (·.1.1)).Nodup
 pk:∀f∈fs,f.1.2.1.length<=4/\(∀p∈f.1.2.1,p.2∈ks.map (·.1))/\(f.1.2.1.map (·.1)).Nodup/\f.1.2.2∈ks.map (·.1)
 sn:∀f∈fs,Snd ks (fs.map (·.1)) f.1.2.2 f.2.2 f.1.2.1 f.2.1/\f.2.2<=50000
 dp:∀f∈fs,Dep 92 f.2.1
theorem ig.p(g:ig ks):bw ks:=(g.k1,by have:=g.k2;lia,g.nd,g.mn,g.ne,g.fl)
inductive FG(ts:List L2.T)(Q:L2.T->Prop):Prop
 |mk(m u:Int)(h1:ts=[.cB,.i m,.i u])(h2:0<m)(h3:m<=8)(h4:0<=u)(h5:u<=30)(h6:∀ks fs,Prog ks fs->ig ks->fs ≠ []->(∀f∈fs,f.2.2<=sz u.toNat)->fs.length<=m.toNat->(∀f∈fs,Dep (3*u.toNat+2) f.2.1)->Q (.t [tKs ks,.t (fs.map tF)]))
def pb(o:Nat)(f:Nat):Nat:=if o=0 then f else 39-f
structure wG(ks:List Kd)(ws:List Str)(o:Nat)(hs:List Hd)(i:Nat):Prop where
 ln:hs.length=i
 nm:hs.map (λh=>Z h.1)=(AK i).map λf=>ws[pb o f]?
 hp:∀h∈hs,h.2.1.length<=4/\(∀p∈h.2.1,p.2∈ks.map (·.1))/\h.2.1.map (·.1)=ws.take h.2.1.length/\h.2.2∈ks.map (·.1)
theorem wG.snoc(H:wG ks ws o hs i)(hn:ws[pb o i]?=Z h.1)(hp:h.2.1.length<=4/\(∀p∈h.2.1,p.2∈ks.map (·.1))/\h.2.1.map (·.1)=ws.take h.2.1.length/\h.2.2∈ks.map (·.1)):wG ks ws o (hs++[h]) (i+1) where
 ln:=by simp[H.ln]
 nm:=by rw[j3,H.nm,Yq];simp[hn]
 hp:=λh' hm=>by
  obtain z|z:=i6.mp hm
  ·exact H.hp h' z
  ·rw[d2.mp z];exact hp
theorem wG.nd(H:wG ks ws o hs i)(hl:ws.length=40)(wn:ws.Nodup)(hi:i<=8):(hs.map (·.1)).Nodup:=by
 have e:(hs.map (·.1)).map Z=(AK i).map λf=>ws[pb o f]?:=by rw[<- H.nm,rS];rfl
 have n:((AK i).map λf=>ws[pb o f]?).Nodup:=by
  refine UD.mpr (List.Pairwise.imp_of_mem (λ{a b} ha K g z=>?_) (YX))
  have ha:=SR.mp ha;have l1:pb o a<ws.length:=by unfold pb;split <;> lia
  have q:=z
  have:=(YR l1 wn).mp q
  unfold pb at this
  split at this <;> lia
 rw[<- e]at n;exact(UD.mp n).imp λg z=>g (by rw[z])
abbrev Ds:=List (Str×Int)
def dEn(p:Str×Int):Key×T:=(.inr p.1,.i p.2)
def dT(ds:Ds):T:=.d (ds.map dEn)
def lk(ds:Ds)(k:Str):Option Int:=(ds.find? λp=>decide (p.1=k)).map (·.2)
def putD(ds:Ds)(k:Str)(v:Int):Ds:=if(ds.any λp=>decide (p.1=k))=O then ds.map (λp=>if p.1=k then(p.1,v)else p)else ds++[(k,v)]
theorem d5(ds:Ds)(k:Str):bC (ds.map dEn) (.inr k)=(lk ds k).map .i:=by
 unfold bC lk
 induction ds with
 |nil=>rfl
 |cons p r g =>
  rw[qS,vF,vF,show(dEn p).1=.inr p.1 from U,tT];cases decide (p.1=k)with
  |true=>rfl
  |false=>exact g
theorem Sw(ds:Ds)(k:Str):((ds.map dEn).any λp=>decide (p.1=.inr k))=ds.any λp=>decide (p.1=k):=by
 rw[W4]
 congr 1
 funext p
 exact tT
theorem IS(ds:Ds)(k:Str)(v:Int):g7 (ds.map dEn) (.inr k) (.i v)=(putD ds k v).map dEn:=by
 unfold g7 putD;rw[Sw]
 split
 ·rw[rS,rS]
  apply O0
  intro p _;show(if(Sum.inr p.1:Key)=.inr k then((Sum.inr p.1),T.i v)else dEn p)=dEn (if p.1=k then(p.1,v)else p)
  by_cases h:p.1=k
  ·rw[if_pos (congrArg Sum.inr h),if_pos h];rfl
  ·rw[if_neg λz=>h (Sum.inr.inj z),if_neg h]
 ·rw[j3];rfl
variable{ds:Ds}
theorem gS(h:lk ds k=Z v):(k,v)∈ds:=by
 let(p,hp,U):=gs.mp h;have h1:=Xa hp;have h2:=Yo hp;have h2:=(h2:)
 rw[<- h2];exact h1
theorem DP(h:lk ds k=Y):∀p∈ds,p.1≠k:=by
 intro p hp e
 have:=YG.mp (Ym.mp h) p hp
 exact this (decide_eq_true e)
theorem Cv:(ds.any λp=>decide (p.1=k))=(lk ds k).isSome:=by
 cases h:lk ds k with
 |none =>
  rw[Option.isSome_none,X6];exact λp hp=>by simpa using DP h p hp
 |some v =>
  rw[YD,Lm];exact(_,gS h,ad)
theorem x3:lk (putD ds k v) f=if f=k then Z v else lk ds f:=by
 unfold putD
 split
 ·rename_i h;by_cases e:f=k
  ·subst e;rw[if_pos rfl];unfold lk
   induction ds with
   |nil=>cases h
   |cons p r q =>
    by_cases hp:p.1=f
    ·simp[hp]
    ·rw[Xd,decide_eq_false hp]at h
     have:=q h
     simp only[qS,if_neg hp,vF,decide_eq_false hp];exact this
  ·rw[if_neg e];unfold lk;clear h
   induction ds with
   |nil=>rfl
   |cons p r q =>
    by_cases hp:p.1=k
    ·have h1:¬ k=f:=λz=>e z.symm
     simp only[qS,hp,if_pos,vF,decide_eq_false h1];exact q
    ·by_cases hf:p.1=f
     ·simp[hf,e]
     ·simp only[qS,if_neg hp,vF,decide_eq_false hf];exact q
 ·rename_i h;have h':lk ds k=none:=by
   rw[Cv]at h;cases g:lk ds k with
   |none=>rfl
   |some _=>rw[g]at h;exact absurd U h
  unfold lk at h' ⊢;rw[List.find?_append];by_cases e:f=k
  ·subst e;rw[Ym.mp h'];simp
  ·rw[if_neg e];have h1:¬ k=f:=λz=>e z.symm
   cases g:List.find? (λp=>decide (p.1=f)) ds with
   |none=>simp[h1]
   |some p=>rfl
def cA(ds:Ds)(fs:List Str):Int:=(fs.map λf=>(lk ds f).getD 0).sum
def bnd:Nat->Int
 | 0=>0
 |n+1=>1+4*bnd n
theorem yC:∀n,0<=bnd n
 | 0=>E3 _
 |n+1=>by have:=yC n;show 0<=1+4*bnd n;lia
theorem Sk(n:Nat):bnd n<=bnd (n+1):=by have:=yC n;show _<=1+4*bnd n;lia
theorem yD:∀{n m:Nat},n<=m->bnd n<=bnd m
 |n,0,h=>by rw[Nat.le_zero.mp h];exact E3 _
 |n,m+1,h=>by
  by_cases e:n=m+1
  ·rw[e];exact E3 _
  ·exact XX (yD al) (Sk m)
theorem C0:∀{fs:List Str},(∀f∈fs,(lk q f).getD 0 <=(lk ds f).getD 0)->cA q fs<=cA ds fs
 |[],_=>E3 _
 |f::fs,h=>by
  have h1:=h f ad
  have h2:=C0 (fs:=fs) λg hg=>h g (by simp[hg])
  unfold cA at *;simp only[qS,CD]
  lia
theorem C1:∀{fs:List Str},(∀f∈fs,0 <=(lk ds f).getD 0/\(lk ds f).getD 0<=b)->0<=cA ds fs/\cA ds fs<=fs.length*b
 |[],_=>by simp[cA]
 |f::fs,h=>by
  have h1:=h f ad
  have h2:=C1 (fs:=fs) λg hg=>h g (by simp[hg])
  unfold cA at *;simp only[qS,CD,pq]
  have:((fs.length+1:Nat))*b=fs.length*b+b:=by rw[Int.natCast_add,Int.add_mul];simp
  lia
structure jo(ks:List Kd)(ds:Ds):Prop where
 nd:(ds.map (·.1)).Nodup
 sub:∀p∈ds,p.1∈ks.map (·.1)
 bd:∀p∈ds,1<=p.2/\p.2<=bnd ds.length
 wt:∀k v,lk ds k=Z v->∃m∈cV ks k,(∀f∈m.2,(lk ds f).isSome=O)/\1+cA ds m.2<=v
theorem jo.nil(ks:List Kd):jo ks []:=(kc,ad,ad,λk v h=>by cases h)
theorem jo.bds(h:jo ks ds)(f:Str):0 <=(lk ds f).getD 0/\(lk ds f).getD 0<=bnd ds.length:=by
 cases e:lk ds f with
 |none=>exact(E3 _,yC _)
 |some v=>have:=h.bd _ (gS e);exact(by show 0<=v;lia,this.2)
theorem jo.sum(h:jo ks ds)(fs:List Str):0<=cA ds fs/\cA ds fs<=fs.length*bnd ds.length:=C1 λf _=>h.bds f
theorem sP:(putD ds k v).length=if(lk ds k).isSome=O then ds.length else ds.length+1:=by
 unfold putD;rw[Cv]
 split <;> simp
theorem vR:(putD ds k v).map (·.1)=if(lk ds k).isSome=O then ds.map (·.1)else ds.map (·.1)++[k]:=by
 unfold putD;rw[Cv]
 split
 ·rw[rS]
  apply O0
  intro p _;show(if p.1=k then(p.1,v)else p).1=p.1
  split <;> rfl
 ·simp
theorem jo.put(h:jo ks ds)(hk:k∈ks.map (·.1))(hm:m∈cV ks k)(h4:m.2.length<=4)(hf:∀f∈m.2,(lk ds f).isSome=O)(hv:v=min ((lk ds k).getD (1+cA ds m.2)) (1+cA ds m.2)):jo ks (putD ds k v):=by
 have hs:=h.sum m.2;have v1:1<=v:=by
  rw[hv];cases e:lk ds k with
  |none=>show 1<=min (1+cA ds m.2) _;lia
  |some u=>have:=h.bd _ (gS e);show 1<=min u _;have:=this.1;simp only at this;lia
 have v2:v<=1+cA ds m.2:=by rw[hv];exact Int.min_le_right _ _
 have v3:∀u,lk ds k=Z u->v<=u:=λu e=>by rw[hv,e];exact Int.min_le_left _ _
 have vb:v<=bnd (putD ds k v).length:=by
  rw[sP];cases e:lk ds k with
  |none =>
   show v<=1+4*bnd ds.length
   have:(m.2.length:Int)*bnd ds.length<=4*bnd ds.length:=XH al (yC _)
   lia
  |some u =>
   rw[if_pos ap]
   have:=v3 u e
   have:=this
   have q:=(h.bd _ (gS e)).2;simp only at q
   lia
 have lb:bnd ds.length<=bnd (putD ds k v).length:=yD (by rw[sP];split <;> lia)
 have low:∀fs:List Str,(∀f∈fs,(lk ds f).isSome=O)->cA (putD ds k v) fs<=cA ds fs:=λfs ar=>C0 λf K=>by
  rw[x3]
  split
  ·rename_i e;subst e;let(u,P):=Ll.mp (ar f K);rw[P];exact v3 u P
  ·exact E3 _
 have V:∀f,(lk ds f).isSome=O->(lk (putD ds k v) f).isSome=true:=λf K=>by
  rw[x3]
  split
  ·rfl
  ·exact K
 refine(?_,?_,?_,?_)
 ·rw[vR];cases e:lk ds k with
  |none =>
   refine uF.mpr (h.nd,ad,λa ha b hb=>?_)
   rw[d2.mp hb];let(p,hp,U):=j0.mp ha;exact DP e p hp
  |some u=>rw[if_pos ap];exact h.nd
 ·intro p hp
  have:p.1∈(putD ds k v).map (·.1):=j0.mpr (p,hp,U)
  rw[vR]at this
  split at this
  ·let(q,hq,e):=j0.mp this;rw[<- e];exact h.sub q hq
  ·obtain z|z:=i6.mp this
   ·let(q,hq,e):=j0.mp z;rw[<- e];exact h.sub q hq
   ·rw[d2.mp z];exact hk
 ·intro p hp;have z:p.2=v\/p∈ds:=by
   unfold putD at hp
   split at hp
   ·let(q,hq,U):=j0.mp hp
    split
    ·exact .inl U
    ·exact .inr hq
   ·obtain z|z:=i6.mp hp
    ·exact .inr z
    ·rw[d2.mp z];exact .inl U
  obtain z|z:=z
  ·rw[z];exact(v1,vb)
  ·have:=h.bd p z
   exact(this.1,XX this.2 lb)
 ·intro k' u P;rw[x3]at P;by_cases e:k'=k
  ·rw[if_pos e]at P;cases P;subst e;cases g:lk ds k' with
   |none =>
    have av:v=1+cA ds m.2:=by rw[hv,g];show min (1+cA ds m.2) (1+cA ds m.2)=_;lia
    have:=low m.2 hf
    exact(m,hm,λf K=>V f (hf f K),al)
   |some w =>
    by_cases c:w<=1+cA ds m.2
    ·let(m',Q,K,ak):=h.wt k' w g
     have:=low m'.2 K
     exact(m',Q,λf R8=>V f (K f R8),by rw[hv,g]at *;show _<=min w _;lia)
    ·have:=low m.2 hf
     exact(m,hm,λf K=>V f (hf f K),by rw[hv,g]at *;show _<=min w _;lia)
  ·rw[if_neg e]at P;let(m',Q,K,ak):=h.wt k' u P
   have:=low m'.2 K
   exact(m',Q,λf R8=>V f (K f R8),al)
theorem jo.len(h:jo ks ds)(g:ig ks):ds.length<=3:=by
 have:=F5 h.nd λx hx=>by let(p,hp,U):=j0.mp hx;exact h.sub p hp
 have:=g.k2
 simp only[cO]at *
 lia
theorem tD{i:Nat}(g:(ks.map (·.1)).Nodup)(h:ks[i]?=Z kd):cV ks kd.1=kd.2:=by
 refine xX h U λj y z q e=>?_
 have h1:(ks.map (·.1))[i]?=Z kd.1:=by rw[fy,h];rfl
 have h2:(ks.map (·.1))[j]?=Z kd.1:=by rw[fy,q,<- e];rfl
 let(l1,P):=g5.mp h1;let(l2,K):=g5.mp h2;exact X4.mp g j i l2 l1 z (by rw[P,K])
theorem Rz(a b:Int):min a b=if b<a then b else a:=by
 rw[Int.min_def]
 split <;> split <;> lia
theorem Tt{y:T}{u n:Int}{Q:T->Prop}(h:y=.i u)(hq:Q (.i (f u n))):qI2 f [y,.i n] Q:=by subst h;exact hq
theorem Qo{Q:T->Prop}(h:Q (.i (a+b))):kH (.i a) (.i b) Q:=h
theorem Kh(ds:Ds):T.imk (ds.map dEn)=true:=by
 induction ds with
 |nil=>rfl
 |cons p r g=>show(_&&_)=O;rw[g];rfl
variable{q:Sq}
theorem Fy{D:dP}{k:Str}{n v:Int}(h1:q[1]?=Z (.o (dT ds)))(h3:q[3]?=Z (.r (.s k)))(h7:q[7]?=Z (.o (.i n)))(hl:ds.length<kf)(hv:v=f ((lk ds k).getD n) n)(hq:D.nx (q.set 1 (.o (dT (putD ds k v))))):
  BJ 1 (aM 3) (qCB (qI2 f) (aD (IJ (aM 1) (aM 3) (aM 7)) (aD (aM 7) cb))) D q:=by
 simp only[BJ,qCB,aD,cb,IJ,aM,h1,h3,h7];refine Tt (u:=(lk ds k).getD n) (by rw[d5];cases lk ds k <;> rfl) (by rw[cO];exact hl,Kh ds,U,?_)
 rw[IS,<- hv];exact hq
theorem nI{α:Type}(f:α->Bool):∀xs:List α,bls (xs.map λx=>T.b (f x))=Z (xs.map f)
 |[]=>rfl
 |x::r=>by show(bls (r.map λx=>T.b (f x))).map (f x :: ·)=_;rw[nI f r];rfl
theorem ins_map{α:Type}(f:α->Int):∀xs:List α,ins (xs.map λx=>T.i (f x))=Z (xs.map f)
 |[]=>rfl
 |x::r=>by show(ins (r.map λx=>T.i (f x))).map (f x :: ·)=_;rw[ins_map f r];rfl
theorem ou{xs:List α}{x:α}(h:xs[i]?=Z x):xs.take (i+1)=xs.take i++[x]:=by rw[pM,h];rfl
theorem DN(h:m∈cV ks k):∃kd∈ks,kd.1=k/\cV ks k=kd.2:=by
 unfold cV at h ⊢
 split at h
 ·rename_i x hx;have h2:=Yo hx;exact(x,Xa hx,(h2:),U)
 ·cases h
theorem ig.ma(g:ig ks)(h:m∈cV ks k):m.2.length<=4/\(∀f∈m.2,f∈ks.map (·.1))/\(cV ks k).length<=6:=by
 let(kd,hk,_,e):=DN h;rw[e]at h ⊢;exact((g.fl kd hk m h).1,(g.fl kd hk m h).2,(g.ne kd hk).2)
theorem E6{fs:List Str}(h:fs[i]?=Z f):cA ds (fs.take (i+1))=cA ds (fs.take i)+(lk ds f).getD 0:=by
 rw[ou h];simp[cA]
theorem pP(hI:jo ks ds):∀(fs:List Str)(i:Nat),cA ds (fs.take i)<=cA ds fs
 |[],i=>by simp
 |f::fs,0=>by have:=(hI.sum (f::fs)).1;simpa [cA]using this
 |f::fs,i+1=>by
  have:=pP hI fs i
  unfold cA at *;simp only[List.take_succ_cons,qS,CD]
  lia
inductive Vl where
 |mk(m:Str)(ps:List Vl)
mutual
def Vl.t:Vl->L2.T
 |.mk m ps=>.t [.s m,.t (Vl.ts ps)]
def Vl.ts:List Vl->List L2.T
 |[]=>[]
 |v::r=>v.t::Vl.ts r
end
mutual
def Vl.ms:Vl->List Str
 |.mk m ps=>m::Vl.mss ps
def Vl.mss:List Vl->List Str
 |[]=>[]
 |v::r=>v.ms++Vl.mss r
end
theorem Vl.wQ:∀ps:List Vl,Vl.ts ps=ps.map Vl.t
 |[]=>rfl
 |v::r=>by rw[Vl.ts,Vl.wQ r];rfl
theorem Vl.im:∀v:Vl,v.t.im=true:=by
 intro v;refine Vl.rec (motive_2:=λps=>L2.T.ims (Vl.ts ps)=O) (λm ps g=>?_) U (λv r h1 h2=>?_) v
 ·show(O&&(L2.T.ims (Vl.ts ps)&&O))=O;rw[g];rfl
 ·show(v.t.im&&L2.T.ims (Vl.ts r))=O;rw[h1,h2];rfl
theorem Kf(h:∀p∈ps,p.im=O):L2.T.ims ps=true:=by
 induction ps with
 |nil=>rfl
 |cons p r g=>show(_&&_)=O;rw[h p ad,g λq hq=>h q (by simp[hq])];rfl
theorem Vl.ims(ps:List Vl):L2.T.ims (ps.map Vl.t)=true:=Kf λt g=>by
 let(v,_,U):=j0.mp g;exact v.im
theorem Vl.gB:∀(xs ys:List Vl),Vl.mss (xs++ys)=Vl.mss xs++Vl.mss ys
 |[],ys=>rfl
 |v::r,ys=>by rw[XG,Vl.mss,Vl.mss,Vl.gB r ys,u6]
theorem Vl.DL:∀{ps:List Vl},m∈Vl.mss ps ↔ ∃v∈ps,m∈v.ms
 |[]=>by simp[Vl.mss]
 |v::r=>by rw[Vl.mss,i6,Vl.DL];simp
def tri:Nat->Nat
 | 0=>0
 |n+1=>tri n+n
theorem wR(a:Nat):∀b,tri a+tri b<=tri (a+b)
 | 0=>ka _
 |b+1=>by
  have:=wR a b
  show tri a+(tri b+b)<=tri (a+b)+(a+b)
  lia
theorem Vl.mU:∀ps:List Vl,ps.length <=(Vl.mss ps).length
 |[]=>v5 _
 |.mk m qs::r=>by
  have:=Vl.mU r
  rw[Vl.mss,Vl.ms,i5,pq,pq]
  lia
variable{N:Nat}{fm:Int}{sc':Sc}{os:List (Option Str)}{o:Option Str}{xs:List (Fn×List (Option Str))}{sp:Int}{l:Nat}{ps:List Nat}{kvs:List (List Key×V)}{fs':List Fn}
section
variable{P:Da}{w:Cl}{K:BT}{mg:Str->Option B}{base:Do}{a:Adr}
theorem du(T:Txt K mg a):bf P w K mg base CX0 1 a.yo a.KP [Zf,Zr] Ho:=by
 refine T.a5.F.ok qZ (λvs H Q E h=>?_) (λcdv A outer s H vs Q E hr h=>?_)
 ·let(d,l,m,U,_):=h;rfl
 ·let(d,l,m,U,(s0,n0,av,D0),m0,m1,k):=h;have q:=bh hr;refine(_,((bI (zp PassesOwn.never (PW.pt (IP (mB Pu (gy q (pv 0) dB (λ_ _=>rfl)) bV (bF _)) (Dt (mB DI (sW nH ap T.cK PySem.boot_len (bX (gy q (pv 0) dB (λ_ _=>rfl)) dC)) bV (bF _)))))
 (gx (rn q (pv 0) dB (BS PySem.F.plainAttrs_list PySem.F.slot_list_pop PySem.F.type_list_pop BZ (gy q (pv 0) dB (λ_ _=>rfl))) U)))
 (bI (jG (i:=2) qZ.nd U (Or.inl U) (gy q (pv 0) dB (λ_ _=>rfl)))
 (bI (Po (mB DI (pv 2) bV (bF _))
 (bI (rn q (pv 0) dB (cR zH (pv 2) (pv 1)) U)
 (gx (sQ (cR iM (pv 2) (pv 1)))))
 Dw)
 (bI (jG (i:=3) qZ.nd U (Or.inl U) (cR iM (cR oV (cR lJ (gy q (pv 0) dB (λ_ _=>rfl)) bV) bV) bV))
 (bI (rn q (pv 0) dB (cR iM (cR oV (cR lJ (pv 3) bV) bV) bV) U)
 (bI (jG (i:=4) qZ.nd U (Or.inl U) (cR iM (cR lJ (gy q (pv 0) dB (λ_ _=>rfl)) (gy q (pv 0) dB (λ_ _=>rfl))) bV))
 (gx (sQ (cR iM (cR oV (cR lJ (cR iM (cR lJ (pv 3) (pv 3)) bV) bV) (pv 4)) (pv 1))))))))))),?_)
  refine EX (λc σ H1=>∃s n ls,σ=[Z (.ref d),Z (.int m),Y,Y,Y]/\cU H1 d l s n ls/\Kp d l H H1/\c=ls.length) (s0,n0,av,U,D0,Kp.refl,U) ?_ ?_
  ·rintro c σ H1 ⟨s1,n1,ls,rfl,D,K1,rfl⟩
   refine(_,U,d,_,U,D.U0,?_);refine(_,U,_,_,U,U,_,U,?_);refine aI (λh1=>?_) (λh1=>?_)
   ·have h1:0<n1:=of_decide_eq_true h1;have q0:0<=n1 / m:=Int.ediv_nonneg al al
    refine(_,U,_,U,_,_,U,U,(m0,m1),_,U,d,_,U,D.Ui,?_);refine(_,U,_,U,_,_,U,U,m0,?_);exact k _ _ (mod_lt m0).1 (mod_lt m0).2 (_,_,_,D.num q0) K1.P0
   ·refine(_,U,d,_,U,D.Ku,_,_,U,U,.inr (ac,ac),_,_,U,U,_,_,U,U,(by show(0:Int)<2147483647;decide),?_)
    have b2:=mod_lt (x:=(s1*48271+7919) % 2147483647*40692+104729) (m:=2147483399) ac
    refine(_,U,_,_,U,U,.inr (ac,ac),_,_,U,U,_,_,U,U,(by show(0:Int)<2147483399;decide),_,U,d,_,U,D.Ud,?_)
    have z:=D.Vx (m:=((s1*48271+7919) % 2147483647*40692+104729) % 2147483399) b2.1 al
    refine(_,U,d,_,U,z.Ku,_,U,d,_,U,z.Ku,_,_,U,U,.inl (al,al),_,_,U,U,(by show(0:Int)<2147483563;decide),?_)
    refine(_,U,_,U,_,_,U,U,.inl (al,al),_,_,U,U,(by show(0:Int)<2147483629;decide),_,_,U,U,.inr (ac,ac),_,U,_,_,U,U,_,U,_,_,U,U,m0,?_)
    exact k _ _ (mod_lt m0).1 (mod_lt m0).2 (_,_,_,z) K1.P0
  ·rintro c σ H1 ⟨s1,n1,ls,rfl,D,K1,rfl⟩ hx
   refine(_,U,d,_,U,D.U0,U,_,U,?_);refine aI (λh1=>?_) (λh1=>hx)
   refine(_,U,d,_,U,D.PF,l,_,U,.inl (SqL.of D.hl),_,_,U,U,_,U,?_);refine aI (λh2=>?_) (λh2=>hx)
   obtain rfl |⟨ls',x,rfl⟩:=Xm ls
   ·simp at h2
   ·have ar:H1 l=Z (.lst (ls'.map V.int++[.int x])):=(D.hl:)
    refine(λak H'=>∃s n g,ak=[Z (.ref d),Z (.int m),Y,Y,Y]/\cU H' d l s n g/\Kp d l H H'/\g.length<(ls'++[x]).length,λak H' (s2,n2,g,e,z,K2,h)=>(g.length,(h:),s2,n2,g,e,z,K2,U),?_)
    have x0:0<=x:=D.l0 x ad
    have z:=D.list (ls':=ls') λy hy=>D.l0 y (by simp[hy])
    refine(_,U,d,_,U,D.PF,.inl (U,_,SqL.of ar),l,_,.int x,U,U,ar,ad,?_)
    rw[XJ];refine(_,U,d,_,U,z.Ui,?_);exact(_,_,ls',U,z.num x0,(K1.Vs).P0,ad)
theorem NL(T:Txt K mg a):bf P w K mg base CX0 1 a.yp a.KQ [Zx,ZN] (Qf K):=by
 refine T.yP.F.ok ml (λvs H Q E h=>?_) (λcdv A outer s H vs Q E hr h=>?_)
 ·let(a,ns,b,U,_):=h;rfl
 ·let(p0,ns,b,U,hS,hlen,b0,b1,k):=h;have hu:=bh hr;refine(_,((bI (Dx (i:=2) ml.nd U (Or.inl U) U (rB (zy C4 (pv 0) (xI (pv 1)) (xI bV))) (N':=[ZF]) (.own U .nil) (λ_ _ _ _ _=>((mH (i:=0) (show([ZF]:List Str).Nodup from by decide +kernel) U (Or.inl U)),Dv,(sW (fU U) ap T.wD bi (bX (pv 0) (bX (cR BU bV (pv 0)) dC))))))
 (bI (jG (i:=3) ml.nd U (Or.inl U) (cR oV bV (pv 1)))
 (bI (IZ PassesOwn.never U (rB (pv 2)) (mH (i:=4) ml.nd U (Or.inl U))
 (gx (jG (i:=3) ml.nd U (Or.inl U) (cR iM (cR oV (cR lJ (pv 3) bV) (cR iM (pv 4) bV)) bV))))
 (gx (sQ (DD (mD dB (pv 3) (mD dB bV (mD dB (sV U U T.jZ U T.lQ (DE U (rB (pv 2)) (N':=[ZF]) (.own U .nil) (λ_ _ _ _ _=>((mH (i:=0) (show([ZF]:List Str).Nodup from by decide +kernel) U (Or.inl U)),(Du (mB Ur (pv 0) (cR JD bV bV) (bF _))),(pv 0))))) DB))) U U (by intro z;cases z) ac))))))),?_)
  let(cs,aR,lcs):=KY ns (Z b) (Z 63);refine(_,U,_,U,_,U,_,U,p0,_,U,hS,λp hp=>(p,U,(_,SqL.of az),?_))
  rw[aR];have s1:lV H (upd H p (.lst (cs.map V.int))):=(lV.refl H).new hp;refine wm (K:=K) (a:=p) (xs:=cs.map V.int) (λi ys g H'=>∃zs:List Int,ys=zs.map V.int/\(∀z∈zs,0<=z)/\zs.length=i/\(∃o,g=[o])/\H'=upd H p (.lst (cs.map V.int))) ([],U,ad,U,(_,U),U) ?_ ?_ ?_
  ·rintro i ys g H' hi ⟨zs,rfl,_,hz,_,rfl⟩
   refine(SqL.of az,?_);rw[cO]at hi ⊢;exact aC al
  ·rintro i x ys g H' hi ⟨zs,rfl,z0,hz,⟨o,rfl⟩,rfl⟩
   let(c,U):=int_at hi;refine Ol ?_;refine(_,U,_,U,_,_,U,U,_,_,U,?_);refine(zs++[if 0-c > c then 0-c else c],ad,?_,by simp[hz],(_,U),U)
   intro z ak;obtain h|h:=i6.mp ak
   ·exact z0 z h
   ·rw[d2.mp h]
    split <;> lia
  ·rintro ys g H' ⟨zs,rfl,z0,hz,_,rfl⟩ D hD
   have s2:lV H (upd (upd H p (.lst (cs.map V.int))) D (.lst (zs.map V.int))):=s1.new hD;have ar:(upd (upd H p (.lst (cs.map V.int))) D (.lst (zs.map V.int))) D=Z (.lst (zs.map V.int)):=az
   generalize upd (upd H p (.lst (cs.map V.int))) D (.lst (zs.map V.int))=H2 at s2 ar ⊢
   refine(_,U,_,_,U,U,?_);refine(_,U,D,U,(_,SqL.of ar),Kw (K:=K) (a:=D) (xs:=zs.map V.int) (λi g H'=>∃(n:Int)(o:Option V),g=[Z (.ref p0),Z (.int b),Z (.ref D),Z (.int n),o]/\0<=n/\n<2147483647/\H2=H')
    (_,_,U,al,al,U) (λi g H' _ (_,_,_,_,_,e)=>by rw[<- e];exact SqL.of ar) ?_ ?_)
   ·rintro i y g H' hi ⟨n,o,rfl,n0,n1,rfl⟩
    let(z,U):=int_at hi;refine(_,U,_,_,U,U,.inr (ac,ac),_,U,_,_,U,U,(by show(0:Int)<2147483629;decide),_,_,U,U,_,_,U,U,(by show(0:Int)<2147483647;decide),?_)
    exact(_,_,U,(mod_lt ac).1,(mod_lt ac).2,U)
   ·rintro g H' ⟨n,o,rfl,n0,aQ,rfl⟩
    intro pd av;have Sb:(upd H2 pd (.dK [])) D=Z (.lst (zs.map V.int)):=by rw[au (bg ar av)];exact ar
    have s3:lV H (upd H2 pd (.dK [])):=s2.new av;have R4:(upd H2 pd (.dK [])) pd=Z (.dK []):=az;have aP:H pd=none:=s2.free av
    generalize upd H2 pd (.dK [])=H3 at Sb s3 R4 ⊢
    refine(_,U,_,U,D,U,(_,SqL.of Sb),wm (K:=K) (a:=D) (xs:=zs.map V.int) (λi ys g H'=>∃ws:List Int,ys=ws.map V.int/\(∀z∈ws,0<=z)/\ws.length<=i/\(∃o,g=[o])/\H3=H') ([],U,ad,ka _,(_,U),U) ?_ ?_ ?_)
    ·rintro i ys g H' hi ⟨ws,rfl,_,ak,_,rfl⟩
     refine(SqL.of Sb,?_);rw[cO]at hi ⊢;rw[cO]at hz;exact aC al
    ·rintro i x ys g H' hi ⟨ws,rfl,w0,ak,⟨o,rfl⟩,rfl⟩
     let(c,U,hc):=Oc hi;refine(_,U,_,_,U,U,(ac,ac,ac),_,_,U,U,_,U,?_)
     refine aI (λh1=>?_) (λh1=>?_)
     ·refine(_,U,ws++[c],ad,?_,by simp;lia,(_,U),U)
      intro z ak;obtain h|h:=i6.mp ak
      ·exact w0 z h
      ·rw[d2.mp h];exact z0 c hc
     ·exact(ws,U,w0,al,(_,U),U)
    ·rintro ys g H' ⟨ws,rfl,w0,ak,_,rfl⟩ D2 ay
     refine(D2,_,U,SqL.of az,λq hq=>?_)
     have n1:pd≠D2:=bg R4 ay;have e1:(upd H3 D2 (.lst (ws.map V.int))) pd=Z (.dK []):=by rw[au n1];exact R4
     have n2:pd≠q:=bg e1 hq;have s4:lV H (upd (upd H3 D2 (.lst (ws.map V.int))) q (.lst ((ws.map V.int).reverse))):=(s3.new ay).new hq;refine(by rw[au n2];exact e1,[(.inr "seed",.int n),(.inr "number",.int 0),(.inr "left",.ref q)],U,(by show 3<=15;decide),?_)
     refine k pd q _ aP ((s3.new ay).free hq) (n,0,ws.reverse,az,?_,n0,aQ,E3 _,?_) ?_
     ·rw[au n2.symm,az,Y0]
     ·intro x hx;exact w0 x (hx:)
     ·intro c o hc
      have:c≠pd:=bg hc aP
      rw[au this];exact s4 c o hc
theorem mR(T:Txt K mg a):bf P w K mg base CX0 1 a.gH a.p8 ["kinds","kind"] (spQ K Jg):=by
 refine T.ko.F.okQ iB (λ_ _ _ _ _ _ hr=>?_)
 ·have hu:=bh hr;refine(_,_,((ag (bb (g:=(Tg.tp [2,3])) PassesOwn.never U (eR (Zd (qv 0))) (cJ (aY 2 iB.nd) (aY 3 iB.nd))
 (aj (aT (bH hu (qv 2) (qv 1))
 (aj (aE (Zd (qv 3))))
 aF)))
 (aj (aE (aq ai))))),λts Q h=>?_)
  let(ks,k,U,hq):=h;refine(iR ks,λi q=>(∃o2 o3,q=[.r (tKs ks),.r (.s k),o2,o3])/\∀(j:Nat)(y:Kd),j<i->ks[j]?=Z y->y.1≠k,((_,_,U),λj y hj=>absurd hj (Nat.not_lt_zero _)),?_,?_)
  ·rintro i x q hx ⟨⟨o2,o3,rfl⟩,ak⟩
   rw[fy]at hx;let(kk,hk,U):=gs.mp hx;refine(_,U,?_);refine(U,?_);refine aI (λg1=>?_) (λg1=>?_)
   ·refine(lL _,?_);rw[xX hk (V.str.inj (of_decide_eq_true g1)) ak]at hq;exact hq
   ·refine((_,_,U),λj y hj hy=>?_)
    by_cases e:j=i
    ·subst e;rw[hk]at hy;cases hy;exact λz=>g1 (decide_eq_true (congrArg V.str z))
    ·exact ak j y al hy
  ·rintro q ⟨⟨o2,o3,rfl⟩,ak⟩
   rw[NT λj y hy=>ak j y (by have:=(g5.mp hy).1;simp;omega) hy]at hq
   exact hq
theorem JF(T:Txt K mg a):bf P w K mg base CX0 2 a.rG a.Eg [Zf,Zr] (spQ K M0):=by
 have aR:=fB (@du P w K mg base a T);refine T.EN.F.okQ cn (λ_ _ _ _ _ _ hr=>?_)
 ·have hu:=bh hr;refine(_,_,((ag (aA 2 cn.nd aH)
 (ag (aA 3 cn.nd (MP (Zc aH) (Zc (bD U (oO U T.fe (ae (Zc (aJ aR hr T.a5 (ae (qv 0) (ae ah aw)))) aw)) (N':=[ZA,"_law_letters",Zf]) (.own U (.got (i:=2) U U (.inl U) (.got (i:=0) U U (.inl U) .nil))) (bx (g:=(Tg.nm 0)) (λ_ _ _ _ _=>((ck 0),(Zd (ao (qv 1) (Zc (aJ aR hr T.a5 (ae (qv 2) (ae ah aw)))))))))))))
 (ag (aA 4 cn.nd (aJ aR hr T.a5 (ae (qv 0) (ae (Zc (aS (Zc (bW T.cK (ae (qv 3) aw))) ah)) aw))))
 (ag (aA 5 cn.nd (aJ aR hr T.a5 (ae (qv 0) (ae ah aw))))
 (ag (aA 6 cn.nd (aO ai))
 (ag (bb (g:=(Tg.nm 7)) PassesOwn.never U (fS U T.fe (ae (qv 1) aw)) (aY 7 cn.nd)
 (ag (aA 8 cn.nd (Zd (ao (qv 2) (Zc (Iv (Zc (aS (qv 5) (Zc (fA ah (qv 7))))) ah)))))
 (ag (aA 9 cn.nd (aS (Zc (aS (Zc (aS (Zc (aS (Zc (fh (qv 3) iH (fI (qv 4)))) (qv 8))) (Zc (fh (qv 3) (fI (qv 4)) iH)))) (Zc (fA (Zc aH) (Zc (Iv (qv 7) ah)))))) (Zc (fA (Zc aH) (Zc (Dj (qv 7) ah))))))
 (ag (aT (bG (xQ U) sy U (qv 9) (Zc (aq (my ap))))
 (aj (aA 9 cn.nd (aS (qv 9) (Zc aH))))
 aF)
 (ag (aT (bG (xQ U) sy U (qv 9) (Zc (aq (my ap))))
 (aj (aA 9 cn.nd (aS (qv 9) (Zc aH))))
 aF)
 (aj (bo (i:=6) (pv 6) (Zd (qv 9)))))))))
 (ag (aA 10 cn.nd (aO (my ap)))
 (ag (aA 10 cn.nd (aS (qv 10) (Zc (aO (my ap)))))
 (ag (aA 9 cn.nd (Zd (ao (qv 10) (Zc (aJ aR hr T.a5 (ae (qv 0) (ae ah aw)))))))
 (ag (aT (QPW.pt (BD (bH hu (Zc (aJ aR hr T.a5 (ae (qv 0) (ae ah aw)))) ah) (xx (bG (FP U) sy U (qv 9) (qv 6)))))
 (aj (xA (i:=6) (pv 6) (Zc (aJ aR hr T.a5 (ae (qv 0) (ae (qv 1) aw)))) (qv 9)))
 aF)
 (aj (de (i:=6) (pv 6)))))))))))))),λts Q h=>?_)
  let(m,U,m0,m1,hq):=h;refine(ac,ac,λn n0 n1=>(al,al,aC (by rw[dX];lia),λi ys=>∃cs:List Nat,ys=cs.map (λc=>.s ⟨#[c]⟩)/\cs.length=i,([],U,U),?_,?_))
  ·rintro i x ys hx ⟨cs,rfl,hc⟩
   let(U,hi):=jB hx;refine(_,U,ac,ac,λr r0 r1=>(be,_,DQ r0 r1,U,?_))
   exact(cs++[tI r.toNat],ad,by simp[hc])
  ·rintro ys ⟨cs,rfl,hc⟩
   rw[dX]at hc;have e2:((cs.map (λc=>(⟨#[c]⟩:Str))).map (·.length)).sum=cs.length:=by
    clear hc
    induction cs with
    |nil=>rfl
    |cons c cs ih=>simp only[qS,CD,pq,ih,show(⟨#[c]⟩:Str).length=1 from rfl];lia
   refine(cs.map (λc=>(⟨#[c]⟩:Str)),?_,?_,?_)
   ·rw[<- L0,rS];rfl
   ·rw[e2,show(Str.ofString "").length=0 from by decide +kernel];lia
   have z:=PySem.size_glued (Str.ofString "") (cs.map (λc=>(⟨#[c]⟩:Str)))
   rw[e2,show(Str.ofString "").length=0 from by decide +kernel]at z
   have lz:(Txt.join (Str.ofString "") (cs.map (λc=>(⟨#[c]⟩:Str)))).length<=5:=by
    show(Builtin.Str.glued _ _).length<=5
    lia
   generalize Txt.join (Str.ofString "") (cs.map (λc=>(⟨#[c]⟩:Str)))=core at lz ⊢
   refine(bz al,al,al,λat_ a0 a1=>(ac,ac,λtn t0 t1=>?_))
   have av:(Txt.slice core Y (Z at_)).length<=5:=qR (Txt.slice_le _ _ _) lz;have ar:(Txt.slice core (Z at_) Y).length<=5:=qR (Txt.slice_le _ _ _) lz;have lx:(Str.ofString "x").length=1:=be
   have ly:(Str.ofString "y").length=1:=be
   have lq:(Str.ofString "q").length=1:=be
   refine(al,al,λi q=>(Q4 λo7 o8 o9 L=>q=[.r .cB,.r (.i m),.o (.s x4),.o (.s core),.o (.i at_),.o (.i tn),.o (.l L),o7,o8,o9,.no]/\L=((AK i).map (wordOf kept (Txt.slice core Y (Z at_)) (Txt.slice core (Z at_) Y) tn.toNat)).map .s),(_,_,_,_,U,U),?_,?_)
   ·rintro i x q hx ⟨o7,o8,o9,L,rfl,rfl⟩
    let(U,hi):=jB hx;have hi:i<52:=al
    have e1:∀c:Nat,(⟨#[c]⟩:Str).length=1:=λ_=>rfl
    have eL:tI (((tn+7*(0+(i:Int))) % 26).toNat)=tI (tn.toNat+7*i):=by
     have ht:tn+7*(0+(i:Int))=((tn.toNat+7*i:Nat):Int):=by rw[W5,Int.natCast_add,Yn,V5 t0];rfl
     rw[ht];show 97+(tn.toNat+7*i) % 26 % 26=97+(tn.toNat+7*i) % 26;rw[Nat.mod_mod]
    have r1:=g9 "x" ((0+(i:Int)) % 2).toNat;have r2:=g9 "y" ((0+(i:Int)) / 26).toNat
    replace r1:(jn "x" ((0+(i:Int)) % 2).toNat).length<=1:=by rw[r1,lx,W5];exact(show i % 2*1<=1 from by rw[Nat.mul_one];exact Xz (YE i ac))
    replace r2:(jn "y" ((0+(i:Int)) / 26).toNat).length<=1:=by rw[r2,ly,W5];exact(show i / 26*1<=1 from by rw[Nat.mul_one];exact Xz (Nat.div_lt_of_lt_mul hi))
    refine(_,U,.inl (al,al),(by show(0:Int)<26;decide),be,_,DQ (mod_lt ac).1 (mod_lt ac).2,U,?_)
    refine(bz al,bz (by rw[e1];lia),bz al,bz (by rw[Str.length_append,e1];lia),(by show(0:Int)<2;decide),al,al,al,bz (by rw[Str.length_append,Str.length_append,e1];lia),(ac,ac),al,al,al,bz (by rw[Str.length_append,Str.length_append,Str.length_append,e1];lia),?_)
    have eW:Txt.slice core Y (Z at_)++⟨#[tI (((tn+7*(0+(i:Int))) % 26).toNat)]⟩++Txt.slice core (Z at_) Y++jn "x" ((0+(i:Int)) % 2).toNat++jn "y" ((0+(i:Int)) / 26).toNat=dM (Txt.slice core Y (Z at_)) (Txt.slice core (Z at_) Y) tn.toNat i:=by
     unfold dM;rw[eL,show((0+(i:Int)) % 2).toNat=i % 2 from by rw[W5];rfl,show((0+(i:Int)) / 26).toNat=i / 26 from by rw[W5];rfl]
    have lW:=wB (Txt.slice core Y (Z at_)) (Txt.slice core (Z at_) Y) tn.toNat i;rw[eW];have snoc:∀z:Str,z=wordOf kept (Txt.slice core Y (Z at_)) (Txt.slice core (Z at_) Y) tn.toNat i ->
      ((AK i).map (wordOf kept (Txt.slice core Y (Z at_)) (Txt.slice core (Z at_) Y) tn.toNat)).map L2.T.s++[L2.T.s z]=((AK (i+1)).map (wordOf kept (Txt.slice core Y (Z at_)) (Txt.slice core (Z at_) Y) tn.toNat)).map L2.T.s:=λz hz=>by
     subst hz;rw[Yq];simp
    have ln:(((AK i).map (wordOf kept (Txt.slice core Y (Z at_)) (Txt.slice core (Z at_) Y) tn.toNat)).map L2.T.s).length<kf:=aC (by simp;lia)
    refine(ap,aI (λg1=>?_) (λg1=>?_))
    ·have g1:inV (.str (dM (Txt.slice core Y (Z at_)) (Txt.slice core (Z at_) Y) tn.toNat i)) (z8.map V.str)=true:=by rw[<- gb];exact g1
     refine(bz (by rw[lq];lia),ap,aI (λg2=>?_) (λ_=>?_))
     ·have g2:inT (.s (dM (Txt.slice core Y (Z at_)) (Txt.slice core (Z at_) Y) tn.toNat i++("q":Str))) (kW.map L2.T.s)=true:=g2;rw[gb,Rx]at g2;cases g2
     exact(ln,U,_,_,_,_,U,snoc (dM (Txt.slice core Y (Z at_)) (Txt.slice core (Z at_) Y) tn.toNat i++("q":Str)) (by unfold wordOf;rw[lK,g1,Bool.true_or,if_pos rfl]))
    ·have g1:inV (.str (dM (Txt.slice core Y (Z at_)) (Txt.slice core (Z at_) Y) tn.toNat i)) (z8.map V.str)=false:=by
      cases e:inV (.str (dM (Txt.slice core Y (Z at_)) (Txt.slice core (Z at_) Y) tn.toNat i)) (z8.map V.str)with
      |false=>rfl
      |true=>rw[<- gb]at e;exact absurd e g1
     refine(ap,aI (λg2=>?_) (λg2=>?_))
     ·have g2:inV (.str (dM (Txt.slice core Y (Z at_)) (Txt.slice core (Z at_) Y) tn.toNat i)) (kW.map V.str)=true:=by rw[<- gb];exact g2
      exact(bz (by rw[lq];lia),ln,U,_,_,_,_,U,snoc (dM (Txt.slice core Y (Z at_)) (Txt.slice core (Z at_) Y) tn.toNat i++("q":Str)) (by unfold wordOf;rw[lK,g1,g2,YA,if_pos rfl]))
     ·have g2:inV (.str (dM (Txt.slice core Y (Z at_)) (Txt.slice core (Z at_) Y) tn.toNat i)) (kW.map V.str)=false:=by
       cases e:inV (.str (dM (Txt.slice core Y (Z at_)) (Txt.slice core (Z at_) Y) tn.toNat i)) (kW.map V.str)with
       |false=>rfl
       |true=>rw[<- gb]at e;exact absurd e g2
      exact(ln,U,_,_,_,_,U,snoc (dM (Txt.slice core Y (Z at_)) (Txt.slice core (Z at_) Y) tn.toNat i) (by unfold wordOf;rw[lK,g1,g2,YA,if_neg ac,Str.append_empty]))
   ·rintro q ⟨o7,o8,o9,L,rfl,rfl⟩
    rw[dX];have nd:((AK m.toNat).map (wordOf kept (Txt.slice core Y (Z at_)) (Txt.slice core (Z at_) Y) tn.toNat)).Nodup:=nodup_range λi j hi hj aP=>EW al al aP
    have wl:∀w∈(AK m.toNat).map (wordOf kept (Txt.slice core Y (Z at_)) (Txt.slice core (Z at_) Y) tn.toNat),1<=w.length/\w.length<=20:=λw hw=>by
     let(i,hi,U):=j0.mp hw;exact A4 av ar (by have:=SR.mp hi;lia)
    have ll:((AK m.toNat).map (wordOf kept (Txt.slice core Y (Z at_)) (Txt.slice core (Z at_) Y) tn.toNat)).length=m.toNat:=by simp
    generalize(AK m.toNat).map (wordOf kept (Txt.slice core Y (Z at_)) (Txt.slice core (Z at_) Y) tn.toNat)=ws at nd wl ll
    refine(bz ac,ap,ap,ac,ac,λr r0 r1=>?_)
    let(wd,ew,hm):=OE (ws:=near) r0 r1;refine(_,ew,U,ac,ac,λr3 _ _=>(U,?_))
    have done:Q (.l (ws.map .s)):=hq ws al nd wl
    refine aI (λ_=>?_) (λ_=>V4 done)
    refine(by rw[t9];rfl,aI (λh2=>?_) (λ_=>done))
    have ay:wd ∉ ws:=Od (by rw[<- gb];simpa using h2)
    refine(m0,al,λr4 ak aQ=>(r4.toNat,?_,aX ws,U,?_))
    ·unfold ixN;rw[if_pos ak,if_pos (by rw[cO];lia)]
    ·have z:=hq (ws.set r4.toNat wd) (by rw[WE];lia) (F4 nd ay) λw hw=>by
      obtain z|z:=W9 hw
      ·exact wl w z
      ·rw[z];exact JO wd hm
     rw[YS]at z;exact z
theorem JJ(T:Txt K mg a):bf P w K mg base CX0 2 a.rO a.En [Zf,Zv] (spQ K M8):=by
 have aR:=fB (@du P w K mg base a T);refine T.ES.F.okQ cD (λ_ _ _ _ _ _ hr=>?_)
 ·have hu:=bh hr;refine(_,_,((ag (aA 2 cD.nd (aJ aR hr T.a5 (ae (qv 0) (ae ah aw))))
 (ag (Qu (i:=3) (j:=4) U cD.nd U U ac U U (ao (qv 1) ah) (ao (qv 1) ah) U)
 (ag (aA 5 cD.nd (aS (Zc (fh (qv 1) (fI ah) iH)) (Zc (fh (qv 1) iH (fI ah)))))
 (ag (aT (bH hu (qv 2) ah)
 (aj (aE (aq (af (aq (af (Zd (qv 3)) (af (aq (af (aq (af (Zd (ao (qv 5) ah)) (af (aq ai) ai))) (af (aq (af (Zd (ao (qv 5) ah)) (af (aq (af (Zd (qv 3)) ai)) ai))) ai))) ai))) ai))))
 aF)
 (ag (aT (bH hu (qv 2) ah)
 (aj (aE (aq (af (aq (af (Zd (qv 3)) (af (aq (af (aq (af (Zd (ao (qv 5) ah)) (af (aq ai) ai))) (af (aq (af (Zd (ao (qv 5) ah)) (af (aq (af (Zd (qv 3)) ai)) ai))) (af (aq (af (Zd (ao (qv 5) ah)) (af (aq (af (Zd (qv 3)) ai)) ai))) ai)))) ai))) ai))))
 aF)
 (ag (aT (bH hu (qv 2) ah)
 (aj (aE (aq (af (aq (af (Zd (qv 3)) (af (aq (af (aq (af (Zd (ao (qv 5) ah)) (af (aq ai) ai))) (af (aq (af (Zd (ao (qv 5) ah)) (af (aq ai) ai))) ai))) ai))) (af (aq (af (Zd (qv 4)) (af (aq (af (aq (af (Zd (ao (qv 5) ah)) (af (aq ai) ai))) (af (aq (af (Zd (ao (qv 5) ah)) (af (aq (af (Zd (qv 3)) (af (Zd (qv 4)) ai))) ai))) ai))) ai))) ai)))))
 aF)
 (ag (aT (bH hu (qv 2) ah)
 (aj (aE (aq (af (aq (af (Zd (qv 3)) (af (aq (af (aq (af (Zd (ao (qv 5) ah)) (af (aq ai) ai))) (af (aq (af (Zd (ao (qv 5) ah)) (af (aq (af (Zd (qv 3)) (af (Zd (qv 3)) ai))) ai))) ai))) ai))) ai))))
 aF)
 (ag (aT (bH hu (qv 2) ah)
 (aj (aE (aq (af (aq (af (Zd (qv 3)) (af (aq (af (aq (af (Zd (ao (qv 5) ah)) (af (aq ai) ai))) (af (aq (af (Zd (ao (qv 5) ah)) (af (aq (af (Zd (qv 4)) ai)) ai))) ai))) ai))) (af (aq (af (Zd (qv 4)) (af (aq (af (aq (af (Zd (ao (qv 5) ah)) (af (aq (af (Zd (qv 3)) ai)) ai))) ai)) ai))) ai)))))
 aF)
 (ag (aA 6 cD.nd (aO ai))
 (ag (aA 7 cD.nd (aS ah (Zc (aJ aR hr T.a5 (ae (qv 0) (ae ah aw))))))
 (ag (aA 8 cD.nd br)
 (ag (bb (g:=(Tg.nm 9)) PassesOwn.never U (fS U T.fe (ae (qv 7) aw)) (aY 9 cD.nd)
 (ag (aA 10 cD.nd (aO ai))
 (ag (bb (g:=(Tg.nm 11)) PassesOwn.never U (fS U T.fe (ae (Zc (aS ah (Zc (aJ aR hr T.a5 (ae (qv 0) (ae (Zc (iI (aO (af br (af br ai))) (Zc (aL kD qV ap T.AB bi (ae (Zc (jE (xR hu U) qW (bF _) (qv 7) ah)) aw))))) aw)))))) aw)) (aY 11 cD.nd)
 (ag (aA 12 cD.nd (fA (Zc (aJ aR hr T.a5 (ae (qv 0) (ae (Zc (iI (aO (af br (af br (af br ai)))) (Zc (aJ aR hr T.a5 (ae (qv 0) (ae ah aw)))))) aw)))) (Zc (aL kD qV ap T.AB bi (ae (Zc (jE DI (oE (g':=λi j=>.b (decide (j<i))) λ_ _ _ _=>.b _) (bF _) (Zc (aS (qv 9) (qv 11))) ah)) aw)))))
 (ag (dY (i:=13) cD.nd U (Or.inl U) U (oO U T.fe (ae (qv 12) aw)) (N':=["_law_i",Zv,Zf,Zr]) (.own U (.got (i:=1) U U (.inl U) (.got (i:=0) U U (.inl U) (.got (i:=7) U U (.inl U) .nil)))) (bx (g:=(Tg.nm 0)) (λ_ _ _ _ _=>((ck 0),(Zd (ao (qv 1) (Zc (aJ aR hr T.a5 (ae (qv 2) (ae (qv 3) aw))))))))))
 (ag (bo (i:=10) (pv 10) (aq (af (Zd (ao (qv 5) (qv 8))) (af (aL (bK U) bS ap T.cH bi (ae (qv 13) aw)) ai))))
 (aj (aA 8 cD.nd (aS (qv 8) ah)))))))
 (aj (bo (i:=6) (pv 6) (aq (af (Zd (ao (qv 1) (qv 9))) (af (aL (bK U) bS ap T.cH bi (ae (qv 10) aw)) ai))))))))
 (aj (aE (aL (bK U) bS ap T.cH bi (ae (qv 6) aw))))))))))))))))),λts Q h=>?_)
  let(ws,U,hl,aV,hq):=h;obtain⟨x0,V,wr,rfl⟩:∃x0 V wr,ws=x0::V::wr:=by
   cases ws with
   |nil=>cases hl
   |cons x0 r=>cases r with
    |nil=>cases hl
    |cons V wr=>exact(x0,V,wr,U)
  have cf:atI ((x0::V::wr).map L2.T.s) 0=Z (.s x0):=f9 (j:=0) U;have b0:atI ((x0::V::wr).map L2.T.s) 1=Z (.s V):=f9 (j:=1) U;refine(ac,ac,λfm f0 f1=>(_,cf,U,_,b0,U,aX _,aX _,?_))
  have hM:((x0::V::wr).drop 4++(x0::V::wr).take 4).Nodup:=Fo aV;have lM:((x0::V::wr).drop 4++(x0::V::wr).take 4).length=40:=by rw[i5,QX,p7];lia
  refine(bz (by have:=congrArg Ez (U8 hl);rw[i5,cO]at this;lia),DW _ _ _,DW _ _ _,?_)
  rw[U8 hl];have aQ:∀x∈(x0::V::wr).drop 4++(x0::V::wr).take 4,x∈x0::V::wr:=λx hx=>(i6.mp hx).elim Yx Fs
  generalize(x0::V::wr).drop 4++(x0::V::wr).take 4=M at hM lM aQ
  obtain⟨m0,m1,m2,m3,mr,rfl⟩:∃m0 m1 m2 m3 mr,M=m0::m1::m2::m3::mr:=by
   match M,lM with
   |m0::m1::m2::m3::mr,_=>exact(m0,m1,m2,m3,mr,U)
  have t0:atI ((m0::m1::m2::m3::mr).map L2.T.s) 0=Z (.s m0):=f9 (j:=0) U;have t1:atI ((m0::m1::m2::m3::mr).map L2.T.s) 1=Z (.s m1):=f9 (j:=1) U;have t2:atI ((m0::m1::m2::m3::mr).map L2.T.s) 2=Z (.s m2):=f9 (j:=2) U;have t3:atI ((m0::m1::m2::m3::mr).map L2.T.s) 3=Z (.s m3):=f9 (j:=3) U;have bN:3 <=(x0::V::wr).length:=al
  have ay:∀(ks:List Kd)(n made:Nat),uz (x0::V::wr) (m0::m1::m2::m3::mr) n ks n made->1<=n->n<=3->Q (tKs ks):=λks n made D n1 n3=>hq ks (D.good aV hM n1 n3 bN) λx hx=>aQ x (Fs (D.mn▸hx))
  have a1:x0∈(x0::V::wr).take 1:=j2;have a2:x0∈(x0::V::wr).take 2:=j2;have b2:V∈(x0::V::wr).take 2:=j1 _ j2;refine(U,aI (λ_=>?_) (λ_=>?_))
  ·refine(U,_,t0,U,_,t1,U,U,?_);exact ay [(x0,[(m0,[]),(m1,[x0])])] 1 2 (U,U,ac,all1 (W6 _ _,leK 2 6),all1 (all2 (leK 0 4,Cw) (leK 1 4,all1 a1))) ac ac
  refine(U,aI (λ_=>?_) (λ_=>?_))
  ·refine(U,_,t0,U,_,t1,U,U,_,t2,U,U,?_);exact ay [(x0,[(m0,[]),(m1,[x0]),(m2,[x0])])] 1 3 (U,U,ac,all1 (W6 _ _,leK 3 6),all1 (Wy (leK 0 4,Cw) (leK 1 4,all1 a1) (leK 1 4,all1 a1))) ac ac
  refine(U,aI (λ_=>?_) (λ_=>?_))
  ·refine(U,_,t0,U,_,t1,U,U,_,t2,U,_,t3,U,U,U,?_);exact ay [(x0,[(m0,[]),(m1,[])]),(V,[(m2,[]),(m3,[x0,V])])] 2 4 (U,U,ac,all2 (W6 _ _,leK 2 6) (W6 _ _,leK 2 6),all2 (all2 (leK 0 4,Cw) (leK 0 4,Cw)) (all2 (leK 0 4,Cw) (leK 2 4,all2 a2 b2))) ac ac
  refine(U,aI (λ_=>?_) (λ_=>?_))
  ·refine(U,_,t0,U,_,t1,U,U,U,?_);exact ay [(x0,[(m0,[]),(m1,[x0,x0])])] 1 2 (U,U,ac,all1 (W6 _ _,leK 2 6),all1 (all2 (leK 0 4,Cw) (leK 2 4,all2 a1 a1))) ac ac
  refine(U,aI (λ_=>?_) (λ_=>?_))
  ·refine(U,_,t0,U,_,t1,U,U,U,_,t2,U,U,?_);exact ay [(x0,[(m0,[]),(m1,[V])]),(V,[(m2,[x0])])] 2 3 (U,U,ac,all2 (W6 _ _,leK 2 6) (W6 _ _,leK 1 6),all2 (all2 (leK 0 4,Cw) (leK 1 4,all1 b2)) (all1 (leK 1 4,all1 a2))) ac ac
  clear t0 t1 t2 t3 cf b0 ay a1 a2 b2 bN
  generalize dd:m0::m1::m2::m3::mr=M at hM lM aQ ⊢
  generalize dc:x0::V::wr=ws at aV hl aQ hq ⊢
  refine(ac,ac,λr2 c6 c5=>?_)
  refine(al,al,λi q=>Z8 λks made L o9 a0 av ar ak=>q=[.r .cB,.r (.l (ws.map .s)),.o (.i fm),.o (.s x0),.o (.s V),.o (.l (M.map .s)),.o (.l L),.o (.i (1+r2)),.o (.i (made:Nat)),o9,a0,av,ar,ak]/\L=ks.map tK/\uz ws M (1+r2).toNat ks i made,
   ([],0,_,_,_,_,_,_,U,U,(U,U,ka _,bY,bY)),?_,?_)
  ·rintro i x q hx ⟨ks,made,L,o9,a0,av,ar,ak,rfl,rfl,D⟩
   let(U,hi):=jB hx;have c0:=D.b1;have c8:ks.length=i:=by
    have:=congrArg Ez D.nm
    rw[cO,p7,OW al]at this
    exact this
   have bM:i<ws.length:=al
   refine(_,U,U,_,Ul 3 6 _,?_,?_,λr5 c4 cK=>?_)
   ·split <;> decide
   ·split <;> decide
   have c3:r5<6:=by split at cK <;> lia
   refine(al,al,λj q=>Z6 λms fZ L' av ar ak=>q=[.r .cB,.r (.l (ws.map .s)),.o (.i fm),.o (.s x0),.o (.s V),.o (.l (M.map .s)),.o (.l (ks.map tK)),.o (.i (1+r2)),.o (.i (fZ:Nat)),.r (.i (0+(i:Nat))),.o (.l L'),av,ar,ak]/\L'=ms.map tM/\ms.length=j/\fZ=made+j/\M.take made++ms.map (·.1)=M.take fZ/\(∀m∈ms,m.2.length<=4/\∀f∈m.2,f∈ws.take (1+r2).toNat),
    ([],made,_,_,_,_,U,U,U,U,ad,nofun),?_,?_)
   ·rintro j x q hx ⟨ms,fZ,L',av,ar,ak,rfl,rfl,aP,bp,a3,bj⟩
    let(U,hj):=jB hx;refine(_,U,ac,ac,λr6 cu ct=>?_)
    let(v,ev,hv):=Pq (x:=3) (y:=3) (z:=5) cu ct;refine(_,ev,al,al,λr7 c2 c1=>?_)
    refine(.inl (al,al),?_)
    have cL:∀b:Bool,0<=r7*(if b=O then 1 else 0)/\r7*(if b=O then 1 else 0)<=4:=λb=>by cases b <;> simp <;> lia
    let(w0,w4):=cL (decide (0<0+(i:Int)+(0+(j:Int))))
    generalize da:r7*(if decide (0<0+(i:Int)+(0+(j:Int)))=O then 1 else 0)=wide at w0 w4 ⊢
    refine(al,al,aC (by rw[dX];lia),λp ys=>∃fs:List Str,ys=fs.map .s/\fs.length=p/\∀f∈fs,f∈ws.take (1+r2).toNat,([],U,U,bY),?_,?_)
    ·rintro p x ys hx ⟨fs,rfl,lf,hf⟩
     let(U,hp):=jB hx;refine(_,U,al,al,λr8 cm cg=>?_)
     have h8:r8.toNat<ws.length:=al
     have e8:atI (ws.map L2.T.s) r8=Z (.s ws[r8.toNat]):=by
      have:=f9 (ws:=ws) (j:=r8.toNat) (w:=ws[r8.toNat]) (by simp[h8])
      rwa [V5 cm]at this
     refine(_,e8,U,fs++[ws[r8.toNat]],ad,by simp[lf],λf cT=>?_)
     obtain h|h:=i6.mp cT
     ·exact hf f h
     ·rw[d2.mp h];exact List.mem_take_iff_getElem.mpr (r8.toNat,Y5.mpr ((Int.toNat_lt_toNat al).mpr cg,h8),U)
    ·rintro ys ⟨fs,rfl,lf,hf⟩
     rw[dX]at lf;have cS:i<=2:=Xz (ro hi (YL.mpr (show 1+r2<=3 by omega)))
     have cP:j<=5:=Xz (ro hj (YL.mpr (show 1+r5<=6 by omega)))
     have PC:fZ<M.length:=by rw[bp,lM];exact W8 (Nat.add_le_add (qR c0 (Nat.mul_le_mul_left 6 cS)) cP) ac
     have em:atI (M.map L2.T.s) ((fZ:Nat):Int)=Z (.s M[fZ]):=f9 (by simp[PC])
     refine(aC (by rw[cO];lia),_,em,U,aX _,?_)
     refine(ms++[(M[fZ],fs)],fZ+1,_,_,_,_,U,by simp[tM],by simp[aP],al,?_,λm hm=>?_)
     ·rw[j3,<- u6,a3];exact take_one (by simp[PC])
     ·obtain h|h:=i6.mp hm
      ·exact bj m h
      ·rw[d2.mp h];exact(by show fs.length<=4;lia,hf)
   ·rintro q ⟨ms,fZ,L',av,ar,ak,rfl,rfl,aP,bp,a3,bj⟩
    rw[dX]at aP bp;have ei:atI (ws.map L2.T.s) (0+((i:Nat):Int))=Z (.s ws[i]):=by rw[W5];exact f9 (by simp[bM])
    refine(aC (by rw[cO];lia),_,ei,U,aU DZ _,?_)
    refine(ks++[(ws[i],ms)],fZ,_,_,_,_,_,_,U,by simp[tK,tMs],D.next (by simp[bM]) a3 (λz=>?_) al al bj)
    rw[z]at aP;simp at aP
    lia
  ·rintro q ⟨ks,made,L,o9,a0,av,ar,ak,rfl,rfl,D⟩
   rw[dX]at D;refine(aU wb _,?_);exact hq ks (D.good aV hM al al al) λx hx=>aQ x (Fs (D.mn▸hx))
theorem DK(T:Txt K mg a):bf P w K mg base CX0 2 a.yn a.KO [Zf,Zk,Zy] (spQ K BN):=by
 refine T.uS.F.okQ qY (λ_ _ _ _ _ _ hr=>?_)
 ·have hu:=bh hr;refine(_,_,((ag (aA 3 qY.nd (aO ai))
 (ag (bb (g:=(Tg.nm 4)) PassesOwn.never U (Im (i:=2) (pv 2)) (aY 4 qY.nd)
 (ag (dY (i:=5) qY.nd U (Or.inl U) U (eZ (qv 1)) (N':=[ZR,ZH,Zm]) (.own U (.own U (.got (i:=4) U U (.inl U) .nil))) (xF (g:=(Tg.tp [0,1])) (λ_ _ _ _ _=>((cJ (ck 0) (ck 1)),(bH hu (qv 1) (qv 2)),(Zd (qv 0))))))
 (ag (aT (bH hu (qv 5) (Zc (aO ai)))
 (aj (aE cz))
 aF)
 (aj (bo (i:=3) (pv 3) (Zd (ao (qv 5) (Zc (bA (fU U) oC ap T.wD bi (ae (Zc (aJ (fB (du T)) hr T.a5 (ae (qv 0) (ae (Zc (bW T.cK (ae (qv 5) aw))) aw)))) (ae (Zc (aJ (fB (du T)) hr T.a5 (ae (qv 0) (ae (Zc (bW T.cK (ae (qv 5) aw))) aw)))) aw)))))))))))
 (aj (aE (aL (bK U) bS ap T.cH bi (ae (qv 3) aw))))))),λts Q h=>?_)
  let(sc,fs,t,ht,U,aQ,aV,hn,hq):=h;obtain rfl|rfl:=ht
  all_goals
   refine(λi q=>Q4 λns o4 o5 L=>q=[.r .cB,.r (.l (sc.map tP)),.r _,.o (.l L),o4,o5]/\L=ns.map .s/\Fills sc ns (fs.take i),([],_,_,_,U,U,U,bY),?_,?_)
   ·rintro i x q hx ⟨ns,o4,o5,L,rfl,rfl,hF⟩
    rw[fy]at hx;let(f,hf,U):=gs.mp hx;have aR:i<fs.length:=(g5.mp hf).1;refine(_,U,aC (by rw[cO];lia),λk ys=>∃os:List Str,ys=os.map .s/\os.length<=k/\∀n∈os,(n,f)∈sc,([],U,ka _,bY),?_,?_)
    ·rintro k x ys hx ⟨os,rfl,lo,ho⟩
     rw[fy]at hx;let(p,hp,U):=gs.mp hx;refine(_,U,U,aI (λe=>(U,os++[p.1],ad,by simp;lia,λn hn=>?_)) (λ_=>(os,U,al,ho)))
     obtain h|h:=i6.mp hn
     ·exact ho n h
     ·rw[d2.mp h];have e':(L2.T.s p.2).v=(L2.T.s f).v:=(e:)
      have e2:p.2=f:=V.str.inj e';rw[<- e2];exact gV hp
    ·rintro ys ⟨os,rfl,lo,ho⟩
     rw[cO]at lo;refine(by rw[t9];rfl,aI (λ_=>hn) (λav=>?_))
     have l0:0<os.length:=by
      cases os with
      |nil=>exact absurd U av
      |cons _ _=>simp
     have ln:ns.length=i:=by rw[hF.1,p7];lia
     have ak:((os.map L2.T.s).length:Int)=os.length:=by rw[cO]
     refine(aC (by rw[cO];lia),by rw[ak];lia,by rw[ak];lia,λr r0 r1=>(by rw[ak];lia,by rw[ak];lia,λr' aP ar=>?_))
     rw[ak]at r1 ar;have hm:∃m:Int,(if r' > r then r' else r)=m/\0<=m/\m<os.length:=(_,U,by split <;> lia,by split <;> lia)
     let(m,em,m0,m1):=hm;have ay:m.toNat<os.length:=al
     refine(.s os[m.toNat],(by show atI (os.map L2.T.s) (if r' > r then r' else r)=_;rw[em];exact Ss m0 ay),U,ns++[os[m.toNat]],_,_,_,U,ad,?_)
     rw[<- take_one hf];exact hF.snoc (ho _ (SK _))
   ·rintro q ⟨ns,o4,o5,L,rfl,rfl,hF⟩
    rw[cO,mu]at hF;exact(aX _,hq ns hF)
theorem JK(T:Txt K mg a):bf P w K mg base CX0 3 a.rP a.Eo [Zf,Zp,Zk,Zm,Zi] (spQ K rA):=by
 refine T.yO.F.okQ dm (λ_ _ _ _ _ _ hr=>?_)
 ·have hu:=bh hr;refine(_,_,((ag (xy (g:=(Tg.tp [5,6,7])) (i:=1) (pv 1) (iL (K:=K) (n:=3) U U (bB (aY 5 dm.nd) (bB (aY 6 dm.nd) (bB (aY 7 dm.nd) iK)))))
 (ag (aA 8 dm.nd (aJ (DK T) hr T.uS (ae (qv 0) (ae (qv 2) (ae (Zc (aO (af (Zd (qv 3)) ai))) aw)))))
 (ag (aT (bG mL js (bF _) (qv 8) (Zc cz))
 (aj (aE (aq (af aH (af (Zd (ao (qv 8) ah)) ai)))))
 aF)
 (ag (aA 9 dm.nd (Zd (ao (qv 7) (Zc (bW T.cK (ae (qv 2) aw))))))
 (ag (bb (g:=(Tg.tp [10,11])) PassesOwn.never U (eR (Zd (cG (Zc (aL (cv U) cY ap T.eB bi (ae (qv 5) aw))) (qv 3)))) (cJ (aY 10 dm.nd) (aY 11 dm.nd))
 (ag (aA 12 dm.nd (aJ (DK T) hr T.uS (ae (qv 0) (ae (qv 2) (ae (qv 11) aw)))))
 (aj (aT (bG mL js (bF _) (qv 12) (Zc cz))
 (aj (aE (aq (af aH (af (Zd (qv 9)) (af (Zd (qv 10)) (af (Zd (qv 12)) (af (aq (af aH (af (Zd (qv 9)) ai))) ai))))))))
 aF))))
 (ag (aA 12 dm.nd (aL (bK U) bS ap T.cH bi (ae (Zc (bD U (eZ (Zc (fh (qv 2) iH (fI (Zc (bW T.cK (ae (ao (ao (qv 6) (qv 4)) ah) aw))))))) (N':=[ZR,ZH]) (.own U (.own U .nil)) (bx (g:=(Tg.tp [0,1])) (λ_ _ _ _ _=>((cJ (ck 0) (ck 1)),(Zd (qv 0))))))) aw)))
 (aj (aE (aq (af aH (af (Zd (qv 9)) (af (Zd (ao (ao (qv 6) (qv 4)) ah)) (af (Zd (qv 12)) (af (aq (af aH (af (Zd (qv 9)) ai))) ai))))))))))))))),λts Q hh=>?_)
  let(ks,hs,ws,sc,f,h,U,W,hf,S,hq):=hh;have Og:h∈hs:=gV hf;let(a0,aV,aR,aP):=W.hp h Og;have ef:atI (hs.map tH) (f:Int)=Z (tH h):=bc (by rw[fy,hf];rfl)
  have ay:sc.length<ws.length:=by have:=S.ln;have:=W.wl;omega
  have ex:atI (ws.map L2.T.s) ((sc.map tP).length:Int)=Z (.s ws[sc.length]):=by rw[cO];exact f9 (dN ay)
  have fx:ws[sc.length] ∉ sc.map (·.1):=S.fresh W.wn (dN ay)
  generalize ws[sc.length]=x at ex fx
  refine(_,U,U,sc,[h.2.2],_,.inr U,U,by have:=S.ln;omega,by show 1<=1000;decide,?_,λns hF=>?_)
  ·let(kd,av,ek):=Py aP;refine(_,ex,U,aU wb ks,_,mJ ks,_,pe W.gk.nd aP,lL _,λi q=>P3 λar ak V=>q=[.r .cB,.r (tW ks hs ws),.r (.l (sc.map tP)),.r (.s h.2.2),.r (.i f),.r (tKs ks),.r (.l (hs.map tH)),.r (.l (ws.map .s)),.o .n,.o (.s x),ar,ak,V],(_,_,_,U),?_,?_)
   ·rintro i t q hx ⟨ar,ak,V,rfl⟩
    rw[fy]at hx;let(m,hm,U):=gs.mp hx;have aQ:m∈kd.2:=by rw[<- zU W.gk.nd av,ek];exact gV hm
    refine(_,U,sc,m.2,_,.inl U,U,by have:=S.ln;omega,by have:=(W.gk.fl kd av m aQ).1;omega,(_,_,_,U),λns hF=>?_)
    refine(U,U,aX _,U,hq 2 _ ac (.make av aQ hF fx (.give ?_)) (nt uf (ka _)))
    rw[ek];simp
   ·rintro q ⟨ar,ak,V,rfl⟩
    have ec:fj (sc.map tP) Y (Z ((h.2.1.map tP).length:Int))=h.2.1.map tP:=by rw[cO,KW (by rw[cO];exact S.p1),<- XI,S.pf]
    refine(_,ef,_,U,aU d6 _,?_);rw[ec];refine(aC (by rw[cO];omega),λi ys=>ys=((h.2.1.take i).map (·.1)).map .s,U,?_,?_)
    ·rintro i t ys hx rfl
     rw[fy]at hx;let(p,hp,U):=gs.mp hx;refine(_,U,U,?_);show _++[L2.T.s p.1]=_;rw[pM,hp];simp
    ·rintro ys rfl
     rw[cO,mu];refine(aX _,U,_,ef,_,U,U,aX _,U,hq 2 _ ac (.call Og ?_ fx (.give ad)) (nt uf (ka _)))
     have z:=Fills.self (sc:=sc) (n:=h.2.1.length)
     rwa [S.pf]at z
  ·obtain⟨n,rfl⟩:∃n,ns=[n]:=by
    match ns,hF.1 with
    |[n],_=>exact(n,U)
   exact(_,U,U,hq 1 _ ac (.give (hF.2 (n,h.2.2) ad)) uf)
theorem NM(T:Txt K mg a)(N:Nat)(i7:bf P w K mg base CX0 (2*N+3) a.ub a.Cr [Zf,Zp,Zk,Zi,Zh] (spQ K (lH N))):bf P w K mg base CX0 (2*N+4) a.yq a.KR [Zf,Zp,Zk,Zi,Zh] (spQ K (Rg N)):=by
 refine T.LC.F.okQ dt (λ_ _ _ _ _ _ hr=>?_)
 ·have hu:=bh hr;refine(_,_,((ag (xy (g:=(Tg.tp [5,6,7])) (i:=1) (pv 1) (iL (K:=K) (n:=3) U U (bB (aY 5 dt.nd) (bB (aY 6 dt.nd) (bB (aY 7 dt.nd) iK)))))
 (ag (lE (g:=(Tg.tp [8,9])) (ao (qv 2) (Zc (bA (fU U) oC ap T.wD bi (ae (Zc (aJ (fB (du T)) hr T.a5 (ae (qv 0) (ae (Zc (bW T.cK (ae (qv 2) aw))) aw)))) (ae (Zc (aJ (fB (du T)) hr T.a5 (ae (qv 0) (ae (Zc (bW T.cK (ae (qv 2) aw))) aw)))) aw))))) (cJ (aY 8 dt.nd) (aY 9 dt.nd)))
 (ag (aA 10 dt.nd (Zd (cG (Zc (aL (cv U) cY ap T.eB bi (ae (qv 5) aw))) (qv 9))))
 (ag (ze (i:=4) (pv 4) (pv 4) (Zc (bW T.cK (ae (qv 10) aw))))
 (ag (aA 11 dt.nd (aO ai))
 (ag (bb (g:=(Tg.tp [12,13])) PassesOwn.never U (eR (Zd (qv 10))) (cJ (aY 12 dt.nd) (aY 13 dt.nd))
 (ag (dY (i:=14) dt.nd U (Or.inl U) U (xC U T.bp bi (ae (qv 13) aw)) (N':=[ZA,ZB,Zv,Zk]) (.own U (.own U (.got (i:=7) U U (.inl U) (.got (i:=2) U U (.inl U) .nil)))) (bx (g:=(Tg.tp [0,1])) (λ_ _ _ _ _=>((cJ (ck 0) (ck 1)),(aq (af (Zd (ao (qv 2) (Zc (aS (Zc (bW T.cK (ae (qv 3) aw))) (qv 0))))) (af (Zd (qv 1)) ai)))))))
 (ag (aA 15 dt.nd (aL (bK U) bS ap T.cH bi (ae (Zc (bD U (eZ (qv 14)) (N':=[ZR,ZB]) (.own U (.own U .nil)) (bx (g:=(Tg.tp [0,1])) (λ_ _ _ _ _=>((cJ (ck 0) (ck 1)),(Zd (qv 0))))))) aw)))
 (aj (bo (i:=11) (pv 11) (aq (af (Zd (qv 12)) (af (Zd (qv 15)) (af (aJ i7 hr T.l5 (ae (qv 0) (ae (qv 1) (ae (Zc (aS (qv 2) (qv 14))) (ae (qv 3) (ae (qv 4) aw)))))) ai)))))))))
 (aj (aE (aq (af aH (af (Zd (qv 8)) (af (aL (bK U) bS ap T.cH bi (ae (qv 11) aw)) ai))))))))))))),λts Q hh=>?_)
  let(ks,hs,ws,sc,f,h,u,U,W,hf,S,hl,bN,cf,hq):=hh;have l0:0<sc.length:=O1.mpr bN;have V:((sc.map tP).length:Int)=sc.length:=by rw[cO]
  refine(_,U,by rw[V];lia,by rw[V];lia,λr r0 r1=>(by rw[V];lia,by rw[V];lia,λr' a0 aQ=>?_))
  rw[V]at r1 aQ;let(m0,m1):=max_two r0 r1 a0 aQ;let((x,k),hx,ex):=gR (f:=tP) m0 m1;refine(tP (x,k),ex,U,_,U,?_);let(kd,ak,ek):=Py (S.kd _ hx);obtain rfl:kd.1=k:=ek;have em:=zU W.gk.nd ak;refine(aU wb ks,_,mJ ks,tMs kd.2,by rw[pe W.gk.nd (S.kd _ hx),em],lL _,W7 _,?_)
  let(ne1,a3):=W.gk.ne kd ak;have bM:1<=kd.2.length:=O1.mpr ne1;have bj:((kd.2.map tM).length:Int)=kd.2.length:=by rw[cO]
  have wl:=W.wl;have e1:(u-((kd.2.map tM).length:Int)).toNat=u.toNat-kd.2.length:=by rw[bj];lia
  generalize u-((kd.2.map tM).length:Int)=u' at e1 ⊢
  refine(lL kd.2,λi q=>Z6 λarms L aP ay av ar=>q=[.r .cB,.r (tW ks hs ws),.r (.l (sc.map tP)),.r (.i f),.r (.rm u'),.r (tKs ks),.r (.l (hs.map tH)),.r (.l (ws.map .s)),.r (.s x),.r (.s kd.1),.o (tMs kd.2),.o (.l L),aP,ay,av,ar]/\L=arms.map tA/\vG ks hs h.2.2 sc (sz u'.toNat) (3*u'.toNat+2) arms (kd.2.take i),
   ([],_,_,_,_,_,U,U,(U,λi a m h1=>by simp at h1)),?_,?_)
  ·rintro i t q hx ⟨arms,L,aP,ay,av,ar,rfl,rfl,hA⟩
   rw[fy]at hx;let(m,hm,U):=gs.mp hx;let(cu,b0):=W.gk.fl kd ak m (gV hm);have ct:i<kd.2.length:=(g5.mp hm).1;have lA:arms.length=i:=by rw[hA.ln,p7];lia
   let(ln,aR,S'):=S.more (ns:=(ws.drop sc.length).take m.2.length) W.wn U al al b0
   refine(_,U,aC (by rw[aZ,cO];lia),λj ys=>ys=(((ws.drop sc.length).take j).zip (m.2.take j)).map tP,U,?_,?_)
   ·rintro j y ys hy rfl
    let(z,hz,U):=bQ hy;rw[fy]at hz;let(g,hg,U):=gs.mp hz;have cm:j<m.2.length:=(g5.mp hg).1;have aV:sc.length+j<ws.length:=al
    have ew:atI (ws.map L2.T.s) (((sc.map tP).length:Int)+(j:Nat))=Z (.s ws[sc.length+j]):=by
     rw[cO];exact f9 (j:=sc.length+j) (dN aV)
    refine(_,U,_,ew,U,U,?_);show _++[tP (ws[sc.length+j],g)]=_;rw[GO (a:=ws[sc.length+j]) (by rw[List.getElem?_drop,dN aV]) hg,j3]
    rfl
   ·rintro ys rfl
    rw[show(ia (m.2.map L2.T.s)).length=m.2.length by rw[aZ,cO],mu]
    generalize cg:(ws.drop sc.length).take m.2.length=ns at ln aR S' ⊢
    refine(aC (by rw[cO,P5];lia),λj ys=>ys=(((ns.zip m.2).take j).map (·.1)).map .s,U,?_,?_)
    ·rintro j y ys hy rfl
     rw[fy]at hy;let(p,hp,U):=gs.mp hy;refine(_,U,U,?_);show _++[L2.T.s p.1]=_;rw[pM,hp];simp
    ·rintro ys rfl
     rw[show((ns.zip m.2).map tP).length=(ns.zip m.2).length by rw[cO],mu,CN ln]
     refine(aX _,aC (by rw[cO];lia),U,aX _,bz (by rw[cO,cO,P5];lia),aU d6 _,aU d6 _,ks,hs,ws,sc++ns.zip m.2,f,h,_,by rw[j3],W,hf,S',by rw[i5,P5];lia,al,λn b hn hb dd=>?_)
     refine(arms++[(m.1,ns,b,n)],_,_,_,_,_,U,by simp[tA],?_)
     rw[pM,hm];exact hA.snoc (U,ln,aR,hb,hn,dd)
  ·rintro q ⟨arms,L,aP,ay,av,ar,rfl,rfl,hA⟩
   rw[cO,mu]at hA;let(hS,hle):=hA.snd hx ak;refine(U,hA.im,hq _ _ ?_ hS ((hA.dep al).mono al))
   rw[hA.ln,e1]at hle
   have:=L7 (n:=u.toNat) bM a3
   lia
def qMk(N:Nat):QS:=jF (ID (Tg.tp [17,18]) (qOp qIx (aM 5) (dq oU (aD (aM 0) (aD (qCB FA (aD (aM 5) cb)) cb)))))
 (jF (ID (Tg.tp [19,20]) (qOp qIx (aM 18) (dq oU (aD (aM 0) (aD (qCB FA (aD (aM 18) cb)) cb)))))
  (jF (kG 16 (dq BN (aD (aM 0) (aD (aM 2) (aD (aM 20) cb)))))
   (jF (BK (kQ (qOp (FC ϊ) (aM 16) (qC .n))) (λD q=>dq rA (aD (aM 0) (aD (aM 1) (aD (aM 2) (aD (aM 8) (aD (aM 3) cb))))) q D.rt) vQ)
    λD q=>iJ (aD (qC (.s (Str.ofString "make"))) (aD (qIm (aM 10)) (aD (qIm (aM 19)) (aD (qIm (aM 16)) (aD (dq (lH N) (aD (aM 0) (aD (aM 1) (aD (qOp kH (aM 2) (IH (aD (iJ (aD (qIm (aM 10)) (aD (qIm (aM 17)) cb))) cb))) (aD (aM 3) (aD (aM 4) cb)))))) cb))))) q D.rt)))
def qCl(N:Nat):QS:=jF (BK (kQ (qOp BL (aM 9) (qC (.i 6))))
 (jF (kG 15 (dq oU (aD (aM 0) (aD (qCB FA (aD (aM 6) cb)) cb))))
  (jF (kG 16 (dq BN (aD (aM 0) (aD (aM 2) (aD (Dr [Y] (asT (qOp qIx (qOp qIx (aM 6) (aM 15)) (qC (.i 1)))) (Tg.nm 0) IE (qIm (qOp qIx (aM 0) (qC (.i 1))))) cb)))))
   (BK (kQ (qOp (FC O) (aM 16) (qC .n))) (λD q=>iJ (aD (qC (.s (Str.ofString "call"))) (aD (qIm (aM 10)) (aD (qIm (qOp qIx (qOp qIx (aM 6) (aM 15)) (qC (.i 0)))) (aD (qIm (aM 16)) (aD (dq (lH N) (aD (aM 0) (aD (aM 1) (aD (qOp kH (aM 2) (IH (aD (iJ (aD (qIm (aM 10)) (aD (qIm (qOp qIx (qOp qIx (aM 6) (aM 15)) (qC (.i 2)))) cb))) cb))) (aD (aM 3) (aD (aM 4) cb)))))) cb))))) q D.rt) vQ))) vQ) (qMk N)
def qNm(N:Nat):QS:=jF (ID (Tg.tp [13,14]) (qOp qIx (aM 2) (dq oU (aD (aM 0) (aD (qCB FA (aD (aM 2) cb)) cb)))))
 λD q=>iJ (aD (qC (.s (Str.ofString "name"))) (aD (qIm (aM 10)) (aD (qIm (aM 13)) (aD (dq (lH N) (aD (aM 0) (aD (aM 1) (aD (qOp kH (aM 2) (IH (aD (iJ (aD (qIm (aM 10)) (aD (qIm (aM 14)) cb))) cb))) (aD (aM 3) (aD (aM 4) cb)))))) cb)))) q D.rt
structure EU(N Za D:Nat)(ks:List Kd)(hs:List Hd)(ws:List Str)(sc:Sc)(f:Nat)(h:Hd)(u:Int)(x:Str)(Q:L2.T->Prop):Prop where
 W:Wld ks hs ws
 kd:∀p∈sc,p.2∈ks.map (·.1)
 l16:sc.length<=16
 fx:x ∉ sc.map (·.1)
 hE:rA [.cB,tW ks hs ws,.l (sc.map tP),.s h.2.2,.i f] Q
 go:∀{k:Str},k∈ks.map (·.1)->∀{Q':L2.T->Prop},(∀n b,n<=Za->Snd ks hs h.2.2 n (sc++[Prod.mk x k]) b->Dep D b->Q' b)->lH N [.cB,tW ks hs ws,.l (sc.map tP++[tP (x,k)]),.i f,.rm u] Q'
 hq:∀n b,n<=Za+1->Snd ks hs h.2.2 n sc b->Dep (D+1) b->Q b
 d1:1<=D
theorem Dc(C:EU N Za D ks hs ws sc f h u x Q)(a0 aV aR aQ aP ay av ar ak V:Sl):
  qMk N {nx:=λ_=>Q .n,rt:=Q} [.r .cB,.r (tW ks hs ws),.r (.l (sc.map tP)),.r (.i f),.r (.rm u),.r (tKs ks),.r (.l (hs.map tH)),.r (.l (ws.map .s)),.o (.s h.2.2),.o (.i fm),.o (.s x),a0,aV,aR,aQ,aP,ay,av,ar,ak,V]:=by
 let(W,a5,h3,fx,hE,go,hq,d1):=C;have lk:((ks.map tK).length)=ks.length:=by rw[cO]
 have k1:=W.gk.k1;have k2:=W.gk.k2;refine(al,al,λr6 P z=>?_)
 rw[lk]at z;let(kd,g,ek):=gR P z;let(ne1,a3):=W.gk.ne kd g;have lm:((kd.2.map tM).length)=kd.2.length:=by rw[cO]
 have l1:=O1.mpr ne1;refine(_,ek,wb kd,_,U,al,al,λr7 K q=>?_)
 rw[lm]at q;let(m,hm,em):=gR K q;refine(_,em,DZ m,_,U,sc,m.2,_,.inl U,U,al,by have:=(W.gk.fl kd g m hm).1;lia,hE,λns hF=>?_)
 refine(U,U,aX _,U,U,bz (by rw[cO];show sc.length+1<=10000;lia),aU d6 _,U,?_)
 exact go (j0.mpr (kd,g,U)) λn b hn hb dd=>hq (n+1) _ al (.make g hm hF fx hb) (nt dd d1)
theorem MA(C:EU N Za D ks hs ws sc f h u x Q)(a0:sc ≠ [])(aR aQ aP ay av ar ak V P K:Sl):
  qNm N {nx:=nx,rt:=Q} [.r .cB,.r (tW ks hs ws),.r (.l (sc.map tP)),.r (.i f),.r (.rm u),.r (tKs ks),.r (.l (hs.map tH)),.r (.l (ws.map .s)),.o (.s h.2.2),.o (.i fm),.o (.s x),aR,aQ,aP,ay,av,ar,ak,V,P,K]:=by
 let(W,aV,h3,fx,hE,go,hq,d1):=C;have g:((sc.map tP).length)=sc.length:=by rw[cO]
 have l0:=O1.mpr a0;refine(by rw[g];lia,by rw[g];lia,λr5 z q=>?_)
 rw[g]at q;let((y,k),hy,ey):=gR z q;refine(_,ey,U,_,U,U,U,U,U,bz (by rw[cO];show sc.length+1<=10000;lia),aU d6 _,U,?_)
 exact go (aV _ hy) λn b hn hb dd=>hq (n+1) _ al (.name hy fx hb) (KG dd)
theorem MD(C:EU N Za D ks hs ws sc f h u x Q)(aQ aP ay av ar ak V P K z:Sl):
  qCl N {nx:=λ_=>Q .n,rt:=Q} [.r .cB,.r (tW ks hs ws),.r (.l (sc.map tP)),.r (.i f),.r (.rm u),.r (tKs ks),.r (.l (hs.map tH)),.r (.l (ws.map .s)),.o (.s h.2.2),.o (.i fm),.o (.s x),aQ,aP,ay,av,ar,ak,V,P,K,z]:=by
 let(W,aR,h3,fx,hE,go,hq,d1):=id C;refine(U,aI (λ_=>?_) (λ_=>Dc C _ _ _ _ _ _ _ _ _ _))
 have lh:((hs.map tH).length)=hs.length:=by rw[cO]
 have a0:=W.h1;have aV:=W.h8;refine(al,al,λg g0 g1=>?_)
 rw[lh]at g1;let(hd,q,eg):=gR g0 g1;let(q1,q2,q3,q4):=W.hp hd q;refine(_,eg,_,U,aC (by rw[cO];lia),λi ys=>ys=((hd.2.1.take i).map (·.2)).map .s,U,?_,?_)
 ·rintro i t ys ht rfl
  rw[fy]at ht;let(p,hp,U):=gs.mp ht;refine(_,U,_,U,U,?_);rw[pM,hp];simp
 ·rintro ys rfl
  rw[show(hd.2.1.map tP).length=hd.2.1.length by rw[cO],mu]
  refine(sc,hd.2.1.map (·.2),_,.inr U,U,al,by rw[cO];lia,Dc C _ _ _ _ _ _ _ _ _ _,λns hF=>?_)
  refine(U,_,eg,_,U,U,aX _,U,_,eg,_,U,U,bz (by rw[cO];show sc.length+1<=10000;lia),aU d6 _,U,?_)
  exact go q4 λn b hn hb dd=>hq (n+1) _ al (.call q hF fx hb) (nt dd d1)
theorem Uk{r:Int}(h0:0<=r)(h1:r<3):∃w:Str,atI [L2.T.s "pay",L2.T.s "pay",L2.T.s "get"] r=Z (.s w)/\(w="pay" \/ w="get"):=by
 obtain⟨n,rfl⟩:∃n:Nat,r=n:=(r.toNat,al)
 match n,h1 with
 | 0,_=>exact(_,U,.inl U)
 | 1,_=>exact(_,U,.inl U)
 | 2,_=>exact(_,U,.inr U)
 |n+3,h=>lia
theorem NN(T:Txt K mg a)(N:Nat):bf P w K mg base CX0 (2*N+3) a.ub a.Cr [Zf,Zp,Zk,Zi,Zh] (spQ K (lH N)):=by
 induction N with
 |zero =>
  refine never λts Q hh=>?_
  let(ks,hs,ws,sc,f,h,u,U,W,hf,S,hl,aV,hq):=hh
  omega
 |succ N i7 =>
  have SS:=NM T N i7;have V:=fB (@du P w K mg base a T);refine T.l5.F.okQ cj (λ_ _ _ _ _ _ hr=>?_)
  ·have hu:=bh hr;refine(_,_,((ag (xy (g:=(Tg.tp [5,6,7])) (i:=1) (pv 1) (iL (K:=K) (n:=3) U U (bB (aY 5 cj.nd) (bB (aY 6 cj.nd) (bB (aY 7 cj.nd) iK)))))
 (ag (aA 8 cj.nd (Zd (ao (ao (qv 6) (qv 3)) ah)))
 (ag (aA 9 cj.nd (aJ V hr T.a5 (ae (qv 0) (ae ah aw))))
 (ag (aT (QPW.pt (De (Df (MN (qv 4) ah) ah) (De (bH hu (qv 9) ah) (Ik (Il (Zc (bW T.cK (ae (qv 2) aw))) ah)))))
 (aj (aE (aJ (JK T) hr T.yO (ae (qv 0) (ae (qv 1) (ae (qv 2) (ae (qv 8) (ae (qv 3) aw))))))))
 aF)
 (ag (ze (i:=4) (pv 4) (pv 4) ah)
 (ag (aA 10 cj.nd (Zd (ao (qv 7) (Zc (bW T.cK (ae (qv 2) aw))))))
 (ag (aT (Df (qv 9) ah)
 (ag (aA 11 cj.nd (aS ah (Zc (aJ V hr T.a5 (ae (qv 0) (ae (Zc (iI (aO (af br (af br (af br ai)))) (Zc (aJ V hr T.a5 (ae (qv 0) (ae ah aw)))))) aw))))))
 (ag (aA 12 cj.nd (iI (aO (my ap)) (Zc (aJ V hr T.a5 (ae (qv 0) (ae ah aw))))))
 (aj (aE (aq (af (Zd (qv 12)) (af (Zd (qv 11)) (af (aJ i7 hr T.l5 (ae (qv 0) (ae (qv 1) (ae (qv 2) (ae (qv 3) (ae (qv 4) aw)))))) ai))))))))
 aF)
 (ag (aT (QPW.pt (BD (Df (qv 9) ah) (xx (bG (sX hu U) oB (bF _) (qv 2) (Zc (aO ai))))))
 (aj (aE (aJ SS hr T.LC (ae (qv 0) (ae (qv 1) (ae (qv 2) (ae (qv 3) (ae (qv 4) aw))))))))
 aF)
 (ag (aT (QPW.pt (BD (bH hu (qv 9) ah) (xx (bG (sX hu U) oB (bF _) (qv 2) (Zc (aO ai))))))
 (ag (lE (g:=(Tg.tp [13,14])) (ao (qv 2) (Zc (aJ V hr T.a5 (ae (qv 0) (ae (Zc (bW T.cK (ae (qv 2) aw))) aw))))) (cJ (aY 13 cj.nd) (aY 14 cj.nd)))
 (aj (aE (aq (af aH (af (Zd (qv 10)) (af (Zd (qv 13)) (af (aJ i7 hr T.l5 (ae (qv 0) (ae (qv 1) (ae (Zc (aS (qv 2) (Zc (aO (af (aq (af (Zd (qv 10)) (af (Zd (qv 14)) ai))) ai))))) (ae (qv 3) (ae (qv 4) aw)))))) ai))))))))
 aF)
 (ag (aT (bH hu (qv 9) ah)
 (ag (aA 15 cj.nd (aJ V hr T.a5 (ae (qv 0) (ae (Zc (bW T.cK (ae (qv 6) aw))) aw))))
 (ag (aA 16 cj.nd (aJ (DK T) hr T.uS (ae (qv 0) (ae (qv 2) (ae (Zc (bD U (dZ (ao (ao (qv 6) (qv 15)) ah)) (N':=["_law_param"]) (.own U .nil) (bx (g:=(Tg.nm 0)) (λ_ _ _ _ _=>((ck 0),(Zd (ao (qv 0) ah))))))) aw)))))
 (aj (aT (bG mL js (bF _) (qv 16) (Zc cz))
 (aj (aE (aq (af aH (af (Zd (qv 10)) (af (Zd (ao (ao (qv 6) (qv 15)) ah)) (af (Zd (qv 16)) (af (aJ i7 hr T.l5 (ae (qv 0) (ae (qv 1) (ae (Zc (aS (qv 2) (Zc (aO (af (aq (af (Zd (qv 10)) (af (Zd (ao (ao (qv 6) (qv 15)) ah)) ai))) ai))))) (ae (qv 3) (ae (qv 4) aw)))))) ai))))))))
 aF))))
 aF)
 (ag (lE (g:=(Tg.tp [17,18])) (ao (qv 5) (Zc (aJ V hr T.a5 (ae (qv 0) (ae (Zc (bW T.cK (ae (qv 5) aw))) aw))))) (cJ (aY 17 cj.nd) (aY 18 cj.nd)))
 (ag (lE (g:=(Tg.tp [19,20])) (ao (qv 18) (Zc (aJ V hr T.a5 (ae (qv 0) (ae (Zc (bW T.cK (ae (qv 18) aw))) aw))))) (cJ (aY 19 cj.nd) (aY 20 cj.nd)))
 (ag (aA 16 cj.nd (aJ (DK T) hr T.uS (ae (qv 0) (ae (qv 2) (ae (qv 20) aw)))))
 (ag (aT (bG sY me (bF _) (qv 16) (Zc cz))
 (aj (aE (aJ (JK T) hr T.yO (ae (qv 0) (ae (qv 1) (ae (qv 2) (ae (qv 8) (ae (qv 3) aw))))))))
 aF)
 (aj (aE (aq (af aH (af (Zd (qv 10)) (af (Zd (qv 19)) (af (Zd (qv 16)) (af (aJ i7 hr T.l5 (ae (qv 0) (ae (qv 1) (ae (Zc (aS (qv 2) (Zc (aO (af (aq (af (Zd (qv 10)) (af (Zd (qv 17)) ai))) ai))))) (ae (qv 3) (ae (qv 4) aw)))))) ai))))))))))))))))))))))),λts Q hh=>?_)
   let(ks,hs,ws,sc,f,h,u,U,W,hf,S,hl,aV,hq):=hh;have ef:atI (hs.map tH) (f:Int)=Z (tH h):=bc (by rw[fy,hf];rfl)
   have hE:rA [.cB,tW ks hs ws,.l (sc.map tP),.s h.2.2,.i f] Q:=(ks,hs,ws,sc,f,h,U,W,hf,S,λn b hn hb dd=>hq n b (qR hn (Hm _)) hb (dd.mono al))
   have aQ:((sc.map tP).length:Int)=sc.length:=by rw[cO]
   have wl:=W.wl;have ak:sc.length<ws.length:=al
   have ex:atI (ws.map L2.T.s) ((sc.map tP).length:Int)=Z (.s ws[sc.length]):=by rw[cO];exact f9 (dN ak)
   have hx:ws[sc.length]?=Z ws[sc.length]:=dN ak;have fx:ws[sc.length] ∉ sc.map (·.1):=S.fresh W.wn hx
   generalize ws[sc.length]=x at ex fx hx
   refine(_,U,_,ef,_,U,U,ac,ac,λfm f0 f1=>(U,λr bj=>aI (λ_=>hE) (λh1=>(U,aI (λ_=>hE) (λ_=>aI (λ_=>hE) (λh3=>?_))))))
   have h1:¬ r<1:=λz=>h1 (decide_eq_true z)
   have h3:sc.length<=16:=by
    have h3:¬(16:Int)<((sc.map tP).length:Int):=λz=>h3 (decide_eq_true z)
    rw[aQ]at h3
    omega
   have u1:u.toNat=(u-1).toNat+1:=al
   have uN:(u-1).toNat<N:=al
   have s1:=Bj (u-1).toNat;rw[<- u1]at s1;have go:∀{k:Str},k∈ks.map (·.1)->∀{Q':L2.T->Prop},(∀n b,n<=sz (u-1).toNat->Snd ks hs h.2.2 n (sc++[Prod.mk x k]) b->Dep (3*(u-1).toNat+2) b->Q' b)->lH N [.cB,tW ks hs ws,.l (sc.map tP++[tP (x,k)]),.i f,.rm (u-1)] Q':=λ{k} hk {Q'} hQ =>
    (ks,hs,ws,sc++[(x,k)],f,h,u-1,by rw[j3];rfl,W,hf,S.snoc hx al hk,by rw[i5];simp;omega,uN,hQ)
   have C:EU N (sz (u-1).toNat) (3*(u-1).toNat+2) ks hs ws sc f h (u-1) x Q:=(W,S.kd,h3,fx,hE,go,λn b hn hb dd=>hq n b al hb (dd.mono al),al)
   refine(ac,_,ex,U,aI (λ_=>?_) (λ_=>?_))
   ·refine(ac,ac,λr2 aP ay=>?_)
    let(v2,a0,a3):=Pq (x:=3) (y:=9) (z:=1000) aP ay;refine(_,a0,al,al,λc c0 c1=>(ac,ac,λr4 av ar=>?_))
    let(wd,ew,hw):=Uk av ar;refine(_,ew,U,U,ks,hs,ws,sc,f,h,u-1,U,W,hf,S,hl,uN,λn b hn hb dd=>hq (n+1) _ al (.cT hw hb) ((Gr dd).mono al))
   ·refine(λrest=>aI (λ_=>aI (λq=>?_) (λ_=>rest)) (λ_=>rest)) ?_
    ·have Kn:sc ≠ []:=λz=>by rw[z]at q;exact absurd q ac
     exact(ks,hs,ws,sc,f,h,u-1,U,W,hf,S,al,Kn,uN,λn b hn hb dd=>hq n b (by rw[u1];exact hn) hb (dd.mono al))
    refine(λrest=>(U,aI (λ_=>aI (λq=>MA C (λz=>by rw[z]at q;exact absurd q ac) _ _ _ _ _ _ _ _ _ _) (λ_=>rest)) (λ_=>rest))) ?_
    exact MD C _ _ _ _ _ _ _ _ _ _
theorem BX(T:Txt K mg a):bf P w K mg base CX0 66 a.kB a.wj [Zf,Zz,Zh] (spQ K FG):=by
 have aR:=fB (@du P w K mg base a T);refine T.wJ.F.okQ bU (λ_ _ _ _ _ _ hr=>?_)
 ·have hu:=bh hr;refine(_,_,((ag (aA 3 bU.nd (aJ (JF T) hr T.EN (ae (qv 0) (ae ah aw))))
 (ag (aA 4 bU.nd (aJ (JJ T) hr T.ES (ae (qv 0) (ae (qv 3) aw))))
 (ag (aA 5 bU.nd (aO ai))
 (ag (aA 6 bU.nd (fA ah (Zc (aJ aR hr T.a5 (ae (qv 0) (ae ah aw))))))
 (ag (bb (g:=(Tg.nm 7)) PassesOwn.never U (fS U T.fe (ae (Zc (aS ah (Zc (aJ aR hr T.a5 (ae (qv 0) (ae (qv 1) aw)))))) aw)) (aY 7 bU.nd)
 (ag (aA 8 bU.nd (iI (aO (af br (af br (af br (af br (af br (af br (af br ai)))))))) (Zc (aJ aR hr T.a5 (ae (qv 0) (ae ah aw))))))
 (ag (dY (i:=9) bU.nd U (Or.inl U) U (oO U T.fe (ae (qv 8) aw)) (N':=[ZA,Zv,Zq,Zf]) (.own U (.got (i:=3) U U (.inl U) (.got (i:=4) U U (.inl U) (.got (i:=0) U U (.inl U) .nil)))) (bx (g:=(Tg.nm 0)) (λ_ _ _ _ _=>((ck 0),(aq (af (Zd (ao (qv 1) (qv 0))) (af (Zd (ao (ao (qv 2) (Zc (aJ aR hr T.a5 (ae (qv 3) (ae (Zc (bW T.cK (ae (qv 2) aw))) aw))))) ah)) ai)))))))
 (aj (bo (i:=5) (pv 5) (aq (af (Zd (ao (qv 3) (Zc (bA (fU U) oC ap T.wD bi (ae (Zc (oP (qv 6) (qv 7))) (ae (Zc (oP (qv 7) (qv 6))) aw)))))) (af (aL (bK U) bS ap T.cH bi (ae (qv 9) aw)) (af (Zd (ao (ao (qv 4) (Zc (aJ aR hr T.a5 (ae (qv 0) (ae (Zc (bW T.cK (ae (qv 4) aw))) aw))))) ah)) ai)))))))))
 (ag (aA 10 bU.nd (aO ai))
 (ag (bb (g:=(Tg.tp [7,11])) PassesOwn.never U (sN (i:=5) U T.bp bi (pv 5)) (cJ (aY 7 bU.nd) (aY 11 bU.nd))
 (ag (aA 12 bU.nd (aJ (NN T 31) hr T.l5 (ae (qv 0) (ae (ML (ae (qv 4) (ae (qv 5) (ae (qv 3) aw)))) (ae (Zc (aL (pH U) Fc ap T.jZ bi (ae (ao (qv 11) ah) aw))) (ae (qv 7) (ae (Zc (MM (aO (af (Zd (qv 2)) ai)))) aw)))))))
 (aj (bo (i:=10) (pv 10) (aS (qv 11) (Zc (aq (af (Zd (qv 12)) ai))))))))
 (aj (aE (aq (af (Zd (qv 4)) (af (aL (bK U) bS ap T.cH bi (ae (qv 10) aw)) ai))))))))))))),λts Q hh=>?_)
  let(mo,u,U,c0,cT,u0,cS,hq):=hh;refine(40,U,ac,ac,λws hl ay _=>?_)
  have hl:ws.length=40:=al
  refine(ws,U,hl,ay,λks bN _=>(ac,ac,λow w0 w1=>?_))
  have gk:=bN.p;have k1:=gk.k1;have k2:=gk.k2;have lk:((ks.map tK).length:Int)=ks.length:=by rw[cO]
  refine(.inl (al,al),al,al,λn n0 n1=>?_)
  refine(al,al,λi q=>Z5 λhs L o5 o6 o7=>q=[.r .cB,.r (.i mo),.r (.i u),.o (.l (ws.map .s)),.o (tKs ks),.o (.l L),.o (.i (39*ow)),o5,o6,o7,.no,.no,.no]/\L=hs.map tH/\wG ks ws ow.toNat hs i,([],_,_,_,_,U,U,(U,U,bY)),?_,?_)
  ·rintro i x q hx ⟨hs,L,o5,o6,o7,rfl,rfl,hH⟩
   let(U,hi):=jB hx;refine(_,U,ac,ac,λr2 cm cg=>?_)
   let(m,hm,em):=gR (xs:=[1,1,2,2,0,3,4]) (f:=L2.T.i) cm cg;have hm:m=1\/m=1\/m=2\/m=2\/m=0\/m=3\/m=4:=(hm:)
   refine(_,em,al,al,aC (by rw[dX];omega),λp ys=>∃ps:Sc,ys=ps.map tP/\ps.map (·.1)=ws.take p/\∀q∈ps,q.2∈ks.map (·.1),([],U,U,bY),?_,?_)
   ·rintro p y ys hy ⟨ps,rfl,ar,aQ⟩
    let(U,hp):=jB hy;have bM:p<ws.length:=al
    have ew:atI (ws.map L2.T.s) (0+((p:Nat):Int))=Z (.s ws[p]):=by rw[W5];exact f9 (by simp[bM])
    refine(_,U,_,ew,U,by rw[lk];omega,by rw[lk];omega,λr3 cf a3=>?_)
    rw[lk]at a3;let(kd,aV,ek):=gR (f:=tK) cf a3;refine(_,ek,_,U,U,ps++[(ws[p],kd.1)],by simp[tP],?_,λq cu=>?_)
    ·rw[j3,ar];exact take_one (by simp[bM])
    ·obtain z|z:=i6.mp cu
     ·exact aQ q z
     ·rw[d2.mp z];exact j0.mpr (kd,aV,U)
   ·rintro ys ⟨ps,rfl,ar,aQ⟩
    rw[dX]at ar;have ct:ps.length=m.toNat:=by
     have:=congrArg Ez ar
     rw[cO,p7]at this
     omega
    have bj:pb ow.toNat i<ws.length:=by unfold pb;split <;> omega
    have ei:atI (ws.map L2.T.s) (if 0+(i:Int)-39*ow > 39*ow-(0+(i:Int))then 0+(i:Int)-39*ow else 39*ow-(0+(i:Int)))=Z (.s ws[pb ow.toNat i]):=by
     have e:(if 0+(i:Int)-39*ow > 39*ow-(0+(i:Int))then 0+(i:Int)-39*ow else 39*ow-(0+(i:Int)))=((pb ow.toNat i:Nat):Int):=by
      unfold pb
      have:ow=0\/ow=1:=al
      obtain rfl|rfl:=this
      ·show _=((i:Nat):Int);split <;> omega
      ·show _=((39-i:Nat):Int);split <;> omega
     rw[e];exact f9 (by simp[bj])
    refine(aC (by rw[cO,hH.ln];omega),_,ei,U,aU d6 _,by rw[lk];omega,by rw[lk];omega,λr4 b0 a0=>?_)
    rw[lk]at a0;let(kd,aV,ek):=gR (f:=tK) b0 a0;refine(_,ek,_,U,U,hs++[(ws[pb ow.toNat i],ps,kd.1)],_,_,_,_,U,by simp[tH],hH.snoc (dN bj) (by show ps.length<=4;omega,aQ,by show ps.map (·.1)=ws.take ps.length;rw[ct];exact ar,j0.mpr (kd,aV,U)))
  ·rintro q ⟨hs,L,o5,o6,o7,rfl,rfl,hH⟩
   rw[dX]at hH;have W:Wld ks hs ws:=(gk,hl,ay,by rw[hH.ln];omega,by rw[hH.ln];omega,hH.nd hl ay al,hH.hp)
   refine(λi q=>Z5 λfs L o5 o9 aP=>q=[.r .cB,.r (.i mo),.r (.i u),.o (.l (ws.map .s)),.o (tKs ks),.r (.l (hs.map tH)),.o (.i (39*ow)),o5,o6,o7,.o (.l L),o9,aP]/\L=fs.map tF/\fs.map (·.1)=hs.take i/\∀f∈fs,Snd ks hs f.1.2.2 f.2.2 f.1.2.1 f.2.1/\f.2.2<=sz u.toNat/\Dep (3*u.toNat+2) f.2.1,([],_,_,_,_,U,U,U,bY),?_,?_)
   ·rintro i x q hx ⟨fs,L,o5,o9,aP,rfl,rfl,V,ak⟩
    let(y,hy,U):=bQ hx;rw[fy]at hy;let(hd,av,U):=gs.mp hy;have Og:=gV av;let(q1,q2,q3,q4):=W.hp hd Og;have c1:fs.length=i:=by
     have:=congrArg Ez V
     rw[cO,p7]at this
     have:=(g5.mp av).1
     omega
    have lhs:=W.h8;have c2:=(g5.mp av).1;refine(_,U,_,U,aU d6 _,U,ks,hs,ws,hd.2.1,i,hd,u,U,W,av,(q3,al,q2,ka _,by rw[mu]),al,al,λn b hn hb dd=>?_)
    refine(aC (by rw[cO];omega),hb.im,bz (by show 4<=10000;decide),UJ hd,(by show(b.im&&O)=O;rw[hb.im];rfl),fs++[(hd,b,n)],_,_,_,_,U,by simp[tF],?_,λf' cP=>?_)
    ·rw[j3,V,pM,av];rfl
    ·obtain z|z:=i6.mp cP
     ·exact ak f' z
     ·rw[d2.mp z];exact(hb,hn,dd)
   ·rintro q ⟨fs,L,o5,o9,aP,rfl,rfl,V,ak⟩
    rw[aZ,cO,mu]at V;have cL:L2.T.ims (fs.map tF)=true:=by
     have go:∀(l:List Fn),(∀f∈l,f.2.1.im=O)->L2.T.ims (l.map tF)=true:=by
      intro l
      induction l with
      |nil=>intro _;rfl
      |cons f r ih =>
       intro h;show((O&&(L2.T.ims (f.1.2.1.map tP)&&(O&&(f.2.1.im&&O))))&&L2.T.ims (r.map tF))=O;rw[aU d6,h f j2,ih λf hf=>h f (j1 _ hf)];rfl
     exact go fs λf hf=>(ak f hf).1.im
    refine(iR ks,cL,hq ks fs (gk,?_,?_,λf hf=>?_,λf hf=>?_,λf hf=>((ak f hf).2.2).mono al) bN ?_ (λf hf=>(ak f hf).2.1) ?_ λf hf=>(ak f hf).2.2)
    ·have:=congrArg Ez V
     rw[cO]at this
     have:=W.h8
     omega
    ·have:fs.map (·.1.1)=(fs.map (·.1)).map (·.1):=by rw[rS];rfl
     rw[this,V];exact W.hn
    ·have hm:f.1∈hs:=by rw[<- V];exact j0.mpr (f,hf,U)
     let(q1,q2,q3,q4):=W.hp f.1 hm;exact(q1,q2,by rw[q3];exact ay.sublist (WY _ _),q4)
    ·rw[V];exact((ak f hf).1,qR (ak f hf).2.1 (qR (L6 al) Tj))
    ·intro e;rw[e]at V
     have:=hH.ln
     rw[<- V]at this;simp at this
     omega
    ·have:=hH.ln
     rw[<- V,cO]at this
     omega
theorem ky(h:∀t∈ts,t.im=O):L2.T.ims ts=true:=by
 induction ts with
 |nil=>rfl
 |cons t r g=>show(t.im&&L2.T.ims r)=O;rw[h t j2,g λt q=>h t (j1 _ q)];rfl
theorem bE(h:n<=1002000):n<kf:=W8 h ac
def Sv:L2.T->L2.T
 |.t [_,_,b]=>b
 |_=>.n
def subs:L2.T->List (L2.T×L2.T)
 |.t [.s _,.s _,.t arms]=>arms.map λx=>(Sv x,x)
 |.t [.s _,.i _,b]=>[(b,.n)]
 |.t [.s _,.s _,.s _,b]=>[(b,.n)]
 |.t [.s _,.s _,.s _,.t _,b]=>[(b,.n)]
 |_=>[]
inductive Kid(ks:List Kd)(hs:List Hd):Sc->L2.T->Nat->L2.T->L2.T->Sc->Prop
 |cT{sc:Sc}{w:Str}{c:Int}{b:L2.T}:(w="pay" \/ w="get")->Kid ks hs sc (.t [.s w,.i c,b]) 0 b .n sc
 |name{sc:Sc}{x y k:Str}{b:L2.T}:(y,k)∈sc->x ∉ sc.map (·.1)->Kid ks hs sc (.t [.s "name",.s x,.s y,b]) 0 b .n (sc++[Prod.mk x k])
 |make{sc:Sc}{x:Str}{m:Mk1}{kd:Kd}{ns:List Str}{b:L2.T}:kd∈ks->m∈kd.2->x ∉ sc.map (·.1)->Kid ks hs sc (.t [.s "make",.s x,.s m.1,.t (ns.map .s),b]) 0 b .n (sc++[(x,kd.1)])
 |call{sc:Sc}{x:Str}{h:Hd}{ns:List Str}{b:L2.T}:h∈hs->x ∉ sc.map (·.1)->Kid ks hs sc (.t [.s "call",.s x,.s h.1,.t (ns.map .s),b]) 0 b .n (sc++[(x,h.2.2)])
 |case{sc:Sc}{x:Str}{kd:Kd}{arms:List Arm}{j:Nat}{a:Arm}{m:Mk1}:(x,kd.1)∈sc->kd∈ks->arms.map (·.1)=kd.2.map (·.1)->arms[j]?=Z a->kd.2[j]?=Z m->a.2.1.length=m.2.length->(sc.map (·.1)++a.2.1).Nodup->Kid ks hs sc (.t [.s "case",.s x,.t (arms.map tA)]) j a.2.2.1 (tA a) (sc++a.2.1.zip m.2)
inductive Shp:L2.T->Prop
 |give{x:Str}:Shp (.t [.s "give",.s x])
 |cT{w:Str}{c:Int}{b:L2.T}:(w="pay" \/ w="get")->b.im=O->Shp (.t [.s w,.i c,b])
 |name{x y:Str}{b:L2.T}:b.im=O->Shp (.t [.s "name",.s x,.s y,b])
 |use{w x m:Str}{ns:List Str}{b:L2.T}:(w="make" \/ w="call")->b.im=O->Shp (.t [.s w,.s x,.s m,.t (ns.map .s),b])
 |case{x:Str}{arms:List Arm}:(∀a∈arms,a.2.2.1.im=O)->arms.length<=50000->Shp (.t [.s "case",.s x,.t (arms.map tA)])
structure Nod where
 b:L2.T
 ab:L2.T
 am:L2.T
 pa:List (Nat×L2.T×Nat)
 sc:Sc
def J8(n:Nat)(d:Nod)(j:Nat)(b am:L2.T)(sc:Sc):Nod:=(b,.i n,am,d.pa++[(n,d.b,j)],sc)
inductive Ask(ks:List Kd)(sc:Sc):L2.T->Option Str->Prop
 |give{x:Str}:Ask ks sc (.t [.s "give",.s x]) Y
 |cT{w:Str}{c:Int}{b:L2.T}:(w="pay" \/ w="get")->Ask ks sc (.t [.s w,.i c,b]) Y
 |name{x y k:Str}{b:L2.T}:(y,k)∈sc->Ask ks sc (.t [.s "name",.s x,.s y,b]) (Z k)
 |make{x:Str}{m:Mk1}{kd:Kd}{ns:List Str}{b:L2.T}:kd∈ks->m∈kd.2->Ask ks sc (.t [.s "make",.s x,.s m.1,.t (ns.map .s),b]) (Z kd.1)
 |call{x g:Str}{ns:List Str}{b:L2.T}:Ask ks sc (.t [.s "call",.s x,.s g,.t (ns.map .s),b]) Y
 |case{x k:Str}{arms:List Arm}:(x,k)∈sc->Ask ks sc (.t [.s "case",.s x,.t (arms.map tA)]) (Z k)
structure OY(ks:List Kd)(hs:List Hd)(n:Nat)(d:Nod)(cs:List Nod):Prop where
 ok:∀(j:Nat)(c:Nod),cs[j]?=Z c->c=J8 n d j c.b c.am c.sc/\Kid ks hs d.sc d.b j c.b c.am c.sc
 su:cs.map (λc=>Prod.mk c.b c.am)=subs d.b
 sh:Shp d.b
 ak:∃o,Ask ks d.sc d.b o
mutual
inductive Pre(ks:List Kd)(hs:List Hd):Nat->Nod->List Nod->Prop
 |mk{n:Nat}{d:Nod}{cs L:List Nod}:OY ks hs n d cs->cw ks hs (n+1) cs L->Pre ks hs n d (d::L)
inductive cw(ks:List Kd)(hs:List Hd):Nat->List Nod->List Nod->Prop
 |nil{n:Nat}:cw ks hs n [] []
 |cons{n:Nat}{d:Nod}{ds L M:List Nod}:Pre ks hs n d L->cw ks hs (n+L.length) ds M->cw ks hs n (d::ds) (L++M)
end
variable{L:List Nod}
theorem cw.app{ds es M:List Nod}:∀{n:Nat},cw ks hs n ds L->cw ks hs (n+L.length) es M->cw ks hs n (ds++es) (L++M):=by
 induction ds generalizing L with
 |nil=>intro n h h2;cases h;simpa using h2
 |cons d ds g =>
  intro n h h2;cases h with
  |@cons _ _ _ z q h1 h3 =>
   rw[u6];exact .cons h1 (g h3 (by rw[i5,<- Nat.add_assoc]at h2;exact h2))
theorem cw.pop{ds:List Nod}(h:cw ks hs n (d::ds) L):∃cs g,OY ks hs n d cs/\L=d::g/\cw ks hs (n+1) (cs++ds) g:=by
 cases h with
 |@cons _ _ _ z q h1 h3 =>
  cases h1 with
  |@mk _ _ cs L2 hk h2 =>
   refine(cs,L2++q,hk,U,h2.app ?_);rw[show n+1+L2.length=n+(L2.length+1)by lia]
   exact h3
theorem cw.le{ds:List Nod}(h:cw ks hs n ds L):ds.length<=L.length:=by
 induction ds generalizing n L with
 |nil=>exact v5 _
 |cons d ds g =>
  cases h with
  |cons h1 h3 =>
   have:=g h3
   cases h1;simp only[pq,i5]
   lia
theorem RB{l:List Nat}{x:Nat}(h:x∈l):x<=l.sum:=by
 induction l with
 |nil=>cases h
 |cons y r g =>
  rw[CD];obtain z|z:=kO.mp h
  ·lia
  ·lia
theorem NX{l:List Nat}(h:∀x∈l,1<=x):l.length<=l.sum:=by
 induction l with
 |nil=>exact ka _
 |cons y r g =>
  have h1:=h y j2;have h2:=g λz q=>h z (j1 _ q)
  rw[CD,pq]
  lia
theorem Snd.pos(h:Snd ks hs r n sc b):1<=n:=by cases h <;> lia
theorem Snd.pre{ks:List Kd}{m:Nat}{b:L2.T}(h:Snd ks hs r m sc b)(ay:m<=50000):∀(n:Nat)(ab am:L2.T)(pa:List (Nat×L2.T×Nat)),∃L,Pre ks hs n (b,ab,am,pa,sc) L/\L.length<=m:=by
 have one:∀{m:Nat}{sc sc':Sc}{b b':L2.T}{o:Option Str},Kid ks hs sc b 0 b' .n sc'->Shp b->Ask ks sc b o->subs b=[(b',.n)]->(∀(n:Nat)(ab am:L2.T) pa,∃L,Pre ks hs n (b',ab,am,pa,sc') L/\L.length<=m)->∀(n:Nat)(ab am:L2.T) pa,∃L,Pre ks hs n (b,ab,am,pa,sc) L/\L.length<=m+1:=by
  intro m sc sc' b b' o hk sh ak av g n ab am pa;let(L,h1,h2):=g (n+1) (.i n) .n (pa++[(n,b,0)]);refine((b,ab,am,pa,sc)::L,.mk (cs:=[(b',.i n,.n,pa++[(n,b,0)],sc')]) (λj c q=>?_,by rw[av];rfl,sh,(o,ak)) (by have:=cw.cons h1 (.nil);rwa [qg]at this),by simp;omega)
  cases j with
  |zero=>cases q;exact(U,hk)
  |succ j=>simp at q
 induction h with
 |give hx =>
  intro n ab am pa;exact([_],.mk (cs:=[]) (λj c q=>by simp at q,U,.give,(Y,.give)) .nil,ad)
 |cT hw h g=>exact one (.cT hw) (.cT hw h.im) (.cT hw) U (g al)
 |name hy hx h g=>exact one (.name hy hx) (.name h.im) (.name hy) U (g al)
 |make K hm hF hx h g=>exact one (.make K hm hx) (.use (.inl U) h.im) (.make K hm) U (g al)
 |call hh hF hx h g=>exact one (.call hh hx) (.use (.inr U) h.im) .call U (g al)
 |@case sc x kd arms hx K Q h1 h2 g =>
  intro n ab am pa;have el:=(congrArg Ez Q:)
  have sz:∀(j:Nat)(a:Arm),arms[j]?=Z a->a.2.2.2 <=(arms.map (·.2.2.2)).sum:=λj a ha=>RB (j0.mpr (a,gV ha,U))
  have sh:Shp (.t [.s "case",.s x,.t (arms.map tA)]):=.case (λa ha=>by
   let(i,hi,e):=qp ha;exact(h2 i a (kd.2[i]' al) (by rw[dN hi,e]) (dN _)).im) (by
   have:=by
    have:=NX (l:=arms.map (·.2.2.2)) λz hz=>by
     let(a,ha,U):=j0.mp hz;let(i,hi,e):=qp ha;exact(h2 i a (kd.2[i]' al) (by rw[dN hi,e]) (dN _)).pos
    simpa using this
   omega)
  let b:L2.T:=.t [.s "case",.s x,.t (arms.map tA)]
  have go:∀(k j:Nat),j+k=arms.length->∀P,∃(cs L:List Nod),cw ks hs P cs L/\cs.length=k/\L.length <=((arms.drop j).map (·.2.2.2)).sum/\cs.map (λc=>Prod.mk c.b c.am)=(arms.drop j).map (λa=>Prod.mk a.2.2.1 (tA a))/\∀(i:Nat)(c:Nod),cs[i]?=Z c->c=J8 n (b,ab,am,pa,sc) (j+i) c.b c.am c.sc/\Kid ks hs sc b (j+i) c.b c.am c.sc:=by
   intro k
   induction k with
   |zero =>
    intro j hj P;refine([],[],.nil,U,v5 _,?_,λi c q=>by simp at q)
    rw[List.drop_eq_nil_of_le al];rfl
   |succ k ar =>
    intro j hj P;have V:j<arms.length:=al
    have ea:=dN V;have em:kd.2[j]?=Z (kd.2[j]' al):=dN _
    let(q1,q2):=h1 j _ _ ea em;have hK:Kid ks hs sc b j arms[j].2.2.1 (tA arms[j]) (sc++arms[j].2.1.zip (kd.2[j]' al).2):=.case hx K Q ea em q1 q2
    let(L1,p1,p2):=g j _ _ ea em (by have:=sz j _ ea;omega) P (.i n) (tA arms[j]) (pa++[(n,b,j)])
    let(cs,L,c1,c2,c3,c4,c5):=ar (j+1) al (P+L1.length)
    have ed:=X5 V;refine(_::cs,L1++L,.cons p1 c1,by simp[c2],?_,?_,λi c q=>?_)
    ·rw[ed,qS,CD,i5];omega
    ·rw[ed,qS,qS,c4]
    ·cases i with
     |zero=>cases q;exact(U,hK)
     |succ i =>
      let(z1,z2):=c5 i c q;rw[show j+(i+1)=j+1+i by omega]
      exact(z1,z2)
  let(cs,L,c1,_,c3,c4,c5):=go arms.length 0 al (n+1)
  rw[Yw]at c3 c4;refine(_::L,.mk (cs:=cs) (λj c q=>?_,?_,sh,(_,.case hx)) c1,by simp;omega)
  ·have:=c5 j c q
   rwa [Es]at this
  ·rw[c4];show _=(arms.map tA).map λx=>Prod.mk (Sv x) x
   rw[rS];rfl
theorem cw.from:∀(k:Nat){n:Nat}{ds M:List Nod},M.length=k->cw ks hs n ds M->∀(m:Nat)(d:Nod),M[m]?=Z d->(∃j,ds[j]?=Z d/\(m=0->j=0))\/∃(p:Nat)(e:Nod)(cs:List Nod)(j:Nat),p<m/\M[p]?=Z e/\OY ks hs (n+p) e cs/\cs[j]?=Z d:=by
 intro k
 induction k with
 |zero =>
  intro n ds M hl h m d hm;rw[uC.mp hl]at hm;simp at hm
 |succ k P =>
  intro n ds M hl h m d hm;cases ds with
  |nil=>cases h;simp at hl
  |cons d0 ds =>
   let(cs,L',hk,U,h2):=h.pop;cases m with
   |zero=>cases hm;exact .inl (0,U,λ_=>rfl)
   |succ m =>
    obtain⟨j,g,_⟩|⟨p,e,K,j,hp,he,V,Q⟩:=P (n:=n+1) (hl:) h2 m d (hm:)
    ·by_cases q:j<cs.length
     ·rw[ui q]at g;exact .inr (0,d0,cs,j,al,U,hk,g)
     ·rw[uD al]at g
      exact .inl (j-cs.length+1,(g:),λz=>al)
    ·exact .inr (p+1,e,K,j,al,(he:),by rw[show n+(p+1)=n+1+p by lia];exact V,Q)
def spT(C:J)(p a r:L2.T):L2.T:=.ob C [Zg,"above","arm"] [p,a,r]
def spN(C:J)(d:Nod):L2.T:=spT C d.b d.ab d.am
inductive FJ(C:J)(ts:List L2.T)(Q:L2.T->Prop):Prop
 |mk (b:L2.T) (n:Nat) (h1:ts=[b,.i n]) (h2:Shp b) (h3:b.im=O) (h4:Q (.l ((subs b).map λp=>spT C p.1 (.i n) p.2)))
theorem Shp.im(h:Shp b):b.im=true:=by
 cases h with
 |give=>rfl
 |cT _ h=>show(O&&(O&&(L2.T.im _&&O)))=O;rw[h];rfl
 |name h=>show(O&&(O&&(O&&(L2.T.im _&&O))))=O;rw[h];rfl
 |use _ h=>show(O&&(O&&(O&&(L2.T.ims _&&(L2.T.im _&&O)))))=O;rw[h,aX];rfl
 |case h =>
  show(O&&(O&&(L2.T.ims _&&O)))=O;rw[ky λt g=>by
   let(a,ha,U):=j0.mp g;show(O&&(L2.T.ims (a.2.1.map .s)&&(a.2.2.1.im&&O)))=O;rw[h a ha,aX];rfl]
  rfl
theorem cw.ims{ds M:List Nod}(h:cw ks hs n ds M):∀e∈M,e.b.im=true:=by
 have go:∀k {n:Nat} {ds M:List Nod},M.length=k->cw ks hs n ds M->∀e∈M,e.b.im=true:=by
  intro k
  induction k with
  |zero =>
   intro n ds M hl h e he;rw[uC.mp hl]at he;cases he
  |succ k g =>
   intro n ds M hl h e he;cases ds with
   |nil=>cases h;simp at hl
   |cons z ds =>
    let(cs,K,q,U,h2):=h.pop;obtain rfl|he:=kO.mp he
    ·exact q.sh.im
    ·exact g (hl:) h2 e he
 exact go _ U h
theorem cw.asks:∀(k:Nat){n:Nat}{ds M:List Nod},M.length=k->cw ks hs n ds M->∀e∈M,∃o,Ask ks e.sc e.b o:=by
 intro k
 induction k with
 |zero =>
  intro n ds M hl h e he;rw[uC.mp hl]at he;cases he
 |succ k g =>
  intro n ds M hl h e he;cases ds with
  |nil=>cases h;simp at hl
  |cons z ds =>
   let(cs,K,q,U,h2):=h.pop;obtain rfl|he:=kO.mp he
   ·exact q.ak
   ·exact g (hl:) h2 e he
inductive M6(C:J)(ts:List L2.T)(Q:L2.T->Prop):Prop
 |mk(ks:List Kd)(hs:List Hd)(d:Nod)(L:List Nod)(h1:ts=[d.b])(h2:d.ab=.n)(h3:d.am=.n)(h4:Pre ks hs 0 d L)(h5:L.length<=50000)(h6:Q (.l (L.map (spN C))))
inductive Je(ts:List L2.T)(Q:L2.T->Prop):Prop
 |mk(ks:List Kd)(hs:List Hd)(d:Nod)(L:List Nod)(h1:ts=[d.b])(h2:d.ab=.n)(h3:d.am=.n)(h4:Pre ks hs 0 d L)(h5:L.length<=50000)(h6:Q (.l (L.map (·.b))))
theorem DJ(T:Txt K mg a):bf P w K mg base CX0 1 a.dJ a.jX ["self",Zg,"above","arm"] (wW a.aV [Zg,"above","arm"]):=by
 refine Fun.ok T.gM xb (λvs H Q E h=>?_) λcdv A outer s H vs Q E hr h=>?_
 ·let(x,dx,args,U,hl,_):=h;show args.length+1=4;rw[hl];rfl
 ·let(x,dx,args,U,hl,hx,hq):=h;obtain⟨v1,v2,g,rfl⟩:∃v1 v2 g,args=[v1,v2,g]:=by
   cases args with
   |nil=>cases hl
   |cons v1 r=>cases r with
    |nil=>cases hl
    |cons v2 r=>cases r with
     |nil=>cases hl
     |cons g r=>cases r with
      |nil=>exact(v1,v2,g,U)
      |cons=>cases hl
  refine(_,bI (jH (pv 0) (pv 1) U) (bI (jH (pv 0) (pv 2) U) (gx (jH (pv 0) (pv 3) U))),(_,U,_,U,x,a.aV,dx,_,U,hx,T.cu,T.dr,(by show 0<1000;decide),(_,U,_,U,x,a.aV,dx,_,U,az,T.cu,T.bN,(by show 1<1000;decide),(_,U,_,U,x,a.aV,dx,_,U,az,T.cu,T.jK,(by show 2<1000;decide),?_))))
  rw[fE,fE];exact hq
theorem oX(T:Txt K mg a):bf P w K mg base CX0 3 a.dv a.jd [Zg,"number"] (spQ K (FJ a.aV)):=by
 refine T.jk.F.okQ oF (λ_ _ _ _ _ _ hr=>?_)
 ·have hu:=bh hr;refine(_,_,((ag (aT (bH hu (ao (qv 0) ah) (Zc aH))
 (aj (aE (aO ai)))
 aF)
 (ag (aT (bH hu (ao (qv 0) ah) (Zc aH))
 (aj (aE (bD U (dZ (ao (qv 0) ah)) (N':=["arm","number"]) (.own U (.got (i:=1) U U (.inl U) .nil)) (bx (g:=(Tg.nm 0)) (λ_ _ _ _ _=>((ck 0),(g6 U T.xW (DJ T) (hr.mono al) U T.xV T.j4 (ae (ao (qv 0) ah) (ae (qv 1) (ae (qv 0) aw))))))))))
 aF)
 (aj (aE (aO (af (g6 U T.xW (DJ T) (hr.mono al) U T.xV T.j4 (ae (ao (qv 0) (Zc (jD ah))) (ae (qv 1) (ae (Zc cz) aw)))) ai))))))),λts Q h=>?_)
  let(b,n,U,hS,ak,hq):=h;cases hS with
  |give=>exact(_,U,U,aI (λ_=>hq) (λz=>absurd be z))
  |@cT w c b hw q =>
   have n1:¬ decide ((L2.T.s w).v=(L2.T.s "give").v)=true:=by obtain rfl|rfl:=hw <;> decide +kernel
   have V:¬ decide ((L2.T.s w).v=(L2.T.s "case").v)=true:=by obtain rfl|rfl:=hw <;> decide +kernel
   refine(_,U,U,aI (λz=>absurd z n1) λ_=>(_,U,U,aI (λz=>absurd z V) λ_=>(_,U,?_)))
   exact((by show(b.im&&(O&&(O&&O)))=O;rw[q];rfl),U,hq)
  |@name x y b q =>
   refine(_,U,U,aa ((_,U,U,aa ((_,U,?_)))))
   exact((by show(b.im&&(O&&(O&&O)))=O;rw[q];rfl),U,hq)
  |@use w x m ns b hw q =>
   have n1:¬ decide ((L2.T.s w).v=(L2.T.s "give").v)=true:=by obtain rfl|rfl:=hw <;> decide +kernel
   have V:¬ decide ((L2.T.s w).v=(L2.T.s "case").v)=true:=by obtain rfl|rfl:=hw <;> decide +kernel
   refine(_,U,U,aI (λz=>absurd z n1) λ_=>(_,U,U,aI (λz=>absurd z V) λ_=>(_,U,?_)))
   exact((by show(b.im&&(O&&(O&&O)))=O;rw[q];rfl),U,hq)
  |@case x arms q hl =>
   refine(_,U,U,aa ((_,U,U,aI (λ_=>?_) λz=>absurd be z)))
   refine(_,U,bE (by rw[cO];omega),λi ys=>ys=(arms.take i).map (λz=>spT a.aV z.2.2.1 (.i n) (tA z)),U,?_,?_)
   ·rintro i y ys hy rfl
    rw[fy]at hy;let(z,hz,U):=gs.mp hy;have hi:=q z (gV hz);refine(_,U,_,U,(by show(z.2.2.1.im&&(O&&((O&&(L2.T.ims (z.2.1.map .s)&&(z.2.2.1.im&&O)))&&O)))=O;rw[hi,aX];rfl),U,?_)
    show _++[spT a.aV z.2.2.1 (.i n) (tA z)]=_;rw[pM,hz];simp
   ·rintro ys rfl
    rw[cO,mu];have e:(subs (.t [.s "case",.s x,.t (arms.map tA)])).map (λp=>spT a.aV p.1 (.i n) p.2)=arms.map λz=>spT a.aV z.2.2.1 (.i n) (tA z):=by
     show((arms.map tA).map λx=>Prod.mk (Sv x) x).map _=_
     rw[rS,rS];rfl
    rw[e]at hq;exact hq
theorem sZ(T:Txt K mg a):bf P w K mg base CX0 4 a.rL a.Ek ["body"] (spQ K (M6 a.aV)):=by
 refine T.rV.F.okQ mj (λ_ _ _ _ _ _ hr=>?_)
 ·have hu:=bh hr;refine(_,_,((ag (aA 1 mj.nd (aO ai))
 (ag (aA 2 mj.nd (aO (af (g6 U T.xW (DJ T) (hr.mono al) U T.xV T.j4 (ae (qv 0) (ae (Zc cz) (ae (Zc cz) aw)))) ai)))
 (ag (mx PassesOwn.never (fX (qv 2))
 (ag (BF (j:=3) mj.nd U (Or.inl U) (pv 2))
 (ag (cN (i:=2) (pv 2) (zh U U T.jZ U T.lQ (Zc (aJ (oX T) hr T.jk (ae (a4 T.cu T.dr (qv 3)) (ae (Zc (bW T.cK (ae (qv 1) aw))) aw))))))
 (aj (bo (i:=1) (pv 1) (Zd (qv 3)))))))
 (aj (de (i:=1) (pv 1))))))),λts Q h=>?_)
  let(ks,hs,d,L,U,e1,e2,hP,hL,hq):=h;have ak:d.b.im=true:=by cases hP with|mk hk _=>exact hk.sh.im
  refine((by show(d.b.im&&(O&&(O&&O)))=O;rw[ak];rfl),U,?_)
  refine(λc q=>Z6 λ(A W M:List Nod)(X Y9:List L2.T)(V:Sl)=>q=[.r d.b,.o (.l X),.o (.l Y9),V]/\X=A.map (spN a.aV)/\Y9=W.reverse.map (spN a.aV)/\cw ks hs A.length W M/\L=A++M/\c=M.length,(_,[],[d],L,_,_,_,U,U,?_,?_,U,U),?_)
  ·show [spT a.aV d.b .n .n]=[spT a.aV d.b d.ab d.am];rw[e1,e2]
  ·have:=cw.cons hP (.nil)
   rwa [qg]at this
  rintro c q ⟨A,W,M,X,Y9,V,rfl,rfl,rfl,hM,g,rfl⟩
  cases W with
  |nil =>
   cases hM;rw[qg]at g;subst g;exact hq
  |cons v W =>
   let(cs,M',hK,U,h2):=hM.pop;have hle:=h2.le;have av:A.length+(M'.length+1)<=50000:=by rw[g,i5,pq]at hL;exact hL
   rw[i5]at hle;have eY:(v::W).reverse.map (spN a.aV)=W.reverse.map (spN a.aV)++[spN a.aV v]:=by simp
   have ar:cs.map (spN a.aV)=(subs v.b).map λp=>spT a.aV p.1 (.i A.length) p.2:=by
    rw[<- hK.su,rS];refine O0 λc hc=>?_
    let(j,hj,U):=qp hc;have e:=(hK.ok j _ (dN hj)).1;show spT _ _ _ _=spT _ _ _ _;rw[show cs[j].ab=.i A.length from congrArg Nod.ab e]
   refine aI (λ_=>?_) (λz=>absurd (by rw[eY];simp) z)
   refine(λq'=>∃(A W M:List Nod)(X Y9:List L2.T)(V:Sl),q'=[.r d.b,.o (.l X),.o (.l Y9),V]/\X=A.map (spN a.aV)/\Y9=W.reverse.map (spN a.aV)/\cw ks hs A.length W M/\L=A++M/\M.length<M'.length+1,?_,?_)
   ·rintro q' ⟨A,W,M,X,Y9,V,rfl,rfl,rfl,g1,g2,g3⟩
    exact(M.length,g3,A,W,M,_,_,_,U,U,U,g1,g2,U)
   ·refine(_,_,eY,ky λt ht=>by
     let(z,_,U):=j0.mp ht;rfl,ac,?_)
    refine(U,ac,_,U,v.b,A.length,(by rw[cO]),hK.sh,hK.sh.im,?_)
    refine(ky λt ht=>by
     let(z,_,U):=j0.mp ht;rfl,?_)
    rw[<- ar];refine(?_,?_)
    ·have:W.length+cs.length<=1002000:=al
     simp only[cO,Xe];exact uE (bE this)
    ·refine(bE (by rw[cO];omega),U,?_)
     exact(A++[v],cs++W,M',_,_,_,U,ad,ad,by rw[i5];exact h2,by simp[g],al)
def en{α:Type}(f:α->Str)(g:α->L2.T)(x:α):Key×L2.T:=(.inr (f x),g x)
theorem mK{f:α->Str}{g:α->L2.T}:∀xs:List α,cE (xs.map λx=>.t [.s (f x),g x])=Z (xs.map (en f g))
 |[]=>rfl
 |k::r=>by
  show(match(Z (.inr (f k))),cE (r.map λx=>.t [.s (f x),g x])with|some k',Z r=>Z ((Prod.mk k' (g k))::r)|_,_=>Y)=_
  rw[mK r];rfl
theorem zT{f:α->Str}{g:α->L2.T}{xs ys:List α}(h:((xs++ys).map f).Nodup):c7 (xs.map (en f g)) (ys.map (en f g))=(xs++ys).map (en f g):=by
 rw[j3]at h;let(h1,h2,h3):=uF.mp h;rw[mW,j3]
 ·rw[rS]
  have:(ys.map ((λx=>x.1) ∘ en f g))=(ys.map f).map Sum.inr:=by rw[rS];rfl
  rw[this];exact UD.mpr (h2.imp λK z=>K (Sum.inr.inj z))
 ·intro p hp q hq;let(x,hx,U):=j0.mp hp;let(y,P,U):=j0.mp hq;exact λz=>h3 _ (j0.mpr (y,P,U)) _ (j0.mpr (x,hx,U)) (Sum.inr.inj z)
theorem rR{f:α->Str}{g:α->L2.T}{xs:List α}(h:(xs.map f).Nodup):c7 [] (xs.map (en f g))=xs.map (en f g):=zT (xs:=[]) h
theorem mX{f:α->Str}{g:α->L2.T}:∀{xs:List α}{x:α},(xs.map f).Nodup->x∈xs->bC (xs.map (en f g)) (.inr (f x))=Z (g x)
 |y::r,x,h,hx=>by
  have h':=uj.mp h;unfold bC;rw[qS,vF,show(en f g y).1=.inr (f y)from U,tT];by_cases e:f y=f x
  ·rw[decide_eq_true e];obtain rfl|z:=kO.mp hx
   ·rfl
   ·exact absurd (j0.mpr (x,z,e.symm)) h'.1
  ·rw[decide_eq_false e];obtain rfl|z:=kO.mp hx
   ·exact absurd U e
   ·exact mX h'.2 z
abbrev enM:Mk1->Key×L2.T:=en (·.1) λm=>.t (m.2.map .s)
abbrev enP:Str×Str->Key×L2.T:=en (·.1) λp=>.s p.2
theorem Nq(ms:List Mk1):cE (ms.map tM)=Z (ms.map enM):=mK ms
theorem xN(sc:Sc):cE (sc.map tP)=Z (sc.map enP):=mK sc
theorem xY(h:(sc.map (·.1)).Nodup)(hx:(x,k)∈sc):bC (sc.map enP) (.inr x)=Z (.s k):=mX h hx
theorem t5:∀{ks:List Kd}{i j:Nat}{k k':Kd}{m m':Mk1},(names ks).Nodup->ks[i]?=Z k->ks[j]?=Z k'->m∈k.2->m'∈k'.2->m.1=m'.1->i=j
 |x::r,0,0,_,_,_,_,_,_,_,_,_,_=>rfl
 |x::r,i+1,j+1,k,k',m,m',h,h1,h2,h3,h4,h5=>by
  exact congrArg (· + 1) (t5 (uF.mp h).2.1 (h1:) (h2:) h3 h4 h5)
 |x::r,0,j+1,k,k',m,m',h,h1,h2,h3,h4,h5=>by
  cases h1;exact absurd h5 ((uF.mp h).2.2 _ (j0.mpr (m,h3,U)) _ (WO.mpr (k',gV (h2:),j0.mpr (m',h4,U))))
 |x::r,i+1,0,k,k',m,m',h,h1,h2,h3,h4,h5=>by
  cases h2;exact absurd h5.symm ((uF.mp h).2.2 _ (j0.mpr (m',h4,U)) _ (WO.mpr (k,gV (h1:),j0.mpr (m,h3,U))))
theorem zQ(h:(names ks).Nodup)(hk:k∈ks):(k.2.map (·.1)).Nodup:=by
 induction ks with
 |nil=>cases hk
 |cons x r g =>
  let(h1,h2,_):=uF.mp h;obtain rfl|z:=kO.mp hk
  ·exact h1
  ·exact g h2 z
theorem DO(h:(ks.map (·.1)).Nodup)(hk:k∈ks):cV ks k.1=k.2:=by
 let(i,hi,U):=qp hk;refine xX (dN hi) U λj y z q e=>?_
 have g:j<ks.length:=al
 rw[dN g]at q;cases q
 have:=(YV (h₀:=(g:)) (h₁:=(hi:)) h).mp (e:)
 lia
inductive Pth(ks:List Kd)(hs:List Hd):Sc->List (Nat×L2.T×Nat)->Sc->Prop
 |nil{sc:Sc}:Pth ks hs sc [] sc
 |cons{sc sc' Tq:Sc}{n j:Nat}{b b' am:L2.T}{r:List (Nat×L2.T×Nat)}:Kid ks hs sc b j b' am sc'->Pth ks hs sc' r Tq->Pth ks hs sc ((n,b,j)::r) Tq
theorem Pth.snoc(h:Pth ks hs g pa sc)(hk:Kid ks hs sc b j b' am sc'):Pth ks hs g (pa++[(n,b,j)]) sc':=by
 induction h with
 |nil=>exact .cons hk .nil
 |cons h1 _ q=>exact .cons h1 (q hk)
theorem cw.all{R:Nod->Prop}(hk:∀n d j b am sc,R d->Kid ks hs d.sc d.b j b am sc->R (J8 n d j b am sc)):∀(k:Nat){n:Nat}{ds M:List Nod},M.length=k->cw ks hs n ds M->(∀d∈ds,R d)->∀e∈M,R e:=by
 intro k
 induction k with
 |zero =>
  intro n ds M hl h h0 e he;rw[uC.mp hl]at he;cases he
 |succ k g =>
  intro n ds M hl h h0 e he;cases ds with
  |nil=>cases h;simp at hl
  |cons d0 ds =>
   let(cs,L',P,U,h2):=h.pop;have hd:=h0 d0 j2;obtain rfl|he:=kO.mp he
   ·exact hd
   ·refine g (hl:) h2 (λc K=>?_) e he
    obtain z|z:=i6.mp K
    ·let(j,q,U):=qp z;let(V,Q):=P.ok j _ (dN q);rw[V];exact hk _ _ _ _ _ _ hd Q
    ·exact h0 c (j1 _ z)
theorem Kid.nd{ks:List Kd}{b b' am:L2.T}(h:Kid ks hs sc b j b' am sc')(hn:(sc.map (·.1)).Nodup):(sc'.map (·.1)).Nodup:=by
 have one:∀{x k:Str},x ∉ sc.map (·.1)->((sc++[Prod.mk x k]).map (·.1)).Nodup:=λ{x k} hx=>by
  rw[j3];exact uF.mpr (hn,ad,λy q z g e=>hx (by rw[qS,List.map_nil,d2]at g;subst g;rw[<- e];exact q))
 cases h with
 |cT=>exact hn
 |name _ hx=>exact one hx
 |make _ _ hx=>exact one hx
 |call _ hx=>exact one hx
 |case _ _ _ _ _ hl K =>
  rw[j3,Yg al]
  exact K
theorem Kid.ext(h:Kid ks hs sc b j b' am sc'):sc'=sc++sc'.drop sc.length:=by
 cases h <;> simp
theorem Kid.dep(h:Kid ks hs sc b j b' am sc')(hd:Dep (N+1) b):Dep N b':=by
 have sub:∀{M:Nat}{xs:List L2.T}{x:L2.T},Dep M (.t xs)->x∈xs->Dep (M-1) x:=λ{M xs x} h hx=>by
  cases M with
  |zero=>obtain⟨_,z⟩|⟨_,z⟩:=h <;> cases z
  |succ M =>
   obtain⟨_,z⟩|⟨_,z⟩|⟨_,z,h⟩:=h
   ·cases z
   ·cases z
   ·cases z;exact h _ hx
 cases h with
 |cT=>exact sub hd ad
 |name=>exact sub hd ad
 |make=>exact sub hd ad
 |call=>exact sub hd ad
 |@case _ _ arms _ ar _ _ _ _ ha =>
  have h1:=sub hd (x:=.t (arms.map tA)) ad
  have h2:=sub h1 (j0.mpr (ar,gV ha,U));have h3:=sub h2 (x:=ar.2.2.1) ad
  exact h3.mono al
def iN(z:Nat):L2.T:=.i (z:Int)
theorem vY(T:Txt K mg a):bf P w K mg base CX0 5 a.nj a.As ["body"] (spQ K Je):=by
 refine T.uQ.F.okQ Fh (λ_ _ _ _ _ _ hr=>?_)
 ·have hu:=bh hr;refine(_,_,((aj (aE (bD U (eZ (Zc (aJ (sZ T) hr T.rV (ae (qv 0) aw)))) (N':=["spot"]) (.own U .nil) (bx (g:=(Tg.nm 0)) (λ_ _ _ _ _=>((ck 0),(Zd (a4 T.cu T.dr (qv 0)))))))))),λts Q h=>?_)
  let(ks,hs,d,L,U,e1,e2,hP,hL,hq):=h;have q:=(show cw ks hs 0 [d] L by have:=cw.cons hP (.nil);rwa [qg]at this).ims
  refine(ks,hs,d,L,U,e1,e2,hP,hL,bE (by rw[cO];omega),λi ys=>ys=(L.take i).map (·.b),U,?_,?_)
  ·rintro i y ys hy rfl
   rw[fy]at hy;let(z,V,U):=gs.mp hy;refine(_,U,U,ac,_,U,q z (gV V),?_)
   show _++[z.b]=_;rw[pM,V];simp
  ·rintro ys rfl
   rw[cO,mu];exact hq
inductive zt(ts:List L2.T)(Q:L2.T->Prop):Prop
 |mk(fs:List Fn)(j:Nat)(f:Fn)(h1:ts=[.t (fs.map tF),.s f.1.1])(h2:(fs.map (·.1.1)).Nodup)(h3:(∀f∈fs,f.2.1.im=O))(h4:fs.length<=8)(h5:fs[j]?=Z f)(h6:Q (.i (j:Int)))
theorem zP{α β:Type}{f:α->β}{xs:List α}(h:(xs.map f).Nodup){x y:α}(hx:xs[i]?=Z x)(g:xs[j]?=Z y)(e:f x=f y):i=j:=by
 have hi:=(g5.mp hx).1;exact(YR (hi:) h).mp (by rw[fy,fy,hx,g];exact congrArg Z e)
theorem pB{fs:List Fn}(h:∀f∈fs,f.2.1.im=O):L2.T.ims (fs.map tF)=true:=ky λt g=>by
 let(f,hf,U):=j0.mp g;show(O&&(L2.T.ims (f.1.2.1.map tP)&&(O&&(f.2.1.im&&O))))=O;rw[aU d6,h f hf];rfl
theorem fJ(T:Txt K mg a):bf P w K mg base CX0 1 a.gG a.pZ ["functions","name"] (spQ K zt):=by
 refine T.fk.F.okQ iA (λ_ _ _ _ _ _ hr=>?_)
 ·have hu:=bh hr;refine(_,_,((ag (bb (g:=(Tg.tp [2,3])) PassesOwn.never U (ku U T.bp bi (ae (qv 0) aw)) (cJ (aY 2 iA.nd) (aY 3 iA.nd))
 (aj (aT (bH hu (ao (qv 3) ah) (qv 1))
 (aj (aE (Zd (qv 2))))
 aF)))
 (aj (aE cz)))),λts Q h=>?_)
  let(fs,j,f,U,hn,av,h8,hf,hq):=h;refine(pB av,λi q=>(∃o2 o3,q=[.r (.t (fs.map tF)),.r (.s f.1.1),o2,o3])/\i<=j,((_,_,U),v5 _),?_,?_)
  ·rintro i x q hx ⟨⟨o2,o3,rfl⟩,ak⟩
   let(y,hy,U):=bQ hx;rw[fy]at hy;let(f',ar,U):=gs.mp hy;refine(_,U,_,U,U,aI (λg=>?_) λg=>((_,_,U),?_))
   ·have:=zP hn ar hf (V.str.inj (of_decide_eq_true g))
    subst this;exact(U,hq)
   ·obtain z|rfl:=Nat.lt_or_eq_of_le ak
    ·exact z
    ·rw[hf]at ar;cases ar;exact absurd (decide_eq_true U) g
  ·rintro q ⟨_,ak⟩
   rw[aZ,cO]at ak
   have:=(g5.mp hf).1
   omega
inductive Jh(ts:List L2.T)(Q:L2.T->Prop):Prop
 |mk(ks:List Kd)(kd:Kd)(m:Mk1)(h1:ts=[tKs ks,.s m.1])(h2:bw ks)(h3:kd∈ks)(h4:m∈kd.2)(h5:Q (.s kd.1))
theorem g8(T:Txt K mg a):bf P w K mg base CX0 1 a.dy a.jf ["kinds","maker"] (spQ K Jh):=by
 refine T.fD.F.okQ eM (λ_ _ _ _ _ _ hr=>?_)
 ·refine(_,_,((ag (bb (g:=(Tg.tp [2,3])) PassesOwn.never U (eR (Zd (qv 0))) (cJ (aY 2 eM.nd) (aY 3 eM.nd))
 (aj (aT (bG (xQ U) sy U (qv 1) (Zc (bD U (dZ (qv 3)) (N':=["one"]) (.own U .nil) (bx (g:=(Tg.nm 0)) (λ_ _ _ _ _=>((ck 0),(Zd (ao (qv 0) ah))))))))
 (aj (aE (Zd (qv 2))))
 aF)))
 (aj (aE cz)))),λts Q h=>?_)
  let(ks,kd,m,U,gk,ay,hm,hq):=h;let(j,hj,aP):=qp ay;have ak:ks[j]?=Z kd:=by rw[dN hj,aP]
  refine(iR ks,λi q=>(∃o2 o3,q=[.r (tKs ks),.r (.s m.1),o2,o3])/\i<=j,((_,_,U),v5 _),?_,?_)
  ·rintro i x q hx ⟨⟨o2,o3,rfl⟩,ar⟩
   rw[fy]at hx;let(k',V,U):=gs.mp hx;refine(_,U,aC (by rw[cO];have:=(gk.ne k' (gV V)).2;lia),λi ys=>ys=((k'.2.take i).map (·.1)).map .s,U,?_,?_)
   ·rintro i' y ys hy rfl
    rw[fy]at hy;let(z,hz,U):=gs.mp hy;refine(_,U,_,U,U,?_);rw[pM,hz];simp
   ·rintro ys rfl
    rw[cO,mu];have aQ:inT (L2.T.s m.1) ((k'.2.map (·.1)).map L2.T.s)=O ↔ i=j:=by
     rw[gb,DV]
     constructor
     ·intro g;let(m',av,em):=j0.mp g;exact t5 gk.mn V ak av hm em
     ·rintro rfl
      rw[ak]at V;cases V;exact j0.mpr (m,hm,U)
    refine(by rw[t9];rfl,aI (λg=>?_) λg=>?_)
    ·have e:=aQ.mp g;subst e;rw[ak]at V;cases V;exact(U,hq)
    ·exact((_,_,U),al)
  ·rintro q ⟨_,ar⟩
   rw[cO]at ar
   lia
inductive FI(ts:List L2.T)(Q:L2.T->Prop):Prop
 |mk(ks:List Kd)(fs:List Fn)(sc sc':Sc)(b b' am:L2.T)(j:Nat)(kt:L2.T)(h1:ts=[.t [tKs ks,.t (fs.map tF)],b,am,kt])(h2:kt.dof=Z (sc.map enP))(h3:Prog ks fs)(h4:Kid ks (fs.map (·.1)) sc b j b' am sc')(h5:(sc.map (·.1)).Nodup)(h6:(∀p∈sc,p.2∈ks.map (·.1)))(h7:Q (.l ((sc'.drop sc.length).map tP)))
theorem pR(T:Txt K mg a):bf P w K mg base CX0 2 a.iX a.um ["program",Zg,"arm","kinds"] (spQ K FI):=by
 refine T.lZ.F.okQ ju (λ_ _ _ _ _ _ hr=>?_)
 ·have hu:=bh hr;refine(_,_,((ag (aA 4 ju.nd (Zd (ao (qv 1) ah)))
 (ag (aT (bH hu (qv 4) (Zc aH))
 (aj (aE (aO (af (aq (af (Zd (ao (qv 1) ah)) (af (aJ (g8 T) hr T.fD (ae (ao (qv 0) ah) (ae (ao (qv 1) ah) aw))) ai))) ai))))
 aF)
 (ag (aT (bH hu (qv 4) (Zc aH))
 (aj (aE (aO (af (aq (af (Zd (ao (qv 1) ah)) (af (Zd (ao (ao (ao (qv 0) ah) (Zc (aJ (fJ T) hr T.fk (ae (ao (qv 0) ah) (ae (ao (qv 1) ah) aw))))) ah)) ai))) ai))))
 aF)
 (ag (aT (bH hu (qv 4) (Zc aH))
 (aj (aE (aO (af (aq (af (Zd (ao (qv 1) ah)) (af (Zd (cG (qv 3) (ao (qv 1) ah))) ai))) ai))))
 aF)
 (ag (aT (bH hu (qv 4) (Zc aH))
 (ag (aA 5 ju.nd (aL (cv U) cY ap T.eB bi (ae (Zc (aJ (mR T) hr T.ko (ae (ao (qv 0) ah) (ae (cG (qv 3) (ao (qv 1) ah)) aw)))) aw)))
 (aj (aE (BG U U T.jZ U T.PJ (ae (ao (qv 2) ah) (ae (cG (qv 5) (ao (qv 2) ah)) aw))))))
 aF)
 (aj (aE (aO ai))))))))),λts Q h=>?_)
  let(ks,fs,sc,sc',b,b',am,j,kt,U,ak,q,hK,V,aR,hq):=h;cases hK with
  |@cT w c b hw =>
   have n1:¬ decide ((L2.T.s w).v=(L2.T.s "make").v)=true:=by obtain rfl|rfl:=hw <;> decide +kernel
   have n2:¬ decide ((L2.T.s w).v=(L2.T.s "call").v)=true:=by obtain rfl|rfl:=hw <;> decide +kernel
   have n3:¬ decide ((L2.T.s w).v=(L2.T.s "name").v)=true:=by obtain rfl|rfl:=hw <;> decide +kernel
   have n4:¬ decide ((L2.T.s w).v=(L2.T.s "case").v)=true:=by obtain rfl|rfl:=hw <;> decide +kernel
   refine(_,U,U,U,aI (λz=>absurd z n1) λ_=>(U,aI (λz=>absurd z n2) λ_=>(U,aI (λz=>absurd z n3) λ_=>(U,aI (λz=>absurd z n4) λ_=>?_))))
   rw[Yj]at hq;exact hq
  |name hy hx =>
   refine(_,U,U,U,aa ((U,aa ((U,aI (λ_=>?_) λz=>absurd be z)))))
   rw[Xo]at hq;refine(_,U,U,_,U,?_);simp only[gw,ak];exact(_,xY V hy,U,hq)
  |make g hm hx =>
   refine(_,U,U,U,aI (λ_=>?_) λz=>absurd be z)
   rw[Xo]at hq;exact(_,U,U,_,U,_,U,ks,_,_,U,q.gk,g,hm,hq)
  |call hh hx =>
   refine(_,U,U,U,aa ((U,aI (λ_=>?_) λz=>absurd be z)))
   rw[Xo]at hq;let(f,hf,U):=j0.mp hh;let(i,hi,aQ):=qp hf;have av:fs[i]?=Z f:=by rw[dN hi,aQ]
   refine(_,U,U,_,U,_,U,_,U,fs,i,f,U,q.hn,λf hf=>(q.sn f hf).1.im,q.l8,av,?_)
   exact(_,bc (v:=tF f) (by rw[fy,av];rfl),_,U,U,hq)
  |@case x kd arms _ ar m hx g ay ha hm hl hN =>
   refine(_,U,U,U,aa ((U,aa ((U,aa ((U,aI (λ_=>?_) λz=>absurd be z)))))))
   rw[Xo]at hq;refine(_,U,_,U,?_);simp only[gw,ak];refine(_,xY V hx,ks,kd.1,U,?_);rw[DO q.gk.nd g];refine(aU DZ _,_,Nq kd.2,?_);rw[rR (zQ q.gk.mn g)];have em:ar.1=m.1:=by
    have:=congrArg (·[j]?) ay
    simp only[fy,ha,hm]at this;exact Option.some.inj this
   have aP:bC (kd.2.map enM) (.inr ar.1)=Z (.t (m.2.map .s)):=by rw[em];exact mX (zQ q.gk.mn g) (gV hm)
   refine(_,U,_,U,_,aP,aX _,aX _,?_);have ez:LO (ar.2.1.map L2.T.s) (m.2.map L2.T.s)=(ar.2.1.zip m.2).map tP:=by
    unfold LO;rw[List.zip_map,rS];rfl
   rw[ez];exact hq
theorem Kid.sk(gk:bw ks)(K:∀h∈hs,h.2.2∈ks.map (·.1))(h:Kid ks hs sc b j b' am sc')(hn:∀p∈sc,p.2∈ks.map (·.1)):∀p∈sc',p.2∈ks.map (·.1):=by
 have one:∀{x k:Str},k∈ks.map (·.1)->∀p∈sc++[(x,k)],p.2∈ks.map (·.1):=λ{x k} hk p hp=>by
  obtain z|z:=i6.mp hp
  ·exact hn p z
  ·rw[d2.mp z];exact hk
 cases h with
 |cT=>exact hn
 |name q hx=>exact one (hn _ q)
 |make g _ hx=>exact one (j0.mpr (_,g,U))
 |call h1 hx=>exact one (K _ h1)
 |@case _ kd _ _ _ m _ g _ _ hm hl P =>
  intro p hp;obtain z|z:=i6.mp hp
  ·exact hn p z
  ·exact(gk.fl kd g m (gV hm)).2 _ (Xj z).2
def rtN(f:Fn):Nod:=(f.2.1,.n,.n,[],f.1.2.1)
structure Good(ks:List Kd)(fs:List Fn)(f:Fn)(e:Nod):Prop where
 nd:(e.sc.map (·.1)).Nodup
 sk:∀p∈e.sc,p.2∈ks.map (·.1)
 pt:Pth ks (fs.map (·.1)) f.1.2.1 e.pa e.sc
 dp:∃N,N+e.pa.length=92/\Dep N e.b
 sl:e.sc.length<=4+4*e.pa.length
 pi:∀s∈e.pa,s.2.1.im=O
variable{e:Nod}
theorem Good.lim(g:Good ks fs f e):e.sc.length<=372:=by
 let(N,h,d):=g.dp
 have:=g.sl
 lia
theorem Kid.len(gk:bw ks)(h:Kid ks hs sc b j b' am sc'):sc'.length<=sc.length+4:=by
 cases h with
 |cT=>lia
 |name=>simp
 |make=>simp
 |call=>simp
 |@case _ kd _ _ _ m _ g _ _ hm hl q =>
  have:=(gk.fl kd g m (gV hm)).1
  rw[i5,P5]
  lia
theorem Kid.tup(h:Kid ks hs sc b j b' am sc'):¬ Dep 0 b:=by
 rintro(⟨_,z⟩|⟨_,z⟩) <;> cases h <;> cases z
theorem KH:∀{N:Nat}{t:L2.T},Dep N t->t.im=O
 | 0,_,h=>by obtain⟨_,rfl⟩|⟨_,rfl⟩:=h <;> rfl
 |N+1,_,h=>by
  obtain⟨_,rfl⟩|⟨_,rfl⟩|⟨ts,rfl,h⟩:=h
  ·rfl
  ·rfl
  ·exact ky λt g=>KH (h t g)
theorem Ad(q:Prog ks fs)(hf:f∈fs)(V:cw ks (fs.map (·.1)) 0 [rtN f] L):∀e∈L,Good ks fs f e:=by
 let(p1,p2,p3,p4):=q.pk f hf;refine V.all (R:=Good ks fs f) (λn d j b am sc g hk=>(hk.nd g.nd,hk.sk q.gk (λh Q=>?_) g.sk,g.pt.snoc hk,?_,?_,λs hs=>?_)) _ U λd hd=>?_
 ·let(f',P,U):=j0.mp Q;exact(q.pk f' P).2.2.2
 ·let(N,hN,K):=g.dp;cases N with
  |zero=>exact absurd K hk.tup
  |succ N=>exact(N,by show N+(d.pa++[_]).length=92;simp;lia,hk.dep K)
 ·have:=hk.len q.gk
  have:=g.sl
  show sc.length<=4+4*(d.pa++[_]).length;simp;lia
 ·obtain z|z:=i6.mp hs
  ·exact g.pi s z
  ·rw[d2.mp z];let(N,_,K):=g.dp;exact KH K
 ·rw[d2.mp hd];exact(p3,p2,.nil,(92,U,q.dp f hf),p1,bY)
theorem m4:∀sc:Sc,L2.T.imk (sc.map enP)=O
 |[]=>rfl
 |p::r=>by show(O&&L2.T.imk (r.map enP))=O;rw[m4 r];rfl
def tPr(ks:List Kd)(fs:List Fn):L2.T:=.t [tKs ks,.t (fs.map tF)]
inductive Nb(ts:List L2.T)(Q:L2.T->Prop):Prop
 |mk (ks:List Kd) (fs:List Fn) (i:Nat) (f:Fn) (L:List Nod) (h1:ts=[tPr ks fs,iN i]) (h2:Prog ks fs) (h3:fs[i]?=Z f) (h4:Pre ks (fs.map (·.1)) 0 (rtN f) L) (h5:L.length<=50000) (h6:∀X:List L2.T,X.map L2.T.dof=L.map (λe=>Z (e.sc.map enP))->Q (.l X))
theorem tj(T:Txt K mg a):bf P w K mg base CX0 5 a.fc a.k7 ["program","f"] (spQ K Nb):=by
 refine T.lg.F.okQ cZ (λ_ _ _ _ _ _ hr=>?_)
 ·have hu:=bh hr;refine(_,_,((ag (aA 2 cZ.nd (aO ai))
 (ag (aA 3 cZ.nd (aJ (sZ T) hr T.rV (ae (ao (ao (ao (qv 0) ah) (qv 1)) ah) aw)))
 (ag (bb (g:=(Tg.nm 4)) PassesOwn.never U (Dg (i:=3) (pv 3)) (aY 4 cZ.nd)
 (aj (aT (bG sY me (bF _) (a4 T.cu T.bN (qv 4)) (Zc cz))
 (aj (bo (i:=2) (pv 2) (rh (aL (cv U) cY ap T.eB bi (ae (ao (ao (ao (qv 0) ah) (qv 1)) ah) aw)))))
 (ag (aA 5 cZ.nd (aL eh fF ap T.eB bi (ae (ao (qv 2) (a4 T.cu T.bN (qv 4))) aw)))
 (ag (Qs (i:=5) U (pv 5) (aJ (pR T) hr T.lZ (ae (qv 0) (ae (a4 T.cu T.dr (ao (qv 3) (a4 T.cu T.bN (qv 4)))) (ae (a4 T.cu T.jK (qv 4)) (ae (qv 5) aw))))))
 (aj (oN (i:=5) (bo (i:=2) (pv 2) (Zd (qv 5))))))))))
 (aj (de (i:=2) (pv 2))))))),λts Q h=>?_)
  let(ks,fs,i,f,L,U,hP,hf,hR,hL,hq):=h;have ay:cw ks (fs.map (·.1)) 0 [rtN f] L:=by have:=cw.cons hR (.nil);rwa [qg]at this
  have ar:=gV hf;have G:=Ad hP ar ay;have ef:atI (fs.map tF) (i:Int)=Z (tF f):=bc (by rw[fy,hf];rfl)
  refine(_,U,_,ef,_,U,ks,fs.map (·.1),rtN f,L,U,U,U,hR,hL,?_);refine(λc q=>∃(X:List L2.T)(o4 o5:Sl),q=[.r (tPr ks fs),.r (iN i),.o (.l X),.r (.l (L.map (spN a.aV))),o4,o5]/\X.map L2.T.dof=(L.take c).map λe=>Z (e.sc.map enP),(_,_,_,U,U),?_,?_)
  ·rintro c y q hy ⟨X,o4,o5,rfl,hX⟩
   rw[fy]at hy;let(e,he,U):=gs.mp hy;have bj:=(g5.mp he).1;have bp:X.length=c:=by
    have:=congrArg Ez hX
    rw[cO,cO,p7]at this
    lia
   have av:X.length<kf:=bE al
   have fin:∀t:L2.T,t.dof=Z (e.sc.map enP)->(X++[t]).map L2.T.dof=(L.take (c+1)).map λe=>Z (e.sc.map enP):=λt ht=>by
    rw[j3,hX,pM,he];simp[ht]
   refine(_,U,U,ac,_,U,?_)
   obtain⟨j,hj,_⟩|⟨p,V,cs,j,aR,ak,hK,hc⟩:=ay.from _ rfl c e he
   ·have:e=rtN f:=by
     cases j with
     |zero=>cases hj;rfl
     |succ j=>simp at hj
    subst this;refine(av,_,U,_,ef,_,U,aU d6 _,_,xN _,?_);rw[rR (hP.pk f ar).2.2.1];exact(m4 _,λo vs=>(_,_,_,U,fin _ U))
   ·rw[Es]at hK;let(a5,yf):=hK.ok j _ hc;let(eb,a3,a0,bM,z):=e;obtain rfl:a3=iN p:=congrArg Nod.ab a5;have g':=G V (gV ak);obtain⟨t,aQ,aP⟩:∃ t,X[p]?=Z t/\t.dof=Z (V.sc.map enP):=by
     have:=congrArg (·[p]?) hX
     simp only[fy,X9 aR,ak]at this;exact gs.mp this
    have a1:atI X (p:Int)=Z t:=bc aQ;have a2:atI (L.map (spN a.aV)) (p:Int)=Z (spN a.aV V):=bc (by rw[fy,ak];rfl)
    have em:c7 (V.sc.map enP) ((z.drop V.sc.length).map enP)=z.map enP:=by
     have ex:=yf.ext;have nn:=yf.nd g'.nd;rw[ex]at nn;rw[zT nn,<- ex]
    refine(U,ac,_,U,_,a1,?_)
    simp only[cb,oR,aP];refine(m4 _,?_);refine(U,ac,_,U,_,a2,U,ac,_,U,U,ac,_,U,ks,fs,V.sc,z,V.b,eb,a0,j,_,U,U,hP,yf,g'.nd,g'.sk,?_)
    refine(m4 _,aU d6 _,_,xN _,?_,?_)
    ·have:=g'.lim
     have:z.length<=V.sc.length+4:=yf.len hP.gk
     simp only[cO,QX];exact uE (bE al)
    ·rw[em];exact(m4 _,λo vs=>(av,U,_,_,_,U,fin _ U))
  ·rintro q ⟨X,o4,o5,rfl,hX⟩
   rw[cO,mu]at hX;exact hq X hX
def mkE(r:Str):Key×L2.T:=(.inr r,.b O)
theorem rC{rs:List Str}:(bC (rs.map mkE) (.inr s)).isSome=decide (s∈rs):=by
 unfold bC;rw[TH,List.find?_map];rw[TH,Wa,List.find?_isSome]
 constructor
 ·rintro⟨x,hx,e⟩
  have e:=of_decide_eq_true e;exact decide_eq_true (Sum.inr.inj e▸hx)
 ·intro h;exact(s,of_decide_eq_true h,decide_eq_true U)
theorem QZ(h:s ∉ rs):g7 (rs.map mkE) (.inr s) (.b O)=(rs++[s]).map mkE:=by
 unfold g7;rw[if_neg]
 ·simp[mkE]
 ·rw[W4,Lm]
  rintro⟨x,hx,e⟩
  have e:=of_decide_eq_true e;exact h (Sum.inr.inj e▸hx)
theorem Kg:∀rs:List Str,L2.T.imk (rs.map mkE)=O
 |[]=>rfl
 |p::r=>by show(O&&L2.T.imk (r.map mkE))=O;rw[Kg r];rfl
theorem m7{f:α->List β}:∀xs:List α,(∀x∈xs,(f x).length<=n)->(xs.flatMap f).length<=n*xs.length
 |[],_=>by simp
 |x::r,h=>by
  have h1:=h x j2;have h2:=m7 r λy g=>h y (j1 _ g)
  rw[YT,i5,pq,Nat.mul_succ]
  lia
theorem bw.lR(g:bw ks):(lR ks).length<=144:=by
 have h:=m7 (f:=λk=>k.2.flatMap (·.2)) (n:=24) ks λk hk=>by
  have h1:=m7 (f:=λm=>m.2) k.2 λm hm=>(g.fl k hk m hm).1
  have h2:=(g.ne k hk).2
  lia
 have h2:=g.k2;unfold L2.lR
 lia
inductive FF(ts:List L2.T)(Q:L2.T->Prop):Prop
 |mk(ks:List Kd)(k:Str)(h1:ts=[tKs ks,.s k])(h2:bw ks)(h3:∀rs:List Str,(∀s,s∈rs ↔ Reach ks k s)->Q (.d (rs.map mkE)))
theorem oY(T:Txt K mg a):bf P w K mg base CX0 2 a.dw a.je ["kinds","kind"] (spQ K FF):=by
 refine T.jl.F.okQ b9 (λ_ _ _ _ _ _ hr=>?_)
 ·have hu:=bh hr;refine(_,_,((ag (aA 2 b9.nd (Iz (qv 1) (Zc Dk)))
 (ag (aA 3 b9.nd (aO (af (Zd (qv 1)) ai)))
 (ag (mx PassesOwn.never (fX (qv 3))
 (ag (BF (j:=4) b9.nd U (Or.inl U) (pv 3))
 (aj (bb (g:=(Tg.nm 5)) PassesOwn.never U (eR (aJ (mR T) hr T.ko (ae (qv 0) (ae (qv 4) aw)))) (aY 5 b9.nd)
 (aj (bb (g:=(Tg.nm 6)) PassesOwn.never U (eR (Zd (ao (qv 5) ah))) (aY 6 b9.nd)
 (aj (aT (bG (vW hu) mf U (qv 6) (qv 2))
 (ag (jC (i:=2) hu (pv 2) (qv 6) (Zc Dk))
 (aj (bo (i:=3) (pv 3) (Zd (qv 6)))))
 aF))))))))
 (aj (de (i:=2) (pv 2))))))),λts Q h=>?_)
  let(ks,k,U,gk,hq):=h;have av:=gk.lR;refine(U,U,λc q=>Z7 λ(rs W:List Str)(D:List (Key×L2.T))(X:List L2.T)(o4 o5 V:Sl)=>q=[.r (tKs ks),.r (.s k),.o (.d D),.o (.l X),o4,o5,V]/\D=rs.map mkE/\X=W.map .s/\RWt ks k rs W/\c=2*un (lR ks) rs+W.length,(_,[k],[k],_,_,_,_,_,U,U,U,.start,U),?_)
  rintro c q ⟨rs,W,D,X,o4,o5,V,rfl,rfl,rfl,R,rfl⟩
  obtain rfl |⟨W,here,rfl⟩:=Xm W
  ·exact hq rs λs=>R.all
  ·rw[XF]at *;have R0:=R.pop
   generalize hc:2*un (lR ks) rs+(W++[here]).length=c at R0 ⊢
   refine aI (λ_=>?_) (λz=>absurd ad z)
   refine(λq'=>∃(rs W:List Str)(D:List (Key×L2.T))(X:List L2.T)(o4 o5 V:Sl),q'=[.r (tKs ks),.r (.s k),.o (.d D),.o (.l X),o4,o5,V]/\D=rs.map mkE/\X=W.map .s/\RWt ks k rs W/\2*un (lR ks) rs+W.length<c,?_,?_)
   ·rintro q' ⟨rs,W,D,X,o4,o5,V,rfl,rfl,rfl,g1,g2⟩
    exact(_,g2,rs,W,_,_,_,_,_,U,U,U,g1,U)
   ·refine(W.map .s,.s here,ad,aX _,ac,ks,here,U,?_)
    refine(λi q=>Z7 λ(rs W:List Str)(D:List (Key×L2.T))(X:List L2.T)(o4 o5 V:Sl)=>q=[.r (tKs ks),.r (.s k),.o (.d D),.o (.l X),o4,o5,V]/\D=rs.map mkE/\X=W.map .s/\RS ks k here (((cV ks here).take i).flatMap (·.2)) rs W c,(rs,W,_,_,_,_,_,U,U,U,R0),?_,?_)
    ·rintro i y q hy ⟨rs,W,D,X,o4,o5,V,rfl,rfl,rfl,R1⟩
     rw[fy]at hy;let(m,hm,U):=gs.mp hy;refine(_,U,_,U,aX _,λj q=>Z7 λ(rs W:List Str)(D:List (Key×L2.T))(X:List L2.T)(o4 o5 V:Sl)=>q=[.r (tKs ks),.r (.s k),.o (.d D),.o (.l X),o4,o5,V]/\D=rs.map mkE/\X=W.map .s/\RS ks k here (((cV ks here).take i).flatMap (·.2)++m.2.take j) rs W c,(rs,W,_,_,_,_,_,U,U,U,by rw[List.take_zero,qg];exact R1),?_,?_)
     ·rintro j y q hy ⟨rs,W,D,X,o4,o5,V,rfl,rfl,rfl,R2⟩
      rw[fy]at hy;let(f,hf,U):=gs.mp hy;have ak:f∈yj ks here:=WO.mpr (m,gV hm,gV hf);have et:((cV ks here).take i).flatMap (·.2)++m.2.take (j+1)=(((cV ks here).take i).flatMap (·.2)++m.2.take j)++[f]:=by
       rw[pM,hf,u6];rfl
      have hsz:=R2.sz;have ar:=R2.sw;refine(_,U,aI (λg=>?_) λg=>?_)
      ·rw[rC]at g;have hn:f ∉ rs:=λz=>by rw[decide_eq_true z]at g;cases g
       refine(aC (by rw[cO];lia),Kg _,U,?_)
       rw[QZ hn];refine(aC (by rw[cO];lia),U,?_)
       exact(rs++[f],W++[f],_,_,_,_,_,U,U,ad,by rw[et];exact R2.new hn ak)
      ·rw[rC]at g;have hn:f∈rs:=by
        by_cases z:f∈rs
        ·exact z
        ·rw[decide_eq_false z]at g;exact absurd U g
       exact(rs,W,_,_,_,_,_,U,U,U,by rw[et];exact R2.old hn)
     ·rintro q ⟨rs,W,D,X,o4,o5,V,rfl,rfl,rfl,R2⟩
      rw[cO,mu]at R2;exact(rs,W,_,_,_,_,_,U,U,U,by rw[<- ox (f:=λm:Mk1=>m.2) hm];exact R2)
    ·rintro q ⟨rs,W,D,X,o4,o5,V,rfl,rfl,rfl,R1⟩
     rw[cO,mu]at R1;exact(rs,W,_,_,_,_,_,U,U,U,R1.fin U,R1.m)
inductive I0(ts:List L2.T)(Q:L2.T->Prop):Prop
 |mk(ks:List Kd)(k:Str)(h1:ts=[tKs ks,.s k])(h2:bw ks)(h3:Q (.t ((cy ks k ks).map .s)))
theorem bw.wl(g:bw ks){xs:List Kd}(h:∀x∈xs,x∈ks):(cy ks k xs).length<=6*xs.length:=by
 refine m7 xs λx hx=>?_
 split
 ·rw[cO];exact(g.ne x (h x hx)).2
 ·exact v5 _
theorem oW(T:Txt K mg a):bf P w K mg base CX0 3 a.m9 a.An ["kinds","kind"] (spQ K I0):=by
 refine T.nW.F.okQ gZ (λ_ _ _ _ _ _ hr=>?_)
 ·have hu:=bh hr;refine(_,_,((ag (aA 2 gZ.nd (aJ (oY T) hr T.jl (ae (qv 0) (ae (qv 1) aw))))
 (ag (aA 3 gZ.nd (aO ai))
 (ag (bb (g:=(Tg.tp [4,5])) PassesOwn.never U (eR (Zd (qv 0))) (cJ (aY 4 gZ.nd) (aY 5 gZ.nd))
 (aj (aT (bG (xS hu) mf U (qv 4) (qv 2))
 (aj (cN (i:=3) (pv 3) (bD U (dZ (qv 5)) (N':=["maker"]) (.own U .nil) (bx (g:=(Tg.nm 0)) (λ_ _ _ _ _=>((ck 0),(Zd (ao (qv 0) ah))))))))
 aF)))
 (aj (aE (aL (bK U) bS ap T.cH bi (ae (qv 3) aw)))))))),λts Q h=>?_)
  let(ks,k,U,gk,hq):=h;have k6:=gk.k2;refine(ks,k,U,gk,λrs V=>?_)
  refine(iR ks,λi q=>P3 λ(X:List L2.T)(o4 o5:Sl)=>q=[.r (tKs ks),.r (.s k),.o (.d (rs.map mkE)),.o (.l X),o4,o5]/\X=(cy ks k (ks.take i)).map .s,(_,_,_,U,U),?_,?_)
  ·rintro i y q hy ⟨X,o4,o5,rfl,rfl⟩
   rw[fy]at hy;let(x,hx,U):=gs.mp hy;have hl:=gk.wl (k:=k) (xs:=ks.take i) λy hy=>Fs hy
   have ar:(ks.take i).length<=6:=by rw[p7];lia
   have ak:=(gk.ne x (gV hx)).2;refine(_,U,aI (λg=>?_) λg=>?_)
   ·rw[rC]at g;have hR:=(V _).mp (of_decide_eq_true g);refine(aC (by rw[cO];lia),λj ys=>ys=((x.2.take j).map (·.1)).map .s,U,?_,?_)
    ·rintro j z ys hz rfl
     rw[fy]at hz;let(m,hm,U):=gs.mp hz;refine(_,U,_,U,U,?_);show _++[L2.T.s m.1]=_;rw[pM,hm];simp
    ·rintro ys rfl
     rw[cO,mu];refine(?_,?_)
     ·simp only[cO];exact uE (aC al)
     ·exact(_,_,_,U,by rw[GV hx hR,j3])
   ·rw[rC]at g;have hR:¬ Reach ks k x.1:=λz=>g (decide_eq_true ((V _).mpr z))
    exact(_,_,_,U,by rw[LR hx hR])
  ·rintro q ⟨X,o4,o5,rfl,rfl⟩
   rw[cO,mu];exact(aX _,hq)
inductive M4(ts:List L2.T)(Q:L2.T->Prop):Prop
 |mk (ks:List Kd) (u:L2.T) (fam:List L2.T) (k:Str) (h1:ts=[.t [tKs ks,u],.t fam,.s k]) (h2:bw ks) (h3:L2.T.ims fam=O) (h4:fam.length<=10) (h5:Q (.l ((cy ks k ks).map λm=>.t (fam++[.s m]))))
theorem jJ(T:Txt K mg a):bf P w K mg base CX0 4 a.fb a.kZ ["program","family","kind"] (spQ K M4):=by
 refine T.cP.F.okQ sC (λ_ _ _ _ _ _ hr=>?_)
 ·have V:=bh hr;refine(_,_,((aj (aE (bD U (dZ (Zc (aJ (oW T) hr T.nW (ae (ao (qv 0) ah) (ae (qv 2) aw))))) (N':=["maker","family"]) (.own U (.got (i:=1) U U (.inl U) .nil)) (bx (g:=(Tg.nm 0)) (λ_ _ _ _ _=>((ck 0),(aS (qv 1) (Zc (aq (af (Zd (qv 0)) ai))))))))))),λts Q h=>?_)
  let(ks,u,fam,k,U,gk,hi,hl,hq):=h;have z:=gk.k2;have wl:=gk.wl (k:=k) (xs:=ks) λ_ h=>h
  refine(_,U,ks,k,U,gk,aC (by rw[cO];omega),λi ys=>ys=((cy ks k ks).take i).map λm=>.t (fam++[.s m]),U,?_,?_)
  ·rintro i y ys q rfl
   rw[fy]at q;let(m,hm,U):=gs.mp q;refine(_,U,U,bz (by show fam.length+1<=10000;omega),hi,U,?_)
   rw[pM,hm];simp
  ·rintro ys rfl
   rw[cO,mu];exact hq
noncomputable def A8(ks:List Kd)(i n:Nat)(o:Option Str):List L2.T:=match o with
 |some k=>(cy ks k ks).map λm=>.t [.s "piece",iN i,iN n,.s m]
 |none=>[]
noncomputable def dG(ks:List Kd)(i:Nat):Nat->List (Option Str)->List L2.T
 |_,[]=>[]
 |n,o::r=>A8 ks i n o++dG ks i (n+1) r
theorem A6:∀{n:Nat},dG ks i n (os++[o])=dG ks i n os++A8 ks i (n+os.length) o:=by
 induction os with
 |nil=>intro n;show _++[]=[]++_;rw[qg];rfl
 |cons p r g=>intro n;show _++dG ks i (n+1) (r++[o])=(_++_)++_;rw[g,u6,pq,show n+1+r.length=n+(r.length+1)by lia]
theorem G9(g:bw ks):(A8 ks i n o).length<=36:=by
 unfold A8
 split
 ·rw[cO]
  have:=g.wl (k:=by assumption) λ_ h=>h
  have:=g.k2
  lia
 ·exact v5 _
theorem oj(g:bw ks):∀{n:Nat},(dG ks i n os).length<=36*os.length:=by
 induction os with
 |nil=>exact v5 _
 |cons p r q =>
  intro n;show(A8 ks i n p++dG ks i (n+1) r).length<=_;have h1:=G9 g (i:=i) (n:=n) (o:=p);have h2:=q (n:=n+1);rw[i5,pq]
  lia
theorem jN(h:n<=16000000):n<kf:=W8 h ac
structure nZ(ks:List Kd)(L:List Nod)(os:List (Option Str)):Prop where
 ln:os.length=L.length
 ok:∀(n:Nat)(e:Nod)(o:Option Str),L[n]?=Z e->os[n]?=Z o->Ask ks e.sc e.b o
inductive Rc(ts:List L2.T)(Q:L2.T->Prop):Prop
 |mk(ks:List Kd)(fs:List Fn)(i:Nat)(f:Fn)(L:List Nod)(os:List (Option Str))(h1:ts=[tPr ks fs,iN i])(h2:Prog ks fs)(h3:fs[i]?=Z f)(h4:Pre ks (fs.map (·.1)) 0 (rtN f) L)(h5:L.length<=50000)(h6:nZ ks L os)(h7:Q (.l (dG ks i 0 os)))
theorem mQ(T:Txt K mg a):bf P w K mg base CX0 6 a.dg a.ic ["program","f"] (spQ K Rc):=by
 refine T.iu.F.okQ bT (λ_ _ _ _ _ _ hr=>?_)
 ·have hu:=bh hr;refine(_,_,((ag (aA 2 bT.nd (aO ai))
 (ag (aA 3 bT.nd (aJ (tj T) hr T.lg (ae (qv 0) (ae (qv 1) aw))))
 (ag (bb (g:=(Tg.tp [4,5])) PassesOwn.never U (zf T.bp (aJ (vY T) hr T.uQ (ae (ao (ao (ao (qv 0) ah) (qv 1)) ah) aw))) (cJ (aY 4 bT.nd) (aY 5 bT.nd))
 (ag (aA 6 bT.nd (aq (af aH (af (Zd (qv 1)) (af (Zd (qv 4)) ai)))))
 (aj (aT (bH hu (ao (qv 5) ah) (Zc aH))
 (aj (cN (i:=2) (pv 2) (aJ (jJ T) hr T.cP (ae (qv 0) (ae (qv 6) (ae (Zc (aJ (g8 T) hr T.fD (ae (ao (qv 0) ah) (ae (ao (qv 5) ah) aw)))) aw))))))
 (aj (aT (bH hu (ao (qv 5) ah) (Zc aH))
 (aj (cN (i:=2) (pv 2) (aJ (jJ T) hr T.cP (ae (qv 0) (ae (qv 6) (ae (cG (ao (qv 3) (qv 4)) (ao (qv 5) ah)) aw))))))
 (aj (aT (bH hu (ao (qv 5) ah) (Zc aH))
 (aj (cN (i:=2) (pv 2) (aJ (jJ T) hr T.cP (ae (qv 0) (ae (qv 6) (ae (cG (ao (qv 3) (qv 4)) (ao (qv 5) ah)) aw))))))
 aF))))))))
 (aj (de (i:=2) (pv 2))))))),λts Q h=>?_)
  let(ks,fs,i,f,L,os,U,V,hf,hR,hL,hA,hq):=h;have bM:cw ks (fs.map (·.1)) 0 [rtN f] L:=by have:=cw.cons hR (.nil);rwa [qg]at this
  have a5:=gV hf;have G:=Ad V a5 bM;have ef:atI (fs.map tF) (i:Int)=Z (tF f):=bc (by rw[fy,hf];rfl)
  refine(ks,fs,i,f,L,U,V,hf,hR,hL,λX hX=>?_)
  refine(_,U,_,ef,_,U,ks,fs.map (·.1),rtN f,L,U,U,U,hR,hL,?_);refine(λc q=>∃(F:List L2.T)(o4 o5 o6:Sl),q=[.r (tPr ks fs),.r (iN i),.o (.l F),.o (.l X),o4,o5,o6]/\F=dG ks i 0 (os.take c),(_,_,_,_,U,U),?_,?_)
  ·rintro c y q hy ⟨F,o4,o5,o6,rfl,rfl⟩
   let(z,hz,U):=bQ hy;rw[fy]at hz;let(e,he,U):=gs.mp hz;have bj:=(g5.mp he).1;have a0:c<os.length:=by rw[hA.ln];exact bj
   have ho:os[c]?=Z os[c]:=dN a0;obtain⟨o,ho,hk⟩:∃ o,os[c]?=Z o/\Ask ks e.sc e.b o:=(_,ho,hA.ok c e _ he ho)
   have g:=G e (gV he);have nx:∀{o:Option Str},os[c]?=Z o->dG ks i 0 (os.take (c+1))=dG ks i 0 (os.take c)++A8 ks i c o:=λ{o} h=>by
    rw[pM,h];show dG ks i 0 (os.take c++[o])=_;rw[A6,p7,OW al,Es]
   have bN:(dG ks i 0 (os.take c)).length<=36*50000:=by
    have:=oj V.gk (i:=i) (os:=os.take c) (n:=0)
    rw[p7]at this
    have:=hA.ln
    lia
   obtain⟨t,aV,ar⟩:∃ t,X[c]?=Z t/\t.dof=Z (e.sc.map enP):=by
    have:=congrArg (·[c]?) hX
    simp only[fy,he]at this;exact gs.mp this
   have a1:atI X (c:Int)=Z t:=bc aV;let(b,ab,am,pa,sc):=e;have hk:Ask ks sc b o:=hk;have ak:∀k,(dG ks i 0 (os.take c)).length+((cy ks k ks).map λm=>L2.T.t ([.s "piece",iN i,iN c]++[.s m])).length<=kf:=λk=>by
    have:=V.gk.wl (k:=k) (xs:=ks) λ_ h=>h
    have:=V.gk.k2
    rw[cO];exact uE (jN al)
   have non:o=Y->∃(F:List L2.T)(aP ay av:Sl),[.r (tPr ks fs),.r (iN i),.o (.l (dG ks i 0 (os.take c))),.o (.l X),.r (iN c),.r b,.o (.t [.s "piece",iN i,iN c])]=[.r (tPr ks fs),.r (iN i),.o (.l F),.o (.l X),aP,ay,av]/\F=dG ks i 0 (os.take (c+1)):=λe=>by
    subst e;exact(_,_,_,_,U,by rw[nx ho];exact(qg _).symm)
   refine(_,U,U,U,?_);cases hk with
   |give=>exact(_,U,U,aa ((_,U,U,aa ((_,U,U,aa (non U))))))
   |@cT w c' b hw =>
    have n1:¬ decide ((L2.T.s w).v=(L2.T.s "make").v)=true:=by obtain rfl|rfl:=hw <;> decide +kernel
    have n2:¬ decide ((L2.T.s w).v=(L2.T.s "name").v)=true:=by obtain rfl|rfl:=hw <;> decide +kernel
    have n3:¬ decide ((L2.T.s w).v=(L2.T.s "case").v)=true:=by obtain rfl|rfl:=hw <;> decide +kernel
    exact(_,U,U,aI (λz=>absurd z n1) λ_=>(_,U,U,aI (λz=>absurd z n2) λ_=>(_,U,U,aI (λz=>absurd z n3) λ_=>non U)))
   |call=>exact(_,U,U,aa ((_,U,U,aa ((_,U,U,aa (non U))))))
   |@make x m kd ns b a3 hm =>
    refine(_,U,U,aI (λ_=>?_) λz=>absurd be z)
    refine(_,U,_,U,ks,kd,m,U,V.gk,a3,hm,ks,.t (fs.map tF),_,kd.1,U,V.gk,U,(by show 3<=10;decide),ak kd.1,?_)
    exact(_,_,_,_,U,by rw[nx ho];rfl)
   |@name x y k b aQ =>
    refine(_,U,U,aa ((_,U,U,aI (λ_=>?_) λz=>absurd be z)))
    refine(t,a1,_,U,?_);simp only[gw,ar];refine(_,xY g.nd aQ,ks,.t (fs.map tF),_,k,U,V.gk,U,(by show 3<=10;decide),ak k,?_)
    exact(_,_,_,_,U,by rw[nx ho];rfl)
   |@case x k arms aR =>
    refine(_,U,U,aa ((_,U,U,aa ((_,U,U,aI (λ_=>?_) λz=>absurd be z)))))
    refine(t,a1,_,U,?_);simp only[gw,ar];refine(_,xY g.nd aR,ks,.t (fs.map tF),_,k,U,V.gk,U,(by show 3<=10;decide),ak k,?_)
    exact(_,_,_,_,U,by rw[nx ho];rfl)
  ·rintro q ⟨F,o4,o5,o6,rfl,rfl⟩
   rw[aZ,cO,<- hA.ln,mu];exact hq
noncomputable def lP(ks:List Kd)(fam:List L2.T)(k:Str):List L2.T:=(cy ks k ks).map λm=>.t (fam++[.s m])
theorem m8(g:bw ks):(lP ks fam k).length<=36:=by
 unfold lP;rw[cO]
 have:=g.wl (k:=k) λ_ h=>h
 have:=g.k2
 lia
noncomputable def dR(ks:List Kd)(i:Nat):Nat->Sc->List L2.T
 |_,[]=>[]
 |k,p::r=>lP ks [.s "param",iN i,iN k] p.2++dR ks i (k+1) r
theorem yZ:∀{k:Nat},dR ks i k (sc++[p])=dR ks i k sc++lP ks [.s "param",iN i,iN (k+sc.length)] p.2:=by
 induction sc with
 |nil=>intro k;show _++[]=[]++_;rw[qg];rfl
 |cons q r g=>intro k;show _++dR ks i (k+1) (r++[p])=(_++_)++_;rw[g,u6,pq,show k+1+r.length=k+(r.length+1)by lia]
theorem lj(g:bw ks):∀{k:Nat},(dR ks i k sc).length<=36*sc.length:=by
 induction sc with
 |nil=>exact v5 _
 |cons p r q =>
  intro k;show(lP ks [.s "param",iN i,iN k] p.2++dR ks i (k+1) r).length<=_;have h1:=m8 g (fam:=[.s "param",iN i,iN k]) (k:=p.2);have h2:=q (k:=k+1);rw[i5,pq]
  lia
noncomputable def oq(ks:List Kd)(i:Nat)(f:Fn)(os:List (Option Str)):List L2.T:=dR ks i 0 f.1.2.1++[.t [.s "first",iN i]]++lP ks [.s "result",iN i] f.1.2.2++[.t [.s "last",iN i]]++dG ks i 0 os
noncomputable def bL(ks:List Kd):Nat->List (Fn×List (Option Str))->List L2.T
 |_,[]=>[]
 |i,x::r=>oq ks i x.1 x.2++bL ks (i+1) r
theorem A9{x:Fn×List (Option Str)}:∀{i:Nat},bL ks i (xs++[x])=bL ks i xs++oq ks (i+xs.length) x.1 x.2:=by
 induction xs with
 |nil=>intro i;show _++[]=[]++_;rw[qg];rfl
 |cons q r g=>intro i;show _++bL ks (i+1) (r++[x])=(_++_)++_;rw[g,u6,pq,show i+1+r.length=i+(r.length+1)by lia]
structure Unk(ks:List Kd)(fs:List Fn)(xs:List (Fn×List (Option Str))):Prop where
 fn:xs.map (·.1)=fs
 ok:∀x∈xs,∃L,Pre ks (fs.map (·.1)) 0 (rtN x.1) L/\L.length<=50000/\nZ ks L x.2
theorem Ha(g:bw ks)(h4:f.1.2.1.length<=4)(ho:os.length<=50000):(oq ks i f os).length<=1800200:=by
 have h1:=lj g (i:=i) (sc:=f.1.2.1) (k:=0);have h2:=m8 g (fam:=[.s "result",iN i]) (k:=f.1.2.2);have h3:=oj g (i:=i) (os:=os) (n:=0);unfold oq;simp only[i5,vr]
 lia
theorem oo(g:bw ks)(h:∀x∈xs,x.1.1.2.1.length<=4/\x.2.length<=50000):∀{i:Nat},(bL ks i xs).length<=1800200*xs.length:=by
 induction xs with
 |nil=>exact v5 _
 |cons x r q =>
  intro i;show(oq ks i x.1 x.2++bL ks (i+1) r).length<=_;have h0:=h x j2;have h1:=Ha g (i:=i) h0.1 h0.2;have h2:=q (λy z=>h y (j1 _ z)) (i:=i+1)
  rw[i5,pq]
  lia
inductive Uh(ts:List L2.T)(Q:L2.T->Prop):Prop
 |mk(ks:List Kd)(fs:List Fn)(xs:List (Fn×List (Option Str)))(h1:ts=[tPr ks fs])(h2:Prog ks fs)(h3:Unk ks fs xs)(h4:Q (.l (bL ks 0 xs)))
theorem gA(T:Txt K mg a):bf P w K mg base CX0 7 a.iV a.uh ["program"] (spQ K Uh):=by
 refine T.gp.F.okQ dI (λ_ _ _ _ _ _ hr=>?_)
 ·have hu:=bh hr;refine(_,_,((ag (aA 1 dI.nd (aO ai))
 (ag (bb (g:=(Tg.tp [2,3])) PassesOwn.never U (ku U T.bp bi (ae (ao (qv 0) ah) aw)) (cJ (aY 2 dI.nd) (aY 3 dI.nd))
 (ag (bb (g:=(Tg.tp [4,5])) PassesOwn.never U (ku U T.bp bi (ae (ao (qv 3) ah) aw)) (cJ (aY 4 dI.nd) (aY 5 dI.nd))
 (aj (cN (i:=1) (pv 1) (aJ (jJ T) hr T.cP (ae (qv 0) (ae (Zc (aq (af aH (af (Zd (qv 2)) (af (Zd (qv 4)) ai))))) (ae (ao (qv 5) ah) aw)))))))
 (ag (bo (i:=1) (pv 1) (aq (af aH (af (Zd (qv 2)) ai))))
 (ag (cN (i:=1) (pv 1) (aJ (jJ T) hr T.cP (ae (qv 0) (ae (Zc (aq (af aH (af (Zd (qv 2)) ai)))) (ae (ao (qv 3) ah) aw)))))
 (ag (bo (i:=1) (pv 1) (aq (af aH (af (Zd (qv 2)) ai))))
 (aj (cN (i:=1) (pv 1) (aJ (mQ T) hr T.iu (ae (qv 0) (ae (qv 2) aw))))))))))
 (aj (de (i:=1) (pv 1)))))),λts Q h=>?_)
  let(ks,fs,xs,U,V,hU,hq):=h;have l8:=V.l8;have lx:xs.length=fs.length:=by rw[<- hU.fn,cO]
  have lim:∀x∈xs,x.1.1.2.1.length<=4/\x.2.length<=50000:=λx hx=>by
   let(L,_,h5,hA):=hU.ok x hx
   have:x.1∈fs:=by rw[<- hU.fn];exact j0.mpr (x,hx,U)
   exact((V.pk _ this).1,by rw[hA.ln];exact h5)
  refine(_,U,pB λf hf=>(V.sn f hf).1.im,λc q=>Z5 λ(F:List L2.T)(o2 o3 o4 o5:Sl)=>q=[.r (tPr ks fs),.o (.l F),o2,o3,o4,o5]/\F=bL ks 0 (xs.take c),(_,_,_,_,_,U,U),?_,?_)
  ·rintro c y q hy ⟨F,o2,o3,o4,o5,rfl,rfl⟩
   let(z,hz,U):=bQ hy;rw[fy]at hz;let(f,hf,U):=gs.mp hz;have a3:=(g5.mp hf).1;have av:=gV hf;let(p1,p2,p3,p4):=V.pk f av;have ak:xs[c]?=Z xs[c]:=dN al
   have ex:xs[c].1=f:=by
    have:=congrArg (·[c]?) hU.fn
    simp only[fy,ak,hf]at this;exact Option.some.inj this
   let(L,hR,hL,hA):=hU.ok xs[c] (SK _);rw[ex]at hR;have aV:=oo V.gk (xs:=xs.take c) (λx hx=>lim x (Fs hx)) (i:=0)
   have aR:(xs.take c).length<=7:=by rw[p7];lia
   have aQ:(bL ks 0 (xs.take c)).length<=12601400:=al
   have hp:=lj V.gk (i:=c) (sc:=f.1.2.1) (k:=0);have aP:=m8 V.gk (fam:=[.s "result",iN c]) (k:=f.1.2.2);have ay:=oj V.gk (i:=c) (os:=xs[c].2) (n:=0);have a5:=hA.ln;refine(_,U,_,U,aU d6 _,λj q=>P3 λ(F:List L2.T)(o4 o5:Sl)=>q=[.r (tPr ks fs),.o (.l F),.r (iN c),.r (tF f),o4,o5]/\F=bL ks 0 (xs.take c)++dR ks c 0 (f.1.2.1.take j),(_,_,_,U,(qg _).symm),?_,?_)
   ·rintro j y q hy ⟨F,o4,o5,rfl,rfl⟩
    let(z,hz,U):=bQ hy;rw[fy]at hz;let(p,ar,U):=gs.mp hz;have a0:=(g5.mp ar).1;have h1:=lj V.gk (i:=c) (sc:=f.1.2.1.take j) (k:=0);have h2:=m8 V.gk (fam:=[.s "param",iN c,iN j]) (k:=p.2);rw[p7]at h1;refine(_,U,U,U,_,U,ks,.t (fs.map tF),_,p.2,U,V.gk,U,(by show 3<=10;decide),?_,?_)
    ·show(bL ks 0 (xs.take c)++dR ks c 0 (f.1.2.1.take j)).length+(lP ks [.s "param",iN c,iN j] p.2).length<=kf;rw[i5];exact uE (jN al)
    ·refine(_,_,_,U,?_);rw[pM,ar];show _++_=_++dR ks c 0 (f.1.2.1.take j++[p]);rw[yZ,p7,OW al,Es,u6]
     rfl
   ·rintro q ⟨F,o4,o5,rfl,rfl⟩
    rw[aZ,cO,mu];refine(jN (by rw[i5];lia),U,?_)
    refine(U,_,U,ks,.t (fs.map tF),_,f.1.2.2,U,V.gk,U,(by show 2<=10;decide),?_,?_)
    ·show _+(lP ks [.s "result",iN c] f.1.2.2).length<=kf;simp only[i5,vr];exact uE (jN al)
    ·refine(?_,U,?_)
     ·show(_++lP ks [.s "result",iN c] f.1.2.2).length<kf;simp only[i5,vr];exact jN al
     ·refine(ks,fs,c,f,L,xs[c].2,U,V,hf,hR,hL,hA,?_,?_)
      ·show(_++lP ks [.s "result",iN c] f.1.2.2++_).length+_<=kf;simp only[i5,vr];exact uE (jN al)
      ·refine(_,_,_,_,_,U,?_);rw[pM,ak];show _=bL ks 0 (xs.take c++[xs[c]]);rw[A9,p7,OW al,Es,ex]
       unfold oq;simp only[u6];rfl
  ·rintro q ⟨F,o2,o3,o4,o5,rfl,rfl⟩
   rw[aZ,cO,<- lx,mu];exact hq
theorem oZ(T:Txt K mg a):bf P w K mg base CX0 1 a.dh a.iY ["self","f","free","spent","kinds","holdings"] (wW a.aP ["f","free","spent","kinds","holdings"]):=by
 refine Fun.ok (k:=0) T.fN uX (λvs H Q E h=>?_) λcdv A outer s H vs Q E hr h=>?_
 ·let(x,dx,args,U,hl,_):=h;show args.length+1=6;rw[hl];rfl
 ·let(x,dx,args,U,hl,hx,hq):=h;obtain⟨v1,v2,q,v4,g,rfl⟩:∃v1 v2 q v4 g,args=[v1,v2,q,v4,g]:=by
   match args,hl with
   |[v1,v2,q,v4,g],_=>exact(v1,v2,q,v4,g,U)
  refine(_,bI (jH (pv 0) (pv 1) U) (bI (jH (pv 0) (pv 2) U) (bI (jH (pv 0) (pv 3) U) (bI (jH (pv 0) (pv 4) U) (gx (jH (pv 0) (pv 5) U))))),?_);refine(_,U,_,U,x,a.aP,dx,_,U,hx,T.bj,T.dD,(by show 0<1000;decide),?_)
  refine(_,U,_,U,x,a.aP,dx,_,U,az,T.bj,T.e7,(by show 1<1000;decide),?_)
  refine(_,U,_,U,x,a.aP,dx,_,U,az,T.bj,T.d3,(by show 2<1000;decide),?_)
  refine(_,U,_,U,x,a.aP,dx,_,U,az,T.bj,T.c6,(by show 3<1000;decide),?_)
  refine(_,U,_,U,x,a.aP,dx,_,U,az,T.bj,T.cS,(by show 4<1000;decide),?_)
  rw[fE,fE,fE,fE];exact hq
abbrev Fam:=List Key
def tH1(p:Fam×Int):L2.T:=.t [.t (p.1.map kT),.i p.2]
def tU(p:Str×Fam):L2.T:=.t [.s p.1,.t (p.2.map kT)]
theorem UK(p:Fam×Int):(tH1 p).im=true:=by
 show(L2.T.ims (p.1.map kT)&&O)=O;rw[aU λk=>by cases k <;> rfl];rfl
def pcF(i n:Nat):Fam:=[.inr "piece",.inl i,.inl n]
def usP(j:Nat):Nat->List Str->List (Str×Fam)
 |_,[]=>[]
 |k,y::r=>(y,[.inr "param",.inl j,.inl k])::usP j (k+1) r
theorem G5:∀{k:Nat},usP j k (ns++[y])=usP j k ns++[(y,[.inr "param",.inl j,.inl ((k+ns.length:Nat):Int)])]:=by
 induction ns with
 |nil=>intro k;rfl
 |cons q r g=>intro k;show _::usP j (k+1) (r++[y])=_::_;rw[g,show k+1+r.length=k+(r.length+1)by lia];rfl
inductive j6(fs:List Fn)(i n:Nat):L2.T->List (Str×Fam)->List (Fam×Int)->Int->Prop
 |give{x:Str}:j6 fs i n (.t [.s "give",.s x]) [(x,[.inr "result",.inl i])] [([.inr "last",.inl i],-1)] 0
 |pay{c:Int}{b:L2.T}:j6 fs i n (.t [.s "pay",.i c,b]) [] [] c
 |get{c:Int}{b:L2.T}:j6 fs i n (.t [.s "get",.i c,b]) [] [] (-c)
 |name{x y:Str}{b:L2.T}:j6 fs i n (.t [.s "name",.s x,.s y,b]) [(y,pcF i n)] [] 0
 |make {x m:Str} {ns:List Str} {b:L2.T}:ns.length<=4->j6 fs i n (.t [.s "make",.s x,.s m,.t (ns.map .s),b]) (ns.map λy=>(y,pcF i n)) [(pcF i n++[.inr m],-1)] 0
 |call{x:Str}{j:Nat}{f:Fn}{ns:List Str}{b:L2.T}:fs[j]?=Z f->ns.length<=4->j6 fs i n (.t [.s "call",.s x,.s f.1.1,.t (ns.map .s),b]) (usP j 0 ns) [([.inr "first",.inl j],-1)] 0
 |case{x:Str}{arms:List Arm}:j6 fs i n (.t [.s "case",.s x,.t (arms.map tA)]) [(x,pcF i n)] [] 0
inductive Ra(ts:List L2.T)(Q:L2.T->Prop):Prop
 |mk(ks:List Kd)(fs:List Fn)(i n:Nat)(b:L2.T)(us:List (Str×Fam))(fr:List (Fam×Int))(sp:Int)(h1:ts=[tPr ks fs,iN i,iN n,b])(h2:Prog ks fs)(h3:j6 fs i n b us fr sp)(h4:Q (.l (us.map tU)))
inductive M5(ts:List L2.T)(Q:L2.T->Prop):Prop
 |mk(ks:List Kd)(fs:List Fn)(i n:Nat)(b:L2.T)(us:List (Str×Fam))(fr:List (Fam×Int))(sp:Int)(h1:ts=[tPr ks fs,iN i,iN n,b])(h2:Prog ks fs)(h3:j6 fs i n b us fr sp)(h4:Q (.t (fr.map tH1)))
inductive M7(ts:List L2.T)(Q:L2.T->Prop):Prop
 |mk(fs:List Fn)(i n:Nat)(b:L2.T)(us:List (Str×Fam))(fr:List (Fam×Int))(sp:Int)(h1:ts=[b])(h2:j6 fs i n b us fr sp)(h3:Q (.i sp))
abbrev bR:=List (Fam×Int)
structure Sd where
 fr:bR
 sp:Int
 sc:Sc
 ho:List (Str×bR)
def tHo(h:bR):L2.T:=.t (h.map tH1)
abbrev enH:Str×bR->Key×L2.T:=en (·.1) (λp=>tHo p.2)
inductive IsS(C:J)(i:Nat):L2.T->Sd->Prop
 |mk{d:Sd}{o1 o2:Obj}{v1 v2:List (Key×V)}:IsS C i (.ob C ["f","free","spent","kinds","holdings"] [iN i,tHo d.fr,.i d.sp,.fd o1 v1 (d.sc.map enP),.fd o2 v2 (d.ho.map enH)]) d
def qM(ho:List (Str×bR))(u:Str×Fam):List (Str×bR):=ho.map λp=>if p.1=u.1 then(p.1,p.2++[(u.2,-1)])else p
def Sd.wth(d:Sd)(us:List (Str×Fam))(fr:bR)(sp:Int):Sd:=(d.fr++fr,d.sp+sp,d.sc,us.foldl qM d.ho)
structure SOk(Za:Nat)(d:Sd):Prop where
 nd:(d.ho.map (·.1)).Nodup
 fl:d.fr.length<=Za
 hl:∀p∈d.ho,p.2.length<=Za
 ln:d.ho.length<=1000
theorem LW:∀{k:Nat},(usP j k ns).length=ns.length:=by
 induction ns with
 |nil=>intro k;rfl
 |cons q r g=>intro k;show(usP j (k+1) r).length+1=_;rw[g];rfl
variable{us:List (Str×Fam)}{fr:bR}
theorem j6.len(h:j6 fs i n b us fr sp):us.length<=4/\fr.length<=1:=by
 cases h with
 |make h=>exact(by rw[cO];exact h,ka _)
 |call _ h=>exact(by rw[LW];exact h,ka _)
 |_=>exact(ad,ad)
variable{ho:List (Str×bR)}
theorem GD:(qM ho u).map (·.1)=ho.map (·.1):=by
 unfold qM;rw[rS];exact O0 λp _=>by show(if p.1=u.1 then(p.1,p.2++[(u.2,-1)])else p).1=p.1;split <;> rfl
theorem kz:∀{ho:List (Str×bR)},(us.foldl qM ho).map (·.1)=ho.map (·.1):=by
 induction us with
 |nil=>intro ho;rfl
 |cons u r g=>exact g.trans GD
theorem Lc(h:∀p∈ho,p.2.length<=Za):∀p∈qM ho u,p.2.length<=Za+1:=λp hp=>by
 let(q,hq,U):=j0.mp hp
 have:=h q hq
 split
 ·simpa using this
 ·lia
theorem D8:∀{Za:Nat}{ho:List (Str×bR)},(∀p∈ho,p.2.length<=Za)->∀p∈us.foldl qM ho,p.2.length<=Za+us.length:=by
 induction us with
 |nil=>intro Za ho h;exact h
 |cons u r g=>intro Za ho h p hp;have:=g (Lc h) p hp;rw[pq];lia
theorem IT(hn:(ho.map (·.1)).Nodup)(hx:(x,h)∈ho):g7 (ho.map enH) (.inr x) (tHo (h++[(fam,-1)]))=(qM ho (x,fam)).map enH:=by
 unfold g7 qM;rw[if_pos,rS,rS]
 ·refine O0 λp hp=>?_
  show(if(Sum.inr p.1:Key)=.inr x then(Sum.inr p.1,tHo (h++[(fam,-1)]))else enH p)=enH (if p.1=x then(p.1,p.2++[(fam,-1)])else p)
  by_cases e:p.1=x
  ·rw[if_pos (congrArg _ e),if_pos e];let(i,hi,q):=qp hp;let(j,K,g):=qp hx
   have:=zP hn (dN hi) (dN K) (by rw[q,g];exact e)
   subst this;have P:=q.symm.trans g;rw[P];rfl
  ·rw[if_neg λz=>e (Sum.inr.inj z),if_neg e]
 ·rw[W4,Lm];exact(_,hx,decide_eq_true U)
theorem iS(f:Fam):L2.T.ims (f.map kT)=true:=aU (λk=>by cases k <;> rfl) f
theorem jS(h:bR):(tHo h).im=true:=aU UK h
theorem pV:∀ho:List (Str×bR),L2.T.imk (ho.map enH)=O
 |[]=>rfl
 |p::r=>by
  show(L2.T.im (tHo p.2)&&L2.T.imk (r.map enH))=O;rw[pV r,jS];rfl
inductive Q9(C:J)(ts:List L2.T)(Q:L2.T->Prop):Prop
 |mk(ks:List Kd)(fs:List Fn)(i n:Nat)(b S:L2.T)(d:Sd)(us:List (Str×Fam))(fr:bR)(sp:Int)(h1:ts=[tPr ks fs,iN n,b,S])(h2:Prog ks fs)(h3:b.im=O)(h4:IsS C i S d)(h5:j6 fs i n b us fr sp)(h6:(∀u∈us,u.1∈d.ho.map (·.1)))(h7:SOk 5000 d)(h8:∀S',IsS C i S' (d.wth us fr sp)->Q S')
def vA(i:Nat):Nat->Sc->List (Str×bR)
 |_,[]=>[]
 |k,p::r=>(p.1,[([.inr "param",.inl i,.inl k],1)])::vA i (k+1) r
theorem GC:∀{k:Nat},vA i k (sc++[p])=vA i k sc++[(p.1,[([.inr "param",.inl i,.inl ((k+sc.length:Nat):Int)],1)])]:=by
 induction sc with
 |nil=>intro k;rfl
 |cons q r g=>intro k;show _::vA i (k+1) (r++[p])=_::_;rw[g,show k+1+r.length=k+(r.length+1)by lia];rfl
theorem wA:∀{k:Nat},(vA i k sc).map (·.1)=sc.map (·.1):=by
 induction sc with
 |nil=>intro k;rfl
 |cons q r g=>intro k;show _ ::(vA i (k+1) r).map (·.1)=_::_;rw[g]
def OC(i:Nat)(f:Fn):Sd:=([([.inr "first",.inl i],1)],0,f.1.2.1,vA i 0 f.1.2.1)
inductive M9(C:J)(ts:List L2.T)(Q:L2.T->Prop):Prop
 |mk(ks:List Kd)(fs:List Fn)(i:Nat)(f:Fn)(h1:ts=[tPr ks fs,iN i])(h2:Prog ks fs)(h3:fs[i]?=Z f)(h4:∀S,IsS C i S (OC i f)->Q S)
inductive BrR(fs:List Fn)(i n:Nat):L2.T->L2.T->Fam->bR->Prop
 |plain{w:Str}{r:List L2.T}{am:L2.T}:w ≠ "call"->w ≠ "case"->BrR fs i n (.t (.s w::r)) am (pcF i n) []
 |call{x:Str}{j:Nat}{f:Fn}{ns:List Str}{b am:L2.T}:fs[j]?=Z f->BrR fs i n (.t [.s "call",.s x,.s f.1.1,.t (ns.map .s),b]) am [.inr "result",.inl j] [([.inr "last",.inl j],1)]
 |case{x:Str}{arms:List Arm}{ar:Arm}:BrR fs i n (.t [.s "case",.s x,.t (arms.map tA)]) (tA ar) (pcF i n) [(pcF i n++[.inr ar.1],1)]
def Sd.bhd(d:Sd)(fam:Fam)(fr:bR)(sc':Sc):Sd:=(d.fr++fr,d.sp,sc',d.ho++(sc'.drop d.sc.length).map λp=>(Prod.mk p.1 [(fam,1)]))
inductive Jj(C:J)(ts:List L2.T)(Q:L2.T->Prop):Prop
 |mk(ks:List Kd)(fs:List Fn)(i n j:Nat)(b b' am S:L2.T)(d:Sd)(sc':Sc)(fam:Fam)(fr:bR)(h1:ts=[tPr ks fs,iN n,b,am,S])(h2:Prog ks fs)(h3:IsS C i S d)(h4:Kid ks (fs.map (·.1)) d.sc b j b' am sc')(h5:BrR fs i n b am fam fr)(h6:(d.sc.map (·.1)).Nodup)(h7:(∀p∈d.sc,p.2∈ks.map (·.1)))(h8:d.ho.map (·.1)=d.sc.map (·.1))(h9:d.sc.length<=900)(h10:d.fr.length<=5000)(h11:∀S',IsS C i S' (d.bhd fam fr sc')->Q S')
theorem zK(T:Txt K mg a):bf P w K mg base CX0 1 a.iW a.uk [Zg] (spQ K M7):=by
 refine T.uP.F.okQ y8 (λ_ _ _ _ _ _ hr=>?_)
 ·have g:=bh hr;refine(_,_,((ag (aT (bH g (ao (qv 0) ah) (Zc aH))
 (aj (aE (Zd (ao (qv 0) ah))))
 aF)
 (ag (aT (bH g (ao (qv 0) ah) (Zc aH))
 (aj (aE (jD (ao (qv 0) ah))))
 aF)
 (aj (aE br))))),λts Q h=>?_)
  let(fs,i,n,b,us,fr,sp,U,q,hq):=h;cases q with
  |pay=>exact(_,U,U,aI (λ_=>(_,U,U,hq)) λz=>absurd be z)
  |get=>exact(_,U,U,aa ((_,U,U,aI (λ_=>(_,U,hq)) λz=>absurd be z)))
  |_=>exact(_,U,U,aa ((_,U,U,aa (hq))))
theorem vh(T:Txt K mg a):bf P w K mg base CX0 2 a.fL a.nA ["program","f","n",Zg] (spQ K M5):=by
 refine T.nX.F.okQ uW (λ_ _ _ _ _ _ hr=>?_)
 ·have g:=bh hr;refine(_,_,((ag (aT (bH g (ao (qv 3) ah) (Zc aH))
 (aj (aE (aq (af (aq (af (aq (af aH (af (Zd (qv 1)) (af (Zd (qv 2)) (af (Zd (ao (qv 3) ah)) ai))))) (af (jD ah) ai))) ai))))
 aF)
 (ag (aT (bH g (ao (qv 3) ah) (Zc aH))
 (aj (aE (aq (af (aq (af (aq (af aH (af (aJ (fJ T) hr T.fk (ae (ao (qv 0) ah) (ae (ao (qv 3) ah) aw))) ai))) (af (jD ah) ai))) ai))))
 aF)
 (ag (aT (bH g (ao (qv 3) ah) (Zc aH))
 (aj (aE (aq (af (aq (af (aq (af aH (af (Zd (qv 1)) ai))) (af (jD ah) ai))) ai))))
 aF)
 (aj (aE (aq ai))))))),λts Q h=>?_)
  let(ks,fs,i,n,b,us,fr,sp,U,q,hU,hq):=h;cases hU with
  |make=>exact(_,U,U,aI (λ_=>(U,U,_,U,U,hq)) λz=>absurd be z)
  |@call x j f ns b V =>
   exact(_,U,U,aa ((_,U,U,aI (λ_=>(_,U,_,U,fs,j,f,U,q.hn,λf hf=>(q.sn f hf).1.im,q.l8,V,hq)) λz=>absurd be z)))
  |give=>exact(_,U,U,aa ((_,U,U,aa ((_,U,U,aI (λ_=>(U,hq)) λz=>absurd be z)))))
  |_=>exact(_,U,U,aa ((_,U,U,aa ((_,U,U,aa (hq))))))
theorem NJ(T:Txt K mg a):bf P w K mg base CX0 2 a.yl a.KL ["program","f","n",Zg] (spQ K Ra):=by
 refine T.LB.F.okQ wZ (λ_ _ _ _ _ _ hr=>?_)
 ·have V:=bh hr;refine(_,_,((ag (aA 4 wZ.nd (Zd (ao (qv 3) ah)))
 (ag (aT (bH V (qv 4) (Zc aH))
 (aj (aE (bD U (dZ (ao (qv 3) ah)) (N':=["name","f","n"]) (.own U (.got (i:=1) U U (.inl U) (.got (i:=2) U U (.inl U) .nil))) (bx (g:=(Tg.nm 0)) (λ_ _ _ _ _=>((ck 0),(aq (af (Zd (qv 0)) (af (aq (af aH (af (Zd (qv 1)) (af (Zd (qv 2)) ai)))) ai)))))))))
 aF)
 (ag (aT (bH V (qv 4) (Zc aH))
 (ag (aA 5 wZ.nd (aJ (fJ T) hr T.fk (ae (ao (qv 0) ah) (ae (ao (qv 3) ah) aw))))
 (aj (aE (bD U (xC U T.bp bi (ae (ao (qv 3) ah) aw)) (N':=["k","name","g"]) (.own U (.own U (.got (i:=5) U U (.inl U) .nil))) (bx (g:=(Tg.tp [0,1])) (λ_ _ _ _ _=>((cJ (ck 0) (ck 1)),(aq (af (Zd (qv 1)) (af (aq (af aH (af (Zd (qv 2)) (af (Zd (qv 0)) ai)))) ai))))))))))
 aF)
 (ag (aT (bH V (qv 4) (Zc aH))
 (aj (aE (aO (af (aq (af (Zd (ao (qv 3) ah)) (af (aq (af aH (af (Zd (qv 1)) (af (Zd (qv 2)) ai)))) ai))) ai))))
 aF)
 (ag (aT (bH V (qv 4) (Zc aH))
 (aj (aE (aO (af (aq (af (Zd (ao (qv 3) ah)) (af (aq (af aH (af (Zd (qv 1)) (af (Zd (qv 2)) ai)))) ai))) ai))))
 aF)
 (ag (aT (bH V (qv 4) (Zc aH))
 (aj (aE (aO (af (aq (af (Zd (ao (qv 3) ah)) (af (aq (af aH (af (Zd (qv 1)) ai))) ai))) ai))))
 aF)
 (aj (aE (aO ai)))))))))),λts Q h=>?_)
  let(ks,fs,i,n,b,us,fr,sp,U,hP,hU,hq):=h;cases hU with
  |@make x m ns b hl =>
   refine(_,U,U,U,aI (λ_=>?_) λz=>absurd be z)
   refine(_,U,aC (by rw[cO];lia),λc ys=>ys=((ns.take c).map λy=>(y,pcF i n)).map tU,U,?_,?_)
   ·rintro c y ys hy rfl
    rw[fy]at hy;let(z,hz,U):=gs.mp hy;refine(_,U,U,U,U,?_);rw[pM,hz,j3,j3];rfl
   ·rintro ys rfl
    rw[cO,mu];exact hq
  |@call x j f ns b hj hl =>
   refine(_,U,U,U,aa ((U,aI (λ_=>?_) λz=>absurd be z)))
   refine(_,U,_,U,fs,j,f,U,hP.hn,λf hf=>(hP.sn f hf).1.im,hP.l8,hj,?_)
   refine(_,U,aC (by rw[aZ,cO];lia),λc ys=>ys=(usP j 0 (ns.take c)).map tU,U,?_,?_)
   ·rintro c y ys hy rfl
    let(z,q,U):=bQ hy;rw[fy]at q;let(z,hz,U):=gs.mp q;have ak:=(g5.mp hz).1;refine(_,U,U,U,U,?_);rw[pM,hz];show _++_=(usP j 0 (ns.take c++[z])).map tU;rw[G5,j3,p7,OW al,Es]
    rfl
   ·rintro ys rfl
    rw[aZ,cO,mu];exact hq
  |name=>exact(_,U,U,U,aa ((U,aa ((U,aI (λ_=>(_,U,U,U,U,hq)) λz=>absurd be z)))))
  |case=>exact(_,U,U,U,aa ((U,aa ((U,aa ((U,aI (λ_=>(_,U,U,U,U,hq)) λz=>absurd be z)))))))
  |give=>exact(_,U,U,U,aa ((U,aa ((U,aa ((U,aa ((U,aI (λ_=>(_,U,U,U,hq)) λz=>absurd be z)))))))))
  |_=>exact(_,U,U,U,aa ((U,aa ((U,aa ((U,aa ((U,aa (hq))))))))))
theorem kS(T:Txt K mg a):bf P w K mg base CX0 3 a.fM a.nB ["program","n",Zg,"stand"] (spQ K (Q9 a.aP)):=by
 refine T.i9.F.okQ dj (λ_ _ _ _ _ _ hr=>?_)
 ·have hu:=bh hr;refine(_,_,((ag (aA 4 dj.nd (aL eh fF ap T.eB bi (ae (a4 T.bj T.cS (qv 3)) aw)))
 (ag (bb (g:=(Tg.tp [5,6])) PassesOwn.never U (xB (aJ (NJ T) hr T.LB (ae (qv 0) (ae (a4 T.bj T.dD (qv 3)) (ae (qv 1) (ae (qv 2) aw)))))) (cJ (aY 5 dj.nd) (aY 6 dj.nd))
 (aj (jC (i:=4) hu (pv 4) (qv 5) (Zc (aS (cG (qv 4) (qv 5)) (Zc (aq (af (aq (af (Zd (qv 6)) (af (jD ah) ai))) ai))))))))
 (ag (aA 7 dj.nd (aS (a4 T.bj T.e7 (qv 3)) (Zc (aJ (vh T) hr T.nX (ae (qv 0) (ae (a4 T.bj T.dD (qv 3)) (ae (qv 1) (ae (qv 2) aw))))))))
 (aj (oN (i:=4) (aE (g6 U T.tw (oZ T) (hr.mono (by first|decide|omega)) U T.tu T.iZ (ae (a4 T.bj T.dD (qv 3)) (ae (qv 7) (ae (Zc (aS (a4 T.bj T.d3 (qv 3)) (Zc (aJ (zK T) hr T.uP (ae (qv 2) aw))))) (ae (a4 T.bj T.c6 (qv 3)) (ae (qv 4) aw))))))))))))),λts Q h=>?_)
  let(ks,fs,i,n,b,S,d,us,fr,sp,U,hP,hb,hS,V,hx,hk,hq):=h;let(l1,l2):=V.len;cases hS with
  |@mk _ o1 o2 v1 v2 =>
   refine(U,ac,_,U,pV _,?_)
   refine(U,ac,_,U,ks,fs,i,n,b,us,fr,sp,U,hP,V,?_)
   refine(λc q=>Q4 λ(o5 o6 o7:Sl)(D:List (Key×L2.T))=>q=[.r (tPr ks fs),.r (iN n),.r b,.r (.ob a.aP ["f","free","spent","kinds","holdings"] [iN i,tHo d.fr,.i d.sp,.fd o1 v1 (d.sc.map enP),.fd o2 v2 (d.ho.map enH)]),.o (.d D),o5,o6,o7]/\D=((us.take c).foldl qM d.ho).map enH,(_,_,_,_,U,U),?_,?_)
   ·rintro c y q hy ⟨o5,o6,o7,D,rfl,rfl⟩
    rw[fy]at hy;let((x,fam),hz,U):=gs.mp hy;have hm:=gV hz;have z:=hx _ hm;rw[<- kz (us:=us.take c)]at z;let((x',h),hp,U):=j0.mp z;have hn:(((us.take c).foldl qM d.ho).map (·.1)).Nodup:=by rw[kz];exact hk.nd
    have hl:=D8 (us:=us.take c) hk.hl _ hp;have aQ:((us.take c).foldl qM d.ho).length=d.ho.length:=(congrArg Ez (kz (us:=us.take c) (ho:=d.ho)):)
    have ay:=hk.ln;rw[p7]at hl;have hl:h.length<=5000+min c us.length:=hl;have av:=mX (f:=λp:Str×bR=>p.1) (g:=λp=>tHo p.2) hn hp
    refine(_,U,?_);simp only[gw,L2.T.dof];refine(_,av,iS fam,?_);refine(?_,jS _,?_,aC (by rw[cO,aQ];exact ay),pV _,?_,?_)
    ·show(h.map tH1).length+1<=kf;rw[cO];exact uE (bE al)
    ·show((L2.T.ims (fam.map kT)&&O)&&O)=O;rw[iS];rfl
    ·show L2.T.ims (h.map tH1++[tH1 (fam,-1)])=O;rw[show h.map tH1++[tH1 (fam,-1)]=(h++[Prod.mk fam (-1)]).map tH1 by rw[j3];rfl]
     exact jS _
    ·refine(_,_,_,_,U,?_)
     have:=IT (fam:=fam) hn hp
     unfold tHo at this;rw[j3]at this;refine Eq.trans this ?_;rw[pM,hz,Xy];rfl
   ·rintro q ⟨o5,o6,o7,D,rfl,rfl⟩
    rw[cO,mu];refine(U,ac,_,U,U,ac,_,U,ks,fs,i,n,b,us,fr,sp,U,hP,V,?_)
    refine(?_,jS _,jS _,pV _,λar ak=>?_)
    ·show(d.fr.map tH1).length+(fr.map tH1).length<=kf
     have:=hk.fl
     rw[cO,cO];exact uE (bE al)
    ·refine(U,ac,_,U,U,ac,_,U,fs,i,n,b,us,fr,sp,U,V,U,ac,_,U,?_,U,?_)
     ·show(L2.T.ims (d.fr.map tH1++fr.map tH1)&&O)=O;rw[<- j3];rw[show L2.T.ims ((d.fr++fr).map tH1)=O from jS _];rfl
     ·refine hq _ ?_
      have:=IsS.mk (C:=a.aP) (i:=i) (d:=d.wth us fr sp) (o1:=o1) (o2:=ar) (v1:=v1) (v2:=ak)
      unfold tHo Sd.wth at this;rw[j3]at this;exact this
theorem mO(T:Txt K mg a):bf P w K mg base CX0 3 a.df a.ib ["program","f"] (spQ K (M9 a.aP)):=by
 refine T.ip.F.okQ dS (λ_ _ _ _ _ _ hr=>?_)
 ·have hu:=bh hr;refine(_,_,((ag (aA 2 dS.nd (Zd (ao (ao (ao (qv 0) ah) (qv 1)) ah)))
 (ag (dY (i:=3) dS.nd U (Or.inl U) U (xC U T.bp bi (ae (qv 2) aw)) (N':=["k","param","f"]) (.own U (.own U (.got (i:=1) U U (.inl U) .nil))) (bx (g:=(Tg.tp [0,1])) (λ_ _ _ _ _=>((cJ (ck 0) (ck 1)),(aq (af (Zd (ao (qv 1) ah)) (af (aq (af (aq (af (aq (af aH (af (Zd (qv 2)) (af (Zd (qv 0)) ai)))) (af br ai))) ai)) ai)))))))
 (aj (aE (g6 U T.tw (oZ T) (hr.mono (by first|decide|omega)) U T.tu T.iZ (ae (qv 1) (ae (Zc (aq (af (aq (af (aq (af aH (af (Zd (qv 1)) ai))) (af br ai))) ai))) (ae ah (ae (Zc (rh (aL (cv U) cY ap T.eB bi (ae (qv 2) aw)))) (ae (Zc (rh (aL (cv U) cY ap T.eB bi (ae (qv 3) aw)))) aw))))))))))),λts Q h=>?_)
  let(ks,fs,i,f,U,hP,hf,hq):=h;have V:=gV hf;let(p1,p2,p3,p4):=hP.pk f V;have ef:atI (fs.map tF) (i:Int)=Z (tF f):=bc (by rw[fy,hf];rfl)
  refine(_,U,_,ef,_,U,?_);refine(aU d6 _,aC (by rw[aZ,cO];lia),λc ys=>ys=(vA i 0 (f.1.2.1.take c)).map λp=>L2.T.t [.s p.1,tHo p.2],U,?_,?_)
  ·rintro c y ys hy rfl
   let(z,q,U):=bQ hy;rw[fy]at q;let(z,hz,U):=gs.mp q;have ak:=(g5.mp hz).1;refine(_,U,_,U,U,U,U,?_);rw[pM,hz];show _++_=(vA i 0 (f.1.2.1.take c++[z])).map _;rw[GC,j3,p7,OW al,Es]
   rfl
  ·rintro ys rfl
   rw[aZ,cO,mu];refine(U,aU d6 _,_,xN _,?_);rw[rR p3];refine(m4 _,λo1 v1=>?_)
   refine(aU (λp=>by show(O&&(L2.T.im (tHo p.2)&&O))=O;rw[jS];rfl) _,_,mK (f:=λp:Str×bR=>p.1) (g:=λp=>tHo p.2) _,?_)
   rw[rR (by rw[wA];exact p3)]
   exact(pV _,λo2 v2=>(U,U,hq _ (IsS.mk (d:=OC i f))))
theorem QW{p:Str×Str}(h:((sc++[p]).map (·.1)).Nodup):g7 (sc.map enP) (.inr p.1) (.s p.2)=(sc++[p]).map enP:=by
 unfold g7;rw[if_neg,j3]
 ·rfl
 ·rw[W4,Lm]
  rintro⟨q,hq,e⟩
  have e:=of_decide_eq_true e;rw[j3,uF]at h;exact h.2.2 _ (j0.mpr (q,hq,U)) _ (j0.mpr (p,d2.mpr U,U)) (Sum.inr.inj e)
theorem QY{h:bR}(hx:x ∉ ho.map (·.1)):g7 (ho.map enH) (.inr x) (tHo h)=(ho++[Prod.mk x h]).map enH:=by
 unfold g7;rw[if_neg,j3]
 ·rfl
 ·rw[W4,Lm]
  rintro⟨q,hq,e⟩
  have e:=of_decide_eq_true e;exact hx (j0.mpr (q,hq,Sum.inr.inj e))
theorem Vc{D:dP}(g:Prog ks fs)(hB:BrR fs i n b am fam fr)(hl:f0.length<=5000)
  (k:∀o7:Sl,D.nx [.r (tPr ks fs),.r (iN n),.r b,.r am,.r S,.o (.t (fam.map kT)),.o (tHo (f0++fr)),o7,.no,.no,.no,.no]):
  BK (kQ (qOp BL (qOp qIx (aM 2) (qC (.i 0))) (qC (.s "call"))))
   (jF (kG 7 (dq zt (aD (qOp qIx (aM 0) (qC (.i 1))) (aD (qOp qIx (aM 2) (qC (.i 2))) cb))))
    (jF (kG 5 (iJ (aD (qC (.s "result")) (aD (qIm (aM 7)) cb))))
     (kG 6 (qOp kH (aM 6) (iJ (aD (iJ (aD (iJ (aD (qC (.s "last")) (aD (qIm (aM 7)) cb))) (aD (qC (.i 1)) cb))) cb))))))
   (BK (kQ (qOp BL (qOp qIx (aM 2) (qC (.i 0))) (qC (.s "case"))))
    (kG 6 (qOp kH (aM 6) (iJ (aD (iJ (aD (qOp kH (aM 5) (iJ (aD (qIm (qOp qIx (aM 3) (qC (.i 0)))) cb))) (aD (qC (.i 1)) cb))) cb))))
    vQ) D [.r (tPr ks fs),.r (iN n),.r b,.r am,.r S,.o (.t ((pcF i n).map kT)),.o (tHo f0),.no,.no,.no,.no,.no]:=by
 have q:(f0.map tH1).length+1<=kf:=by rw[cO];exact uE (bE al)
 cases hB with
 |@plain w r _ Q P =>
  have n1:=λz=>Q (V.str.inj (of_decide_eq_true z))
  have n2:=λz=>P (V.str.inj (of_decide_eq_true z))
  have K:atI (L2.T.s w::r) 0=Z (L2.T.s w):=bc U;refine(_,K,U,aI (λz=>absurd z n1) λ_=>(_,K,U,aI (λz=>absurd z n2) λ_=>?_))
  have:=k .no
  rw[qg]at this;exact this
 |@call x j f ns b _ hj =>
  refine(_,U,U,aI (λ_=>(_,U,_,U,fs,j,f,U,g.hn,λf hf=>(g.sn f hf).1.im,g.l8,hj,U,U,(q,jS _,U,?_))) λz=>absurd be z)
  have:=k (.o (.i j))
  unfold tHo at this;rw[j3]at this;exact this
 |@case x arms ar =>
  refine(_,U,U,aa ((_,U,U,aI (λ_=>(_,U,U,(by show 3+1<=kf;decide),U,U,q,jS _,U,?_)) λz=>absurd be z)))
  have:=k .no
  unfold tHo at this;rw[j3]at this;exact this
theorem qz(T:Txt K mg a):bf P w K mg base CX0 3 a.d8 a.jV ["program","n",Zg,"arm","stand"] (spQ K (Jj a.aP)):=by
 refine T.km.F.okQ a9 (λ_ _ _ _ _ _ hr=>?_)
 ·have hu:=bh hr;refine(_,_,((ag (aA 5 a9.nd (aq (af aH (af (Zd (a4 T.bj T.dD (qv 4))) (af (Zd (qv 1)) ai)))))
 (ag (aA 6 a9.nd (Zd (a4 T.bj T.e7 (qv 4))))
 (ag (aT (bH hu (ao (qv 2) ah) (Zc aH))
 (ag (aA 7 a9.nd (aJ (fJ T) hr T.fk (ae (ao (qv 0) ah) (ae (ao (qv 2) ah) aw))))
 (ag (aA 5 a9.nd (aq (af aH (af (Zd (qv 7)) ai))))
 (aj (aA 6 a9.nd (aS (qv 6) (Zc (aq (af (aq (af (aq (af aH (af (Zd (qv 7)) ai))) (af br ai))) ai))))))))
 (aj (aT (bH hu (ao (qv 2) ah) (Zc aH))
 (aj (aA 6 a9.nd (aS (qv 6) (Zc (aq (af (aq (af (aS (qv 5) (Zc (aq (af (Zd (ao (qv 3) ah)) ai)))) (af br ai))) ai))))))
 aF)))
 (ag (aA 8 a9.nd (aL eh fF ap T.eB bi (ae (a4 T.bj T.c6 (qv 4)) aw)))
 (ag (aA 9 a9.nd (aL eh fF ap T.eB bi (ae (a4 T.bj T.cS (qv 4)) aw)))
 (ag (bb (g:=(Tg.tp [10,11])) PassesOwn.never U (xB (aJ (pR T) hr T.lZ (ae (qv 0) (ae (qv 2) (ae (qv 3) (ae (a4 T.bj T.c6 (qv 4)) aw)))))) (cJ (aY 10 a9.nd) (aY 11 a9.nd))
 (ag (jC (i:=8) hu (pv 8) (qv 10) (qv 11))
 (aj (jC (i:=9) hu (pv 9) (qv 10) (Zc (aq (af (aq (af (Zd (qv 5)) (af br ai))) ai)))))))
 (aj (oN (i:=9) (oN (i:=8) (aE (g6 U T.tw (oZ T) (hr.mono (by first|decide|omega)) U T.tu T.iZ (ae (a4 T.bj T.dD (qv 4)) (ae (qv 6) (ae (a4 T.bj T.d3 (qv 4)) (ae (qv 8) (ae (qv 9) aw))))))))))))))))),λts Q h=>?_)
  let(ks,fs,i,n,j,b,b',am,S,d,sc',fam,fr,U,hP,hS,hK,hB,ar,ay,av,bp,aQ,hq):=h;have ex:=hK.ext;have nn:=hK.nd ar;have hlen:=hK.len hP.gk;cases hS with
  |@mk _ o1 o2 v1 v2 =>
  have a5:∀g:Fam,L2.T.ims (g.map kT)=true:=iS
  refine(U,ac,_,U,U,U,U,ac,_,U,?_)
  refine(jS _,Vc hP hB aQ λo7=>?_)
  refine(U,ac,_,U,m4 _,U,ac,_,U,pV _,?_)
  refine(U,ac,_,U,ks,fs,d.sc,sc',b,b',am,j,_,U,U,hP,hK,ar,ay,?_)
  have bN:(sc'.drop d.sc.length).length<=4:=by rw[QX];lia
  refine(λc q=>Q4 λ(ak V:Sl)(A Za:List (Key×L2.T))=>q=[.r (tPr ks fs),.r (iN n),.r b,.r am,.r (.ob a.aP ["f","free","spent","kinds","holdings"] [iN i,tHo d.fr,.i d.sp,.fd o1 v1 (d.sc.map enP),.fd o2 v2 (d.ho.map enH)]),.o (.t (fam.map kT)),.o (tHo (d.fr++fr)),o7,.o (.d A),.o (.d Za),ak,V]/\A=(d.sc++(sc'.drop d.sc.length).take c).map enP/\Za=(d.ho++((sc'.drop d.sc.length).take c).map λp:Str×Str=>Prod.mk p.1 [Prod.mk fam (1:Int)]).map enH,(_,_,_,_,U,ad,ad),?_,?_)
  ·rintro c y q hy ⟨ak,V,A,Za,rfl,rfl,rfl⟩
   rw[fy]at hy;let(p,hz,U):=gs.mp hy;have b0:=(g5.mp hz).1;have et:(sc'.drop d.sc.length).take (c+1)=(sc'.drop d.sc.length).take c++[p]:=by rw[pM,hz];rfl
   have n2:((d.sc++(sc'.drop d.sc.length).take c++[p]).map (·.1)).Nodup:=by
    rw[u6,<- et];rw[ex]at nn;refine List.Nodup.sublist (List.Sublist.map _ (List.Sublist.append_left (WY _ _) _)) nn
   have n3:p.1 ∉ (d.ho++((sc'.drop d.sc.length).take c).map λp=>(Prod.mk p.1 [Prod.mk fam (1:Int)])).map (·.1):=by
    rw[j3,av,rS]
    have:=n2
    rw[j3,j3,uF]at this;intro z;exact this.2.2 _ z _ (j0.mpr (p,d2.mpr U,U)) U
   have bM:d.ho.length=d.sc.length:=(congrArg Ez av:)
   have tl:((sc'.drop d.sc.length).take c).length<=4:=by rw[p7];lia
   refine(_,U,?_);refine(aC (by rw[cO,i5];lia),m4 _,U,?_)
   rw[show L2.T.s p.2=.s p.2 from U,QW n2];refine(iS _,aC (by rw[cO,i5,cO];lia),pV _,?_,?_)
   ·show((L2.T.ims (fam.map kT)&&O)&&O)=O;rw[iS];rfl
   ·refine(_,_,_,_,U,?_,?_)
    ·rw[et,u6]
    ·refine(QY (h:=[(fam,1)]) n3).trans (congrArg (List.map enH) ?_);rw[et];simp
  ·rintro q ⟨ak,V,A,Za,rfl,rfl,rfl⟩
   rw[cO,mu,<- ex];refine(pV _,λa0 aR=>(m4 _,λa3 aV=>?_))
   refine(U,ac,_,U,U,ac,_,U,?_,U,hq _ (IsS.mk (d:=d.bhd fam fr sc')))
   show(O&&(L2.T.im (tHo (d.fr++fr))&&O))=O;rw[jS];rfl
theorem dU(h:(sc.map (·.1)).Nodup)(h1:(x,k)∈sc)(h2:(x,k')∈sc):k=k':=by
 let(i,hi,q):=qp h1;let(j,z,g):=qp h2
 have:=zP h (dN hi) (dN z) (by rw[q,g])
 subst this;rw[q]at g;exact congrArg Prod.snd g
theorem tO(g:bw ks){q:Kd}(h1:kd∈ks)(h2:q∈ks)(h3:m∈kd.2)(h4:m'∈q.2)(e:m.1=m'.1):kd=q:=by
 let(i,hi,K):=qp h1;let(j,P,z):=qp h2
 have:=t5 g.mn (dN hi) (dN P) (K▸h3) (z▸h4) e
 subst this;exact K.symm.trans z
theorem Pz(g:bw ks){q:Kd}(h1:kd∈ks)(h2:q∈ks)(e:kd.1=q.1):kd=q:=by
 let(i,hi,K):=qp h1;let(j,P,z):=qp h2
 have:=zP g.nd (dN hi) (dN P) (by rw[K,z];exact e)
 subst this;exact K.symm.trans z
theorem Ks(hn:(hs.map (·.1)).Nodup)(h1:h∈hs)(h2:h'∈hs)(e:h.1=h'.1):h=h':=by
 let(i,hi,q):=qp h1;let(j,z,g):=qp h2
 have:=zP hn (dN hi) (dN z) (by rw[q,g];exact e)
 subst this;exact q.symm.trans g
theorem Fi:(("make":Str)="call")=False:=eq_false ac
theorem Fj:(("call":Str)="make")=False:=eq_false ac
theorem Hl{a b:Arm}(h:tA a=tA b):a.1=b.1/\a.2.1=b.2.1/\a.2.2.1=b.2.2.1:=by
 injection h with h
 injection h with h1 h
 injection h with h2 h
 injection h with h3 _
 injection h1 with h1
 injection h2 with h2
 exact(h1,(List.map_inj_right λ_ _ z=>L2.T.s.inj z).mp h2,h3)
theorem Snd.kid(gk:bw ks)(hn:(hs.map (·.1)).Nodup)(nd:(sc.map (·.1)).Nodup)(S:Snd ks hs r m sc b)(e:b=t)(K:Kid ks hs sc t j b' am sc'):∃m',Snd ks hs r m' sc' b':=by
 cases S <;> cases K <;> first|exact absurd (congrArg tgT e) (Nat.ne_of_beq_eq_false rfl)|simp[Fi,Fj]at e
 ·rename_i S _ _ _;let(U,U,U):=e;exact(_,S)
 ·rename_i hy hx S _ _ _ V g;let(U,U,U):=e;obtain rfl:=dU nd hy V;exact(_,S)
 ·rename_i q hm _ hx S _ _ _ _ Q ak g;let(U,z,P,U):=e;obtain rfl:=tO gk q Q hm ak z;exact(_,S)
 ·rename_i hh _ hx S _ _ _ av g;let(U,z,P,U):=e;obtain rfl:=Ks hn hh av z;exact(_,S)
 ·rename_i x kd arms q aQ hx h1 h2 x' aP cL ar mm g Q Wg hl hN ha hm;let(U,z):=e;obtain rfl:=Pz gk q Q (dU nd hx g);have P:=congrArg (·[j]?) z;simp only[fy,ha]at P;let(ay,h0,e3):=gs.mp P;let(_,q2,q3):=Hl e3
  have:=h2 j ay mm h0 hm
  rw[q2,q3]at this;exact(_,this)
theorem Tp(g:Prog ks fs)(hf:f∈fs)(q:cw ks (fs.map (·.1)) 0 [rtN f] L):∀e∈L,∃m,Snd ks (fs.map (·.1)) f.1.2.2 m e.sc e.b:=by
 have hn:((fs.map (·.1)).map (·.1)).Nodup:=by have:=g.hn;rwa [rS]
 have:=q.all (R:=λe=>(e.sc.map (·.1)).Nodup/\∃m,Snd ks (fs.map (·.1)) f.1.2.2 m e.sc e.b) (λn d j b am sc (g1,m,g2) hk=>(hk.nd g1,g2.kid g.gk hn g1 U hk)) _ U λd hd=>by
  rw[d2.mp hd];exact((g.pk f hf).2.2.1,_,(g.sn f hf).1)
 exact λe he=>(this e he).2
theorem rW{xs:List Kd}:m∈cy ks k xs ↔ ∃x∈xs,Reach ks k x.1/\m∈x.2.map (·.1):=by
 unfold cy;rw[WO]
 constructor
 ·rintro⟨x,hx,h⟩
  split at h
  ·exact(x,hx,(by assumption),h)
  ·cases h
 ·rintro⟨x,hx,hr,h⟩
  exact(x,hx,by rw[if_pos hr];exact h)
theorem n6(h:kd∈ks)(hm:m∈kd.2):m.1∈cy ks kd.1 ks:=rW.mpr (kd,h,.here,j0.mpr (m,hm,U))
theorem yU(g:bw ks)(h:kd∈ks)(hm:m∈kd.2)(hk:k∈m.2)(hs:s∈cy ks k ks):s∈cy ks kd.1 ks:=by
 let(x,hx,hr,h'):=rW.mp hs;refine rW.mpr (x,hx,Reach.trans (.step .here ?_) hr,h');unfold yj;rw[DO g.nd h];exact WO.mpr (m,hm,hk)
def FK(Y6:L2.T->Prop)(ks:List Kd)(fam:Fam)(k:Str):Prop:=∀m∈cy ks k ks,Y6 (.t ((fam++[(.inr m:Key)]).map kT))
structure UOk(Y6:L2.T->Prop)(ks:List Kd)(fs:List Fn)(i:Nat)(os:List (Option Str)):Prop where
 par:∀(j:Nat)(g:Fn)(k:Nat)(p:Str×Str),fs[j]?=Z g->g.1.2.1[k]?=Z p->FK Y6 ks [.inr "param",.inl j,.inl k] p.2
 fst:∀(j:Nat)(g:Fn),fs[j]?=Z g->Y6 (.t [.s "first",iN j])
 lst:∀(j:Nat)(g:Fn),fs[j]?=Z g->Y6 (.t [.s "last",iN j])
 res:∀(j:Nat)(g:Fn),fs[j]?=Z g->FK Y6 ks [.inr "result",.inl j] g.1.2.2
 pce:∀(n:Nat)(k:Str),os[n]?=Z (Z k)->FK Y6 ks (pcF i n) k
theorem FK.fld(h:FK Y6 ks fam kd.1)(g:bw ks)(q:kd∈ks)(hm:m∈kd.2)(hk:k∈m.2):FK Y6 ks fam k:=λs hs=>h s (yU g q hm hk hs)
theorem CP:∀{k:Nat},u∈usP j k ns->∃l,ns[l]?=Z u.1/\u.2=[.inr "param",.inl (j:Int),.inl ((k+l:Nat):Int)]:=by
 induction ns with
 |nil=>intro k h;cases h
 |cons y r g =>
  intro k h;obtain rfl|h:=kO.mp h
  ·exact(0,U,U)
  ·let(l,h1,h2):=g h;exact(l+1,(h1:),by rw[h2,show k+1+l=k+(l+1)by lia])
theorem Eb(h:Fills sc ns fl)(g:ns[l]?=Z y):∃k,fl[l]?=Z k/\(y,k)∈sc:=by
 have hl:=(g5.mp g).1;have hk:fl[l]?=Z (fl[l]'(by rw[<- h.1];exact hl)):=dN _
 refine(_,hk,h.2 _ (gV (i:=l) ?_));rw[GL];exact(g,hk)
section
variable{Y6:L2.T->Prop}{ks:List Kd}{fs:List Fn}{i n m:Nat}{f:Fn}{os:List (Option Str)}{o:Option Str}{sc:Sc}{b t:L2.T}
theorem GZ(hP:Prog ks fs)(hf:fs[i]?=Z f)(Q:UOk Y6 ks fs i os)(nd:(sc.map (·.1)).Nodup)(S:Snd ks (fs.map (·.1)) f.1.2.2 m sc b)(ho:os[n]?=Z o)(e:b=t)(hA:Ask ks sc t o):
  ∃us fr sp,j6 fs i n b us fr sp/\(∀u∈us,∃k,(u.1,k)∈sc/\FK Y6 ks u.2 k)/\∀p∈fr,Y6 (.t (p.1.map kT)):=by
 have one:∀{x:Str}{fam:Fam}{k:Str},(x,k)∈sc->FK Y6 ks fam k->∀u ∈ [(Prod.mk x fam)],∃k,(u.1,k)∈sc/\FK Y6 ks u.2 k:=λ{x fam k} h1 h2 u V=>by
  rw[d2.mp V];exact(k,h1,h2)
 have on1:∀{p:Fam×Int},Y6 (.t (p.1.map kT))->∀q ∈ [p],Y6 (.t (q.1.map kT)):=λ{p} h q hq=>by rw[d2.mp hq];exact h
 cases S <;> cases hA <;> first|exact absurd (congrArg tgT e) (Nat.ne_of_beq_eq_false rfl)|simp[Fi,Fj]at e
 ·rename_i hx _;exact(_,_,_,.give,one hx (Q.res i f hf),on1 (Q.lst i f hf))
 ·rename_i w c b hw _ _ _ _ _;obtain rfl|rfl:=hw
  ·exact(_,_,_,.pay,bY,bY)
  ·exact(_,_,_,.get,bY,bY)
 ·rename_i hy hx S _ _ _ _ ak;let(U,U,U):=e;obtain rfl:=dU nd hy ak;exact(_,_,_,.name,one hy (Q.pce n _ ho),bY)
 ·rename_i x mm kd ns b K hm hF hx S _ _ ay _ _ pC av;let(U,e1,e2,U):=e;obtain rfl:=tO hP.gk K pC hm av e1;have hp:=Q.pce n _ ho;refine(_,_,_,.make (by rw[hF.1];exact(hP.gk.fl kd K mm hm).1),λu V=>?_,on1 (hp _ (n6 K hm)))
  let(y,hy,U):=j0.mp V;let(l,hl,U):=qp hy;let(k,hk,hs):=Eb hF (dN hl);exact(k,hs,hp.fld hP.gk K hm (gV hk))
 ·rename_i x h ns b hh hF hx S _ _ _ _;let(g,hg,U):=j0.mp hh;let(j,hj,e1):=qp hg;have P:fs[j]?=Z g:=by rw[dN hj,e1]
  have l4:=(hP.pk g hg).1;refine(_,_,_,.call P (by rw[hF.1,cO];exact l4),λu V=>?_,on1 (Q.fst j g P))
  let(l,h1,h2):=CP V;let(k,hk,hs):=Eb hF h1;rw[fy]at hk;let(p,hp,U):=gs.mp hk;rw[h2,Es];exact(_,hs,Q.par j g l p P hp)
 ·rename_i x kd arms K aP hx h1 h2 x' k cL ar;let(U,e1):=e;obtain rfl:=dU nd hx ar;exact(_,_,_,.case,one hx (Q.pce n _ ho),bY)
theorem So{b' am:L2.T}(hP:Prog ks fs)(hU:UOk Y6 ks fs i os)(nd:(sc.map (·.1)).Nodup)(K:Kid ks (fs.map (·.1)) sc b j b' am sc')(ho:os[n]?=Z o)(e:b=t)(hA:Ask ks sc t o):
  ∃fam fr,BrR fs i n b am fam fr/\(∀p∈sc'.drop sc.length,FK Y6 ks fam p.2)/\∀p∈fr,Y6 (.t (p.1.map kT)):=by
 have one:∀{x:Str}{fam:Fam}{k:Str},FK Y6 ks fam k->∀p∈(sc++[Prod.mk x k]).drop sc.length,FK Y6 ks fam p.2:=λ{x fam k} h p hp=>by
  rw[Xo]at hp;rw[d2.mp hp];exact h
 have on1:∀{p:Fam×Int},Y6 (.t (p.1.map kT))->∀q ∈ [p],Y6 (.t (q.1.map kT)):=λ{p} h q hq=>by rw[d2.mp hq];exact h
 cases K <;> cases hA <;> first|exact absurd (congrArg tgT e) (Nat.ne_of_beq_eq_false rfl)|simp[Fi,Fj]at e
 ·rename_i w c hw _ _ _ _;refine(_,_,.plain ?_ ?_,(λp hp=>by rw[Yj]at hp;cases hp),nofun)
  ·obtain rfl|rfl:=hw <;> decide
  ·obtain rfl|rfl:=hw <;> decide
 ·rename_i hy hx _ _ _ _ av;let(U,U,U):=e;obtain rfl:=dU nd hy av;exact(_,_,.plain ac ac,one (hU.pce n _ ho),nofun)
 ·rename_i x mm kd ns P hm hx _ _ aR _ _ pC aQ;let(U,e1,e2,U):=e;obtain rfl:=tO hP.gk P pC hm aQ e1;exact(_,_,.plain ac ac,one (hU.pce n _ ho),nofun)
 ·rename_i x h ns hh hx _ _ _ _;let(g,hg,U):=j0.mp hh;let(j',hj,e1):=qp hg;have Q:fs[j']?=Z g:=by rw[dN hj,e1]
  exact(_,_,.call Q,one (hU.res j' g Q),on1 (hU.lst j' g Q))
 ·rename_i x kd arms ar mm hx P aP hl hN ha hm x' k cL ay;let(U,e1):=e;obtain rfl:=dU nd hx ay;have hp:=hU.pce n _ ho;have ak:=gV hm;have em:ar.1=mm.1:=by
   have:=congrArg (·[j]?) aP
   simp only[fy,ha,hm]at this;exact Option.some.inj this
  refine(_,_,.case,λp V=>?_,on1 ?_)
  ·rw[Xo]at V;exact hp.fld hP.gk P ak (Xj V).2
  ·rw[em];exact hp _ (n6 P ak)
end
inductive Std(ks:List Kd)(fs:List Fn)(i:Nat)(f:Fn)(L:List Nod):Nod->Sd->Prop
 |root:Std ks fs i f L (rtN f) (OC i f)
 |kid{n j:Nat}{e:Nod}{d:Sd}{b am:L2.T}{sc:Sc}{us:List (Str×Fam)}{fr fr':bR}{sp:Int}{fam:Fam}:Std ks fs i f L e d->L[n]?=Z e->Kid ks (fs.map (·.1)) e.sc e.b j b am sc->j6 fs i n e.b us fr sp->BrR fs i n e.b am fam fr'->Std ks fs i f L (J8 n e j b am sc) ((d.wth us fr sp).bhd fam fr' sc)
structure SdG(Y6:L2.T->Prop)(ks:List Kd)(sc:Sc)(F H:Nat)(d:Sd):Prop where
 es:d.sc=sc
 hk:d.ho.map (·.1)=sc.map (·.1)
 fl:d.fr.length<=F
 hl:∀p∈d.ho,p.2.length<=H
 fm:∀p∈d.fr,Y6 (.t (p.1.map kT))
 hm:∀p∈d.ho,∀k,(p.1,k)∈sc->∀q∈p.2,FK Y6 ks q.1 k
theorem nJ:∀{k:Nat},p∈vA i k sc->∃l x,sc[l]?=Z (p.1,x)/\p.2=[([.inr "param",.inl (i:Int),.inl ((k+l:Nat):Int)],1)]:=by
 induction sc with
 |nil=>intro k h;cases h
 |cons y r g =>
  intro k h;obtain rfl|h:=kO.mp h
  ·exact(0,y.2,U,U)
  ·let(l,x,h1,h2):=g h;exact(l+1,x,(h1:),by rw[h2,show k+1+l=k+(l+1)by lia])
theorem t8:∀{ho:List (Str×bR)}{p:Str×bR},p∈us.foldl qM ho->∃g∈ho,g.1=p.1/\∀q∈p.2,q∈g.2\/∃u∈us,u.1=p.1/\q=(u.2,-1):=by
 induction us with
 |nil=>intro ho p h;exact(p,h,U,λq hq=>.inl hq)
 |cons u r V =>
  intro ho p h;let(p1,h1,K,h2):=V h;let(g,h0,U):=j0.mp h1;refine(g,h0,?_,λq hq=>?_)
  ·rw[<- K];split <;> rfl
  ·obtain z |⟨v,hv,Q,P⟩:=h2 q hq
   ·split at z
    ·rename_i e;obtain z|z:=i6.mp z
     ·exact .inl z
     ·refine .inr (u,j2,?_,d2.mp z);rw[<- K,if_pos e];exact e.symm
    ·exact .inl z
   ·exact .inr (v,j1 _ hv,Q,P)
section
variable{Y6:L2.T->Prop}{ks:List Kd}{fs:List Fn}{i F H:Nat}{f:Fn}{os:List (Option Str)}{sc:Sc}{d:Sd}
theorem SdG.root(z:Prog ks fs)(hf:fs[i]?=Z f)(g:UOk Y6 ks fs i os):SdG Y6 ks f.1.2.1 1 1 (OC i f) where
 es:=rfl
 hk:=wA
 fl:=ka _
 hl:=λp hp=>by let(l,x,_,h):=nJ hp;rw[h];exact ka _
 fm:=λp hp=>by rw[d2.mp hp];exact g.fst i f hf
 hm:=λp hp k hk q hq=>by
  let(l,x,h1,h2):=nJ hp;rw[h2,Es]at hq;rw[d2.mp hq];obtain rfl:=dU (z.pk f (gV hf)).2.2.1 hk (gV h1);exact g.par i f l _ hf h1
theorem SdG.wth(g:SdG Y6 ks sc F H d)(nd:(sc.map (·.1)).Nodup)(h1:us.length<=4)(h2:fr.length<=1)(h3:∀u∈us,∃k,(u.1,k)∈sc/\FK Y6 ks u.2 k)(h4:∀p∈fr,Y6 (.t (p.1.map kT))):SdG Y6 ks sc (F+1) (H+4) (d.wth us fr sp) where
 es:=g.es
 hk:=kz.trans g.hk
 fl:=by show(d.fr++fr).length<=_;have:=g.fl;rw[i5];lia
 hl:=λp hp=>by have:=D8 g.hl p hp;lia
 fm:=λp hp=>(i6.mp hp).elim (g.fm p) (h4 p)
 hm:=λp hp k hk q hq=>by
  let(K,m0,V,h0):=t8 hp;obtain z |⟨u,P,Q,rfl⟩:=h0 q hq
  ·exact g.hm K m0 k (by rw[V];exact hk) q z
  ·let(k',h5,h6):=h3 u P;rw[Q]at h5;rw[dU nd hk h5];exact h6
theorem SdG.bhd{hs:List Hd}{b b' am:L2.T}{j:Nat}{sc':Sc}{fam:Fam}{fr:bR}(g:SdG Y6 ks sc F H d)(nd:(sc.map (·.1)).Nodup)(K:Kid ks hs sc b j b' am sc')(h1:1<=H)(h2:fr.length<=1)(h3:∀p∈sc'.drop sc.length,FK Y6 ks fam p.2)(h4:∀p∈fr,Y6 (.t (p.1.map kT))):SdG Y6 ks sc' (F+1) H (d.bhd fam fr sc') where
 es:=rfl
 hk:=by
  show(d.ho++(sc'.drop d.sc.length).map λp=>(Prod.mk p.1 [Prod.mk fam (1:Int)])).map (·.1)=_
  rw[j3,g.hk,g.es,rS];have ex:=congrArg (List.map (·.1)) K.ext;rw[j3]at ex;exact ex.symm
 fl:=by show(d.fr++fr).length<=_;have:=g.fl;rw[i5];lia
 hl:=λp hp=>by
  obtain z|z:=i6.mp hp
  ·exact g.hl p z
  ·let(q,_,U):=j0.mp z;exact h1
 fm:=λp hp=>(i6.mp hp).elim (g.fm p) (h4 p)
 hm:=λp hp k hk q hq=>by
  have nn:=K.nd nd;have ex:=K.ext;obtain z|z:=i6.mp hp
  ·have hx:p.1∈sc.map (·.1):=by rw[<- g.hk];exact j0.mpr (p,z,U)
   let((x,k'),h5,P):=j0.mp hx;subst P;obtain rfl:=dU nn hk (by rw[ex];exact pL _ h5)
   exact g.hm p z _ h5 q hq
  ·let(r,hr,U):=j0.mp z;rw[g.es]at hr;rw[d2.mp hq];obtain rfl:=dU nn hk (by rw[ex];exact lY _ hr)
   exact h3 r hr
end
theorem BrR.len(h:BrR fs i n b am fam fr):fr.length<=1:=by
 cases h <;> simp
def gn(fs:List Fn)(i:Nat)(ps:List Nat):List Fam:=ps.map (pcF i)++(AK fs.length).flatMap λ(j:Nat)=>[[.inr "result",.inl (j:Int)],[.inr "param",.inl (j:Int),.inl 0],[.inr "param",.inl (j:Int),.inl 1],[.inr "param",.inl (j:Int),.inl 2],[.inr "param",.inl (j:Int),.inl 3]]
theorem LA:(gn fs i ps).length=ps.length+5*fs.length:=by
 unfold gn;rw[i5,cO]
 have:∀n,((AK n).flatMap λ(j:Nat)=>([[.inr "result",.inl (j)],[.inr "param",.inl (j),.inl 0],[.inr "param",.inl (j),.inl 1],[.inr "param",.inl (j),.inl 2],[.inr "param",.inl (j),.inl 3]]:List Fam)).length=5*n:=by
  intro n
  induction n with
  |zero=>rfl
  |succ n g=>rw[Yq,Yz,i5,g];simp;lia
 rw[this]
theorem gn.pc:pcF i n∈gn fs i (ps++[n]):=pL _ (j0.mpr (n,ad,U))
theorem gn.res(h:fs[j]?=Z g):([.inr "result",.inl (j:Int)]:Fam)∈gn fs i ps:=lY _ (WO.mpr (j,SR.mpr (g5.mp h).1,ad))
theorem gn.par{i k:Nat}(h:fs[j]?=Z g)(hk:k<4):([.inr "param",.inl (j:Int),.inl (k:Int)]:Fam)∈gn fs i ps:=lY _ (WO.mpr (j,SR.mpr (g5.mp h).1,by
 obtain rfl|rfl|rfl|rfl:=(by lia:k=0\/k=1\/k=2\/k=3) <;> simp))
variable{u:Fam}
theorem gn.up(h:u∈gn fs i ps):u∈gn fs i (ps++[n]):=by
 obtain z|z:=i6.mp h
 ·refine pL _ ?_;rw[j3];exact pL _ z
 ·exact lY _ z
def SdF(fs:List Fn)(i:Nat)(ps:List Nat)(d:Sd):Prop:=∀p∈d.ho,∀q∈p.2,q.1∈gn fs i ps
theorem SdF.wth(h:SdF fs i ps d)(u:j6 fs i n b us fr sp)(hf:fs[i]?=Z f):SdF fs i (ps++[n]) (d.wth us fr sp):=λp hp q hq=>by
 let(g,m0,_,h0):=t8 hp;obtain z |⟨v,hv,_,rfl⟩:=h0 q hq
 ·exact gn.up (h g m0 q z)
 ·cases u with
  |give=>rw[d2.mp hv];exact gn.res hf
  |pay=>cases hv
  |get=>cases hv
  |name=>rw[d2.mp hv];exact gn.pc
  |make _=>let(y,_,U):=j0.mp hv;exact gn.pc
  |call K hl =>
   let(l,Q,P):=CP hv;rw[P];exact gn.par K (by have:=(g5.mp Q).1;lia)
  |case=>rw[d2.mp hv];exact gn.pc
theorem Std.fam{ks:List Kd}{fs:List Fn}{i:Nat}{f:Fn}{L:List Nod}{e:Nod}{d:Sd}(hf:fs[i]?=Z f)(h4:f.1.2.1.length<=4)(h:Std ks fs i f L e d):SdF fs i (e.pa.map (·.1)) d:=by
 induction h with
 |root =>
  intro p hp q hq;let(l,x,e1,e2):=nJ hp;rw[e2,Es]at hq;rw[d2.mp hq];exact gn.par hf (by have:=(g5.mp e1).1;lia)
 |@kid n j e d b am sc us fr fr' sp fam s he V g K P =>
  have h1:=P.wth g hf;clear V g;have ep:(J8 n e j b am sc).pa.map (·.1)=e.pa.map (·.1)++[n]:=by show(e.pa++[Prod.mk n (Prod.mk e.b j)]).map (·.1)=_;rw[j3];rfl
  rw[ep];intro p hp q hq;obtain z|z:=i6.mp hp
  ·exact h1 p z q hq
  ·let(r,_,U):=j0.mp z;rw[d2.mp hq]
   generalize e.b=b' at K
   cases K with
   |plain=>exact gn.pc
   |call Q=>exact gn.res Q
   |case=>exact gn.pc
def Pm(q:Fam×Int):Prop:=q.2=1\/q.2 = -1
def SdT(d:Sd):Prop:=(∀p∈d.fr,Pm p)/\∀p∈d.ho,∀q∈p.2,Pm q
theorem SdT.wth(h:SdT d)(u:j6 fs i n b us fr sp):SdT (d.wth us fr sp):=by
 refine(λp hp=>?_,λp hp q hq=>?_)
 ·obtain z|z:=i6.mp hp
  ·exact h.1 p z
  ·cases u with
   |give=>rw[d2.mp z];exact .inr U
   |make=>rw[d2.mp z];exact .inr U
   |call=>rw[d2.mp z];exact .inr U
   |_=>cases z
 ·let(g,m0,_,h0):=t8 hp;obtain z |⟨v,_,_,rfl⟩:=h0 q hq
  ·exact h.2 g m0 q z
  ·exact .inr U
variable{d:Sd}
theorem Std.pm1(h:Std ks fs i f L e d):SdT d:=by
 induction h with
 |root =>
  refine(λp hp=>by rw[d2.mp hp];exact .inl U,λp hp q hq=>?_)
  let(l,x,_,Q):=nJ hp;rw[Q]at hq;rw[d2.mp hq];exact .inl U
 |@kid n j e d b am sc us fr fr' sp fam s he V P g K =>
  have h1:=K.wth P
  generalize e.b=b' at g
  refine(λp hp=>?_,λp hp q hq=>?_)
  ·obtain z|z:=i6.mp hp
   ·exact h1.1 p z
   ·cases g with
    |plain=>cases z
    |call=>rw[d2.mp z];exact .inl U
    |case=>rw[d2.mp z];exact .inl U
  ·obtain z|z:=i6.mp hp
   ·exact h1.2 p z q hq
   ·let(r,_,U):=j0.mp z;rw[d2.mp hq];exact .inl U
def Ey(C:J)(Y6:L2.T->Prop)(ks:List Kd)(fs:List Fn)(i:Nat)(f:Fn)(L:List Nod)(e:Nod)(S:L2.T):Prop:=∃d,IsS C i S d/\Std ks fs i f L e d/\SdG Y6 ks e.sc (1+2*e.pa.length) (1+4*e.pa.length) d
inductive Jb(C:J)(ts:List L2.T)(Q:L2.T->Prop):Prop
 |mk(ks:List Kd)(fs:List Fn)(i:Nat)(f:Fn)(L:List Nod)(os:List (Option Str))(Y6:L2.T->Prop)(h1:ts=[tPr ks fs,iN i])(h2:Prog ks fs)(h3:fs[i]?=Z f)(h4:Pre ks (fs.map (·.1)) 0 (rtN f) L)(h5:L.length<=50000)(h6:nZ ks L os)(h7:UOk Y6 ks fs i os)(h8:∀X:List L2.T,X.length=L.length->(∀(n:Nat)(e:Nod)(S:L2.T),L[n]?=Z e->X[n]?=Z S->Ey C Y6 ks fs i f L e S)->Q (.l X))
theorem IsS.im(h:IsS C i S d):S.im=true:=by cases h;rfl
theorem Good.p88(g:Good ks fs f e):e.pa.length<=92:=by
 let(N,h,_):=g.dp
 lia
theorem FU(T:Txt K mg a):bf P w K mg base CX0 5 a.nh a.Aq ["program","f"] (spQ K (Jb a.aP)):=by
 refine T.AY.F.okQ fQ (λ_ _ _ _ _ _ hr=>?_)
 ·have hu:=bh hr;refine(_,_,((ag (aA 2 fQ.nd (aO ai))
 (ag (aA 3 fQ.nd (aJ (sZ T) hr T.rV (ae (ao (ao (ao (qv 0) ah) (qv 1)) ah) aw)))
 (ag (bb (g:=(Tg.nm 4)) PassesOwn.never U (Dg (i:=3) (pv 3)) (aY 4 fQ.nd)
 (aj (aT (bG sY me (bF _) (a4 T.cu T.bN (qv 4)) (Zc cz))
 (aj (bo (i:=2) (pv 2) (aJ (mO T) hr T.ip (ae (qv 0) (ae (qv 1) aw)))))
 (ag (aA 5 fQ.nd (Zd (a4 T.cu T.dr (ao (qv 3) (a4 T.cu T.bN (qv 4))))))
 (ag (aA 6 fQ.nd (aJ (kS T) hr T.i9 (ae (qv 0) (ae (a4 T.cu T.bN (qv 4)) (ae (qv 5) (ae (ao (qv 2) (a4 T.cu T.bN (qv 4))) aw))))))
 (aj (bo (i:=2) (pv 2) (aJ (qz T) hr T.km (ae (qv 0) (ae (a4 T.cu T.bN (qv 4)) (ae (qv 5) (ae (a4 T.cu T.jK (qv 4)) (ae (qv 6) aw)))))))))))))
 (aj (de (i:=2) (pv 2))))))),λts Q h=>?_)
  let(ks,fs,i,f,L,os,Y6,U,hP,hf,hR,hL,hA,hU,hq):=h;have aQ:cw ks (fs.map (·.1)) 0 [rtN f] L:=by have:=cw.cons hR (.nil);rwa [qg]at this
  have a5:=gV hf;have G:=Ad hP a5 aQ;have SN:=Tp hP a5 aQ;have ef:atI (fs.map tF) (i:Int)=Z (tF f):=bc (by rw[fy,hf];rfl)
  refine(_,U,_,ef,_,U,ks,fs.map (·.1),rtN f,L,U,U,U,hR,hL,?_);refine(λc q=>∃(X:List L2.T)(o4 o5 o6:Sl),q=[.r (tPr ks fs),.r (iN i),.o (.l X),.r (.l (L.map (spN a.aV))),o4,o5,o6]/\X.length=c/\∀(n:Nat)(e:Nod)(S:L2.T),L[n]?=Z e->X[n]?=Z S->Ey a.aP Y6 ks fs i f L e S,([],_,_,_,U,U,λn e S _ h=>by simp at h),?_,?_)
  ·rintro c y q hy ⟨X,o4,o5,o6,rfl,ar,hX⟩
   rw[fy]at hy;let(e,he,U):=gs.mp hy;have cP:=(g5.mp he).1;have bj:X.length<kf:=bE al
   have cS:L2.T.ims X=true:=ky λt ht=>by
    let(n,hn,U):=qp ht;let(d,hd,_):=hX n _ _ (dN al) (dN hn)
    exact hd.im
   have fin:∀S:L2.T,Ey a.aP Y6 ks fs i f L e S->∀(n:Nat)(z:Nod)(S':L2.T),L[n]?=Z z->(X++[S])[n]?=Z S'->Ey a.aP Y6 ks fs i f L z S':=λS hS n z S' h1 h2=>by
    by_cases hn:n<X.length
    ·rw[ui hn]at h2;exact hX n z S' h1 h2
    ·rw[uD al]at h2
     have cf:n-X.length=0:=by
      have:=(g5.mp h2).1
      simp at this
      lia
     rw[cf]at h2;cases h2;rw[show n=c by lia,he]at h1
     cases h1;exact hS
   refine(_,U,U,ac,_,U,?_)
   obtain⟨j,hj,_⟩|⟨p,z,cs,j,cL,ak,hK,hc⟩:=aQ.from _ rfl c e he
   ·have:e=rtN f:=by
     cases j with
     |zero=>cases hj;rfl
     |succ j=>simp at hj
    subst this;refine(bj,ks,fs,i,f,U,hP,hf,λS hS=>?_)
    exact(_,_,_,_,U,by rw[i5,ar];rfl,fin S (_,hS,.root,.root hP hf hU))
   ·rw[Es]at hK;let(a0,yf):=hK.ok j _ hc;let(eb,cH,ct,aR,bp):=e;obtain rfl:cH=iN p:=congrArg Nod.ab a0;have a3:=gV ak;have g':=G z a3;let(m,ay):=SN z a3;have bM:=(g5.mp ak).1;obtain⟨t,ht⟩:∃ t,X[p]?=Z t:=(_,dN al)
    let(d,hd,hs,hg):=hX p z t ak ht;have b0:p<os.length:=by rw[hA.ln];exact bM
    have ho:os[p]?=Z os[p]:=dN b0;have hk:=hA.ok p z _ ak ho;let(us,fr,sp,u1,u2,u3):=GZ hP hf hU g'.nd ay ho U hk;let(fam,fr',b1,b2,b3):=So hP hU g'.nd yf ho U hk;let(l1,l2):=u1.len;have p88:=g'.p88;have av:=hg.wth (sp:=sp) g'.nd l1 l2 u2 u3;have V:=av.bhd g'.nd yf al b1.len b2 b3
    have a1:atI X (p:Int)=Z t:=bc ht;have a2:atI (L.map (spN a.aV)) (p:Int)=Z (spN a.aV z):=bc (by rw[fy,ak];rfl)
    have cK:=hg.es;have lim:=g'.lim;have key:d.ho.length=z.sc.length:=(congrArg Ez hg.hk:)
    refine(U,ac,_,U,_,a2,U,ac,_,U,?_)
    refine(ay.im,U,ac,_,U,U,ac,_,U,_,a1,?_)
    refine(ks,fs,i,p,z.b,t,d,us,fr,sp,U,hP,ay.im,hd,u1,λu hu=>?_,(?_,?_,λq hq=>?_,?_),λS2 cm=>?_)
    ·let(k,h1,_):=u2 u hu;rw[hg.hk];exact j0.mpr (_,h1,U)
    ·rw[hg.hk];exact g'.nd
    ·have:=hg.fl;lia
    ·have:=hg.hl q hq;lia
    ·lia
    ·have w1:(d.wth us fr sp).sc=z.sc:=av.es;refine(bj,U,ac,_,U,U,ac,_,U,ks,fs,i,p,j,z.b,eb,ct,S2,d.wth us fr sp,bp,fam,fr',U,hP,cm,by rw[w1];exact yf,b1,by rw[w1];exact g'.nd,by rw[w1];exact g'.sk,by rw[w1];exact av.hk,by rw[w1];lia,by have:=av.fl;lia,λS3 cg=>?_)
     refine(_,_,_,_,U,by rw[i5,ar];rfl,fin S3 (_,cg,?_,?_))
     ·rw[a0];exact .kid hs ak yf u1 b1
     ·have ep:aR=z.pa++[(p,z.b,j)]:=congrArg Nod.pa a0;show SdG Y6 ks bp (1+2*aR.length) (1+4*aR.length) _;rw[ep,i5];exact(V.es,V.hk,by have:=V.fl;simp;lia,λq hq=>by have:=V.hl q hq;simp;lia,V.fm,V.hm)
  ·rintro q ⟨X,o4,o5,o6,rfl,ar,hX⟩
   rw[cO]at ar;exact hq X ar hX
abbrev Wt:=List (Int×Int)
def enI(p:Int×Int):Key×L2.T:=(.inl p.1,.i p.2)
def plc(kvs:List (List Key×V))(fam:Fam):Int:=match bP kvs fam with|some (.int j)=>j|_=>0
def Cm(ws:Wt)(j:Int):Int:=((ws.find? λp=>decide (p.1=j)).map (·.2)).getD 0
def u7(ws:Wt)(j x:Int):Wt:=if(ws.any λp=>decide (p.1=j))=O then ws.map (λp=>if p.1=j then(p.1,x)else p)else ws++[(j,x)]
def addW(kvs:List (List Key×V))(ws:Wt)(p:Fam×Int):Wt:=u7 ws (plc kvs p.1) (Cm ws (plc kvs p.1)+p.2)
def nz(p:Int×Int):Bool:=!decide ((L2.T.i p.2).v=(L2.T.i 0).v)
def oA(kvs:List (List Key×V))(ps:bR):Wt:=(ps.foldl (addW kvs) []).filter nz
theorem yc(x j:Int):decide ((Sum.inl x:Key)=.inl j)=decide (x=j):=by
 by_cases h:x=j
 ·rw[decide_eq_true h,decide_eq_true (congrArg _ h)]
 ·rw[decide_eq_false h,decide_eq_false λz=>h (Sum.inl.inj z)]
theorem MV{ws:Wt}{j x:Int}:g7 (ws.map enI) (.inl j) (.i x)=(u7 ws j x).map enI:=by
 unfold g7 u7;have e:((ws.map enI).any λp=>decide (p.1=(.inl j)))=ws.any λp=>decide (p.1=j):=by
  rw[W4];exact congrArg (ws.any ·) (funext λp=>yc p.1 j)
 rw[e]
 split
 ·rw[rS,rS];refine O0 λp _=>?_
  show(if(Sum.inl p.1:Key)=.inl j then _ else _)=enI (if p.1=j then(p.1,x)else p)
  by_cases h:p.1=j
  ·rw[if_pos h,if_pos (congrArg _ h)];rfl
  ·rw[if_neg h,if_neg λz=>h (Sum.inl.inj z)]
 ·rw[j3];rfl
theorem Om{ws:Wt}{j:Int}:(bC (ws.map enI) (.inl j)).getD (.i 0)=.i (Cm ws j):=by
 unfold bC Cm;rw[List.find?_map];have e:((λp=>decide (p.1=.inl j)) ∘ enI)=λp=>decide (p.1=j):=funext λp=>yc p.1 j
 rw[e];cases ws.find? λp=>decide (p.1=j) <;> rfl
theorem oT{ws:Wt}{j x:Int}:(u7 ws j x).map (·.1)=if(ws.any λp=>decide (p.1=j))=O then ws.map (·.1)else ws.map (·.1)++[j]:=by
 unfold u7
 split
 ·rw[rS];exact O0 λp _=>by show(if p.1=j then(p.1,x)else p).1=p.1;split <;> rfl
 ·rw[j3];rfl
theorem MW{ws:Wt}{j x:Int}(h:(ws.map (·.1)).Nodup):((u7 ws j x).map (·.1)).Nodup:=by
 rw[oT]
 split
 ·exact h
 ·rename_i z;refine uF.mpr (h,ad,λa ha b g e=>z ?_)
  rw[d2.mp g]at e;subst e;let(p,hp,e):=j0.mp ha;exact Lm.mpr (p,hp,decide_eq_true e)
theorem IV{ws:Wt}{j x k:Int}(h:k∈(u7 ws j x).map (·.1)):k=j\/k∈ws.map (·.1):=by
 rw[oT]at h
 split at h
 ·exact .inr h
 ·obtain z|z:=i6.mp h
  ·exact .inr z
  ·exact .inl (d2.mp z)
theorem IW{ws:Wt}{j x:Int}:(u7 ws j x).length<=ws.length+1:=by
 have:=congrArg Ez (oT (ws:=ws) (j:=j) (x:=x))
 rw[cO]at this;rw[this]
 split <;> simp
theorem gj:∀{ps:bR}{ws:Wt},(ws.map (·.1)).Nodup->((ps.foldl (addW kvs) ws).map (·.1)).Nodup/\(ps.foldl (addW kvs) ws).length<=ws.length+ps.length/\∀k∈(ps.foldl (addW kvs) ws).map (·.1),k∈ws.map (·.1)\/∃p∈ps,k=plc kvs p.1
 |[],ws,h=>(h,ka _,λk hk=>.inl hk)
 |p::r,ws,h=>by
  let(h1,h2,h3):=gj (MW h)
  have:=IW (ws:=ws) (j:=plc kvs p.1) (x:=Cm ws (plc kvs p.1)+p.2)
  refine(h1,by rw[pq];unfold addW at h2;show(r.foldl (addW kvs) (addW kvs ws p)).length<=_;unfold addW;lia,λk hk=>?_)
  obtain z |⟨q,hq,e⟩:=h3 k hk
  ·obtain z|z:=IV z
   ·exact .inr (p,j2,z)
   ·exact .inl z
  ·exact .inr (q,j1 _ hq,e)
theorem DX:∀ws:Wt,L2.T.imk (ws.map enI)=O
 |[]=>rfl
 |p::r=>by show(O&&L2.T.imk (r.map enI))=O;rw[DX r];rfl
theorem f7:∀f:Fam,kU (f.map kT)=Z f
 |[]=>rfl
 |k::r=>by
  have e:(kT k).key=Z k:=by cases k <;> rfl
  show(match(kT k).key,kU (r.map kT)with|some k,Z r=>Z (k::r)|_,_=>Y)=_
  rw[e,f7 r]
def tPI(p:Int×Int):L2.T:=.t [.i p.1,.i p.2]
theorem DG:∀ws:Wt,cE (ws.map tPI)=Z (ws.map enI)
 |[]=>rfl
 |k::r=>by
  show(match(Z (.inl k.1)),cE (r.map tPI)with|some k',Z r=>Z ((Prod.mk k' (L2.T.i k.2))::r)|_,_=>Y)=_
  rw[DG r];rfl
theorem Sg{ws:Wt}(h:(ws.map (·.1)).Nodup):c7 [] (ws.map enI)=ws.map enI:=by
 rw[mW]
 ·rfl
 ·rw[rS]
  have:(ws.map ((λx=>x.1) ∘ enI))=(ws.map (·.1)).map Sum.inl:=by rw[rS];rfl
  rw[this];exact UD.mpr (h.imp λg z=>g (Sum.inl.inj z))
 ·intro p hp q hq;exact absurd hq x2
inductive Ja(ts:List L2.T)(Q:L2.T->Prop):Prop
 |mk(kvs:List (List Key×V))(A:L2.T)(pr:bR)(h1:ts=[.fz (.dT kvs),A])(h2:(A=.t (pr.map tH1)\/A=.l (pr.map tH1)))(h3:pr.length<=10000)(h4:(∀p∈pr,∃j:Int,bP kvs p.1=Z (.int j)))(h5:∀o vs,Q (.fd o vs ((oA kvs pr).map enI)))
theorem vX(T:Txt K mg a):bf P w K mg base CX0 1 a.ng a.Ap ["places","pairs"] (spQ K Ja):=by
 refine T.uO.F.okQ kr (λ_ _ _ _ _ _ hr=>?_)
 ·have hu:=bh hr;refine(_,_,((ag (aA 2 kr.nd rj)
 (ag (bb (g:=(Tg.tp [3,4])) PassesOwn.never U (Im (i:=1) (pv 1)) (cJ (aY 3 kr.nd) (aY 4 kr.nd))
 (aj (jC (i:=2) hu (pv 2) (Zc (sO (kY hr) (qv 0) (qv 3))) (Zc (aS (xE hu (qv 2) (Zc (sO (kY hr) (qv 0) (qv 3))) ah) (qv 4))))))
 (aj (oN (i:=2) (aE (rh (aL (cv U) cY ap T.eB bi (ae (Zc (bD U (Ip (qv 2)) (N':=["place","weight"]) (.own U (.own U .nil)) (xF (g:=(Tg.tp [0,1])) (λ_ _ _ _ _=>((cJ (ck 0) (ck 1)),(bG DH wY (bF _) (qv 1) ah),(aq (af (Zd (qv 0)) (af (Zd (qv 1)) ai)))))))) aw))))))))),λts Q h=>?_)
  let(kvs,A,pr,U,hA,hl,ak,hq):=h;have st:∀c,((pr.take c).foldl (addW kvs) []).length<=10000:=λc=>by
   have:=(gj (kvs:=kvs) (ps:=pr.take c) (ws:=[]) ad).2.1
   rw[p7]at this;simp at this
   lia
  obtain rfl|rfl:=hA
  all_goals
   refine(λc q=>Q4 λ(A:Sl)(o3 V:Sl)(D:List (Key×L2.T))=>q=[.r (.fz (.dT kvs)),A,.o (.d D),o3,V]/\D=((pr.take c).foldl (addW kvs) []).map enI,(_,_,_,_,U,U),?_,?_)
   ·rintro c y q z ⟨A,o3,V,D,rfl,rfl⟩
    rw[fy]at z;let((fam,x),hz,U):=gs.mp z;let(j,hj):=ak _ (gV hz);have ej:plc kvs fam=j:=by unfold plc;rw[hj]
    have s0:=st c;refine(_,U,((fam,j),(f7 fam,hj),?_));dsimp only[L2.T.key,qC];rw[Om];refine((fam,j),(f7 fam,hj),bE (by rw[cO];lia),DX _,U,_,_,_,_,U,?_)
    rw[pM,hz,Xy,MV,<- ej];rfl
   ·rintro q ⟨A,o3,V,D,rfl,rfl⟩
    rw[cO,mu];let(h1,h2,_):=gj (kvs:=kvs) (ps:=pr) (ws:=[]) ad
    have h2:(pr.foldl (addW kvs) []).length<=10000:=by simp at h2;lia
    refine(DX _,λo vs=>?_)
    refine(bE (by rw[cO,cO];lia),λc ys=>ys=(((pr.foldl (addW kvs) []).take c).filter nz).map tPI,U,?_,?_)
    ·rintro c y ys z rfl
     rw[rS,fy]at z;let(p,hp,U):=gs.mp z;have et:(pr.foldl (addW kvs) []).take (c+1)=(pr.foldl (addW kvs) []).take c++[p]:=by rw[pM,hp];rfl
     rw[et,Xv,j3];refine(_,U,U,aI (λg=>?_) λg=>?_)
     ·have g:nz p=true:=g;have e:[p].filter nz=[p]:=vq g;rw[e];exact(U,U,U)
     ·have g:¬ nz p=true:=g;have e:[p].filter nz=[]:=AL g;rw[e];exact(qg _).symm
    ·rintro ys rfl
     rw[cO,cO,mu];refine(aU (λ_=>rfl) _,_,DG _,?_)
     rw[Sg (List.Nodup.sublist (List.Sublist.map _ XU) h1)];exact(DX _,λo vs=>hq o vs)
def cQ(u:Fam):L2.T:=.t (u.map kT)
theorem rE(h:cQ u=cQ v):u=v:=by
 injection h with h
 have e:=f7 u;rw[h,f7]at e;exact(Option.some.inj e).symm
section
variable{ks:List Kd}{fs:List Fn}{xs:List (Fn×List (Option Str))}
theorem Ah(h:m∈cy ks k ks):L2.T.t (fam++[.s m])∈lP ks fam k:=j0.mpr (m,h,U)
theorem A7:∀{k:Nat},sc[l]?=Z p->t∈lP ks [.s "param",iN i,iN (k+l)] p.2->t∈dR ks i k sc:=by
 induction sc generalizing l with
 |nil=>intro k h;simp at h
 |cons y r q =>
  intro k h g;cases l with
  |zero=>cases h;exact pL _ g
  |succ l=>exact lY _ (q (h:) (by rw[show k+1+l=k+(l+1)by lia];exact g))
theorem EZ:∀{n:Nat},os[l]?=Z o->t∈A8 ks i (n+l) o->t∈dG ks i n os:=by
 induction os generalizing l with
 |nil=>intro k h;simp at h
 |cons y r q =>
  intro n h g;cases l with
  |zero=>cases h;exact pL _ g
  |succ l=>exact lY _ (q (h:) (by rw[show n+1+l=n+(l+1)by omega];exact g))
theorem E2{x:Fn×List (Option Str)}:∀{xs:List (Fn×List (Option Str))}{i j:Nat},xs[j]?=Z x->t∈oq ks (i+j) x.1 x.2->t∈bL ks i xs:=by
 intro xs
 induction xs with
 |nil=>intro i j h;simp at h
 |cons y r q =>
  intro i j h g;cases j with
  |zero=>cases h;exact pL _ g
  |succ j=>exact lY _ (q (h:) (by rw[show i+1+j=i+(j+1)by omega];exact g))
theorem UOk.of(K:Unk ks fs xs){x:Fn×List (Option Str)}(hx:xs[i]?=Z x):UOk (· ∈ bL ks 0 xs) ks fs i x.2:=by
 have at_:∀{j:Nat}{g:Fn},fs[j]?=Z g->∃os,xs[j]?=Z (g,os):=λ{j g} h=>by
  have:=congrArg (·[j]?) K.fn
  simp only[fy,h]at this;let(y,q,e):=gs.mp this;exact(y.2,by rw[q,<- e])
 have go:∀{t:L2.T}{j:Nat}{g:Fn}{os:List (Option Str)},xs[j]?=Z (g,os)->t∈oq ks j g os->t∈bL ks 0 xs:=λ{t j g os} h z=>E2 (j:=j) h (by rw[Es];exact z)
 refine(λj g k p h1 h2 m hm=>?_,λj g h1=>?_,λj g h1=>?_,λj g h1 m hm=>?_,λn k h1 m hm=>?_)
 ·let(os,h3):=at_ h1;refine go h3 ?_;refine pL _ (pL _ (pL _ (pL _ (A7 h2 ?_))));rw[Es];exact Ah hm
 ·let(os,h3):=at_ h1;refine go h3 ?_;exact pL _ (pL _ (pL _ (lY _ (d2.mpr U))))
 ·let(os,h3):=at_ h1;refine go h3 ?_;exact pL _ (lY _ (d2.mpr U))
 ·let(os,h3):=at_ h1;refine go h3 ?_;exact pL _ (pL _ (lY _ (Ah hm)))
 ·refine go hx ?_;refine lY _ (EZ h1 ?_);rw[Es];exact j0.mpr (m,hm,U)
def uA(u:Fam):Prop:=u.length<=10/\∃s r,u=.inr s::r
theorem LX:∃us:List Fam,bL ks 0 xs=us.map cQ/\∀u∈us,uA u:=by
 have lift:∀l,(∀t∈l,∃u,t=cQ u/\uA u)->∃us:List Fam,l=us.map cQ/\∀u∈us,uA u:=by
  intro l
  induction l with
  |nil=>intro _;exact([],U,bY)
  |cons t r q =>
   intro h;let(u,U,P):=h t j2;let(us,U,K):=q λt g=>h t (j1 _ g)
   exact(u::us,U,λv hv=>(kO.mp hv).elim (λe=>e▸P) (K v))
 have fam:∀s0 fm k,fm.length<=8->∀t∈lP ks ((.inr s0::fm).map kT) k,∃u,t=cQ u/\uA u:=λs0 fm k h9 t g=>by
  let(m,_,U):=j0.mp g;exact(.inr s0::fm++[.inr m],by unfold cQ;rw[j3];rfl,by rw[i5,pq,vr];lia,_,_,U)
 have par:∀sc i k,∀t∈dR ks i k sc,∃u,t=cQ u/\uA u:=by
  intro sc
  induction sc with
  |nil=>intro i k t g;cases g
  |cons p r q =>
   intro i k t g;obtain z|z:=i6.mp g
   ·exact fam "param" [.inl i,.inl k] p.2 (by show 2<=8;decide) t z
   ·exact q i (k+1) t z
 have ps:∀os i n,∀t∈dG ks i n os,∃u,t=cQ u/\uA u:=by
  intro os
  induction os with
  |nil=>intro i k t g;cases g
  |cons o r q =>
   intro i n t g;obtain z|z:=i6.mp g
   ·cases o with
    |none=>cases z
    |some k=>exact fam "piece" [.inl i,.inl n] k (by show 2<=8;decide) t z
   ·exact q i (n+1) t z
 have all:∀xs i,∀t∈bL ks i xs,∃u,t=cQ u/\uA u:=by
  intro xs
  induction xs with
  |nil=>intro i t g;cases g
  |cons x r q =>
   intro i t g;obtain z|z:=i6.mp g
   ·obtain z|z:=i6.mp z
    ·obtain z|z:=i6.mp z
     ·obtain z|z:=i6.mp z
      ·obtain z|z:=i6.mp z
       ·exact par _ _ _ t z
       ·exact([.inr "first",.inl i],d2.mp z,by show 2<=10;decide,_,_,U)
      ·exact fam "result" [.inl i] _ (by show 1<=8;decide) t z
     ·exact([.inr "last",.inl i],d2.mp z,by show 2<=10;decide,_,_,U)
    ·exact ps _ _ _ t z
   ·exact q (i+1) t z
 exact lift _ (all xs 0)
end
def gi:Nat->List Fam->List (List Key×V)
 |_,[]=>[]
 |k,u::r=>(u,.int k)::gi (k+1) r
def plD(us:List Fam):List (List Key×V):=cC [] (gi 0 us)
theorem Cp{us:List Fam}:∀{k:Nat},gi k (us++[u])=gi k us++[(u,.int ((k+us.length:Nat):Int))]:=by
 induction us with
 |nil=>intro k;rfl
 |cons v r g=>intro k;show _::gi (k+1) (r++[u])=_::_;rw[g,show k+1+r.length=k+(r.length+1)by lia];rfl
theorem v7{R:V->Prop}{u:List Key}:∀{more kvs:List (List Key×V)},(∀p∈more,R p.2)->((∃v,bP kvs u=Z v/\R v)\/u∈more.map (·.1))->∃v,bP (cC kvs more) u=Z v/\R v
 |[],kvs,_,h=>by
  obtain h|h:=h
  ·exact h
  ·cases h
 |p::r,kvs,g,h=>by
  show ∃v,bP (cC (putK kvs p.1 p.2) r) u=Z v/\R v
  refine v7 (λq hq=>g q (j1 _ hq)) ?_
  rw[rX];by_cases e:u=p.1
  ·rw[if_pos e];exact .inl (_,U,g p j2)
  ·rw[if_neg e];obtain h|h:=h
   ·exact .inl h
   ·obtain z|z:=kO.mp h
    ·exact absurd z e
    ·exact .inr z
theorem Gp{us:List Fam}:∀{k:Nat},∀p∈gi k us,∃j:Nat,p.2=.int j/\j<k+us.length:=by
 induction us with
 |nil=>intro k p hp;cases hp
 |cons u r g =>
  intro k p hp;obtain rfl|hp:=kO.mp hp
  ·exact(k,U,by rw[pq];lia)
  ·let(j,h1,h2):=g p hp;exact(j,h1,by rw[pq];lia)
theorem Cq{us:List Fam}:∀{k:Nat},(gi k us).map (·.1)=us:=by
 induction us with
 |nil=>intro k;rfl
 |cons u r g=>intro k;show u ::(gi (k+1) r).map (·.1)=_;rw[g]
theorem Uj{us:List Fam}(h:cQ u∈us.map cQ):∃j:Nat,bP (plD us) u=Z (.int j)/\j<us.length:=by
 let(v,hv,e):=j0.mp h;obtain rfl:=rE e;let(x,h1,j,h2,h3):=v7 (R:=λx=>∃j:Nat,x=.int j/\j<us.length) (more:=gi 0 us) (λp hp=>by let(j,a,b):=Gp p hp;exact(j,a,al)) (.inr (by rw[Cq];exact hv))
 rw[h2]at h1;exact(j,h1,h3)
theorem zE{us:List Fam}:∀{k:Nat},kx ((gi k us).map λp=>.t [.t (p.1.map kT),match p.2 with|.int x=>.i x|_=>.n])=Z (gi k us):=by
 induction us with
 |nil=>intro k;rfl
 |cons u r g =>
  intro k;have e:zG (.t [.t (u.map kT),.i (k)])=Z (u,.int k):=by
   show(kU (u.map kT)).map _=_;rw[f7];rfl
  show(match zG (.t [.t (u.map kT),.i (k)]),kx ((gi (k+1) r).map _)with|some p,Z ps=>Z (p::ps)|_,_=>Y)=_
  rw[e,g];rfl
structure Row where
 nm:List L2.T
 ws:Wt
 sp:Int
inductive IsR(N:Nat):L2.T->Row->Prop
 |mk{r:Row}{o:Obj}{vs:List (Key×V)}:(∀p∈r.ws,∃j:Nat,p.1=(j:Int)/\j<N)->L2.T.ims r.nm=O->r.ws.length<=60->(r.ws.map (·.1)).Nodup->(∀p∈r.ws,-100000<=p.2/\p.2<=100000)->IsR N (.t [.t r.nm,.fd o vs (r.ws.map enI),.i r.sp]) r
structure Rws(N:Nat)(ys:List L2.T)(rs:List Row):Prop where
 ln:ys.length=rs.length
 ok:∀(i:Nat)(y:L2.T)(r:Row),ys[i]?=Z y->rs[i]?=Z r->IsR N y r
theorem Rws.nil:Rws N [] []:=(U,λi y r h=>by simp at h)
variable{rs:List Row}
theorem Rws.app{q:List Row}(h:Rws N ys rs)(h':Rws N g q):Rws N (ys++g) (rs++q):=by
 refine(by rw[i5,i5,h.ln,h'.ln],λi y r h1 h2=>?_)
 by_cases hi:i<ys.length
 ·rw[ui hi]at h1;rw[ui (by rw[<- h.ln];exact hi)]at h2
  exact h.ok i y r h1 h2
 ·rw[uD al]at h1
  rw[uD (by rw[<- h.ln];lia),<- h.ln]at h2
  exact h'.ok _ y r h1 h2
theorem Rws.one{y:L2.T}{r:Row}(h:IsR N y r):Rws N [y] [r]:=(U,λi g q h1 h2=>by
 cases i with
 |zero=>cases h1;cases h2;exact h
 |succ i=>simp at h1)
def Cj(ho:List (Str×bR))(x:Str):bR:=((ho.find? λp=>decide (p.1=x)).map (·.2)).getD []
theorem Gi(h:(ho.map (·.1)).Nodup)(hp:p∈ho):Cj ho p.1=p.2:=by
 unfold Cj
 induction ho with
 |nil=>cases hp
 |cons q r g =>
  have h':=uj.mp h;rw[vF];obtain rfl|z:=kO.mp hp
  ·rw[decide_eq_true rfl];rfl
  ·have e:q.1≠p.1:=λe=>h'.1 (j0.mpr (p,z,e.symm))
   rw[decide_eq_false e];exact g h'.2 z
def EY(kvs:List (List Key×V))(i n:Nat)(ho:List (Str×bR))(x m:Str):Row:=([.s "use",iN i,iN n,.s x,.s m],oA kvs ((Cj ho x).map λq=>(q.1++[.inr m],q.2)),0)
noncomputable def rY(ks:List Kd)(kvs:List (List Key×V))(i n:Nat)(ho:List (Str×bR))(sc:Sc):List Row:=sc.flatMap λp=>(cy ks p.2 ks).map (EY kvs i n ho p.1)
theorem vJ(g:bw ks):(rY ks kvs i n ho sc).length<=36*sc.length:=m7 sc λp _=>by
 rw[cO]
 have:=g.wl (k:=p.2) λ_ h=>h
 have:=g.k2
 lia
def OV(N:Nat)(kvs:List (List Key×V))(u:Fam):Prop:=∃j:Nat,bP kvs u=Z (.int j)/\j<N/\u.length<=10
theorem CY{ps:bR}(h:∀p∈ps,OV N kvs p.1):∀p∈oA kvs ps,∃j:Nat,p.1=(j:Int)/\j<N:=λp hp=>by
 have hp:=(O4.mp hp).1;let(_,_,h3):=gj (ws:=[]) ad
 obtain z |⟨q,hq,e⟩:=h3 p.1 (j0.mpr (p,hp,rfl))
 ·cases z
 ·let(j,h1,h2,_):=h q hq;exact(j,by rw[e];unfold plc;rw[h1],h2)
theorem JP:∀{l l':List Int},l.Nodup->(∀x∈l,x∈l')->l.length<=l'.length
 |[],_,_,_=>v5 _
 |x::r,l',hn,h=>by
  have hx:=h x j2;have g:=uj.mp hn
  have:=JP (l':=l'.erase x) g.2 λy q=>(Ys λe=>g.1 (by rw[<- e];exact q)).mpr (h y (j1 _ q))
  have e:=Yb hx
  have:=O1.mpr (List.ne_nil_of_mem hx)
  rw[pq]
  lia
theorem MX{ws:Wt}{j x:Int}(h:p∈u7 ws j x):p∈ws\/p.2=x:=by
 unfold u7 at h
 split at h
 ·let(q,hq,U):=j0.mp h;by_cases e:q.1=j
  ·rw[if_pos e];exact .inr U
  ·rw[if_neg e];exact .inl hq
 ·obtain z|z:=i6.mp h
  ·exact .inl z
  ·rw[d2.mp z];exact .inr U
theorem Oo{ws:Wt}{j:Int}:Cm ws j=0\/∃p∈ws,Cm ws j=p.2:=by
 unfold Cm;cases h:ws.find? λp=>decide (p.1=j)with
 |none=>exact .inl U
 |some p=>exact .inr (p,Xa h,U)
theorem Ex{kvs:List (List Key×V)}:∀{ps:bR}{ws:Wt}{Za:Int},0<=Za->(∀p∈ps,-1<=p.2/\p.2<=1)->(∀p∈ws,-Za<=p.2/\p.2<=Za)->∀p∈ps.foldl (addW kvs) ws,-(Za+ps.length)<=p.2/\p.2<=Za+ps.length
 |[],ws,Za,_,_,h,p,hp=>by
  have:=h p hp
  rw[WJ]
  lia
 |q::r,ws,Za,h0,h1,h,p,hp=>by
  have hq:=h1 q j2
  have:=Ex (kvs:=kvs) (ps:=r) (ws:=addW kvs ws q) (Za:=Za+1) al (λp hp=>h1 p (j1 _ hp)) (λp hp=>by
   obtain z|z:=MX hp
   ·have:=h p z;lia
   ·rw[z];obtain e |⟨y,g,e⟩:=Oo (ws:=ws) (j:=plc kvs q.1)
    ·rw[e];lia
    ·rw[e];have:=h y g;lia) p hp
  rw[pq]
  lia
theorem CZ{ps:bR}(hl:ps.length<=100000)(h:∀p∈ps,p.2=1\/p.2 = -1):∀p∈oA kvs ps,-100000<=p.2/\p.2<=100000:=λp hp=>by
 have:=Ex (ws:=[]) (Za:=0) ac (λq hq=>by have:=h q hq;lia) bY p (O4.mp hp).1
 lia
theorem wU{ps:bR}:((oA kvs ps).map (·.1)).Nodup:=by
 have h1:=(gj (kvs:=kvs) (ps:=ps) (ws:=[]) ad).1
 exact List.Nodup.sublist (List.Sublist.map _ XU) h1
theorem L9{ps:bR}:(oA kvs ps).length<=ps.length:=by
 have h2:=(gj (kvs:=kvs) (ps:=ps) (ws:=[]) ad).2.1
 have h3:=O2 nz (ps.foldl (addW kvs) []);unfold oA;simp at h2
 lia
theorem Hn{ps:bR}{FS:List Fam}(h:∀p∈ps,p.1∈FS):(oA kvs ps).length<=FS.length:=by
 have:=JP wU λx hx=>by
  let(p,hp,U):=j0.mp hx;let(_,_,h3):=gj (kvs:=kvs) (ws:=[]) ad
  obtain z |⟨q,hq,e⟩:=h3 p.1 (j0.mpr (p,(O4.mp hp).1,rfl))
  ·cases z
  ·rw[e];exact j0.mpr (_,h q hq,U)
 rw[cO,cO]at this;exact this
inductive FE(C:J)(ts:List L2.T)(Q:L2.T->Prop):Prop
 |mk(ks:List Kd)(fs:List Fn)(i n N:Nat)(kvs:List (List Key×V))(S:L2.T)(d:Sd)(h1:ts=[tPr ks fs,iN n,.fz (.dT kvs),S])(h2:Prog ks fs)(h3:IsS C i S d)(h4:(d.sc.map (·.1)).Nodup)(h5:d.ho.map (·.1)=d.sc.map (·.1))(h6:d.sc.length<=372)(h7:(∀p∈d.ho,p.2.length<=5000))(h8:(∀p∈d.ho,∀k,(p.1,k)∈d.sc->∀q∈p.2,∀m∈cy ks k ks,OV N kvs (q.1++[.inr m])))(h9:(∃FS:List Fam,FS.length<=60/\∀p∈d.ho,∀q∈p.2,q.1∈FS/\(q.2=1\/q.2 = -1)))(h10:∀ys,Rws N ys (rY ks kvs i n d.ho d.sc)->Q (.l ys))
theorem zJ(T:Txt K mg a):bf P w K mg base CX0 4 a.iU a.ug ["program","n","places","stand"] (spQ K (FE a.aP)):=by
 refine T.uM.F.okQ dH (λ_ _ _ _ _ _ hr=>?_)
 ·have hu:=bh hr;refine(_,_,((ag (aA 4 dH.nd (aO ai))
 (ag (bb (g:=(Tg.tp [5,6])) PassesOwn.never U (Io (a4 T.bj T.c6 (qv 3))) (cJ (aY 5 dH.nd) (aY 6 dH.nd))
 (aj (bb (g:=(Tg.nm 7)) PassesOwn.never U (eR (aJ (oW T) hr T.nW (ae (ao (qv 0) ah) (ae (qv 6) aw)))) (aY 7 dH.nd)
 (ag (dY (i:=8) dH.nd U (Or.inl U) U (dZ (cG (a4 T.bj T.cS (qv 3)) (qv 5))) (N':=["family","times","maker"]) (.own U (.own U (.got (i:=7) U U (.inl U) .nil))) (bx (g:=(Tg.tp [0,1])) (λ_ _ _ _ _=>((cJ (ck 0) (ck 1)),(aq (af (aS (qv 0) (Zc (aq (af (Zd (qv 2)) ai)))) (af (Zd (qv 1)) ai)))))))
 (aj (bo (i:=4) (pv 4) (aq (af (aq (af aH (af (Zd (a4 T.bj T.dD (qv 3))) (af (Zd (qv 1)) (af (Zd (qv 5)) (af (Zd (qv 7)) ai)))))) (af (aJ (vX T) hr T.uO (ae (qv 2) (ae (qv 8) aw))) (af br ai))))))))))
 (aj (de (i:=4) (pv 4)))))),λts Q h=>?_)
  let(ks,fs,i,n,N,kvs,S,d,U,hP,hS,nd,hk,bp,a5,aV,(FS,Wl,UT),hq):=h;have gk:=hP.gk;cases hS with
  |@mk _ o1 o2 v1 v2 =>
   refine(U,ac,_,U,?_)
   refine(λc q=>Z5 λ(X:List L2.T)(o5 o6 o7 o8:Sl)=>q=[.r (tPr ks fs),.r (iN n),.r (.fz (.dT kvs)),.r (.ob a.aP ["f","free","spent","kinds","holdings"] [iN i,tHo d.fr,.i d.sp,.fd o1 v1 (d.sc.map enP),.fd o2 v2 (d.ho.map enH)]),.o (.l X),o5,o6,o7,o8]/\Rws N X (rY ks kvs i n d.ho (d.sc.take c)),([],_,_,_,_,U,.nil),?_,?_)
   ·rintro c y q hy ⟨X,o5,o6,o7,o8,rfl,hX⟩
    rw[rS,fy]at hy;let((x,k),hz,U):=gs.mp hy;have hm:=gV hz;have aR:x∈d.ho.map (·.1):=by rw[hk];exact j0.mpr (_,hm,U)
    let((x',h),hp,e):=j0.mp aR;have e:x'=x:=e;subst e;have a0:=mX (f:=λp:Str×bR=>p.1) (g:=λp=>tHo p.2) (by rw[hk];exact nd) hp
    have a3:=Gi (by rw[hk];exact nd) hp
    have ak:=a5 _ hp;have ar:=aV _ hp k hm;have ez:rY ks kvs i n d.ho (d.sc.take (c+1))=rY ks kvs i n d.ho (d.sc.take c)++(cy ks k ks).map (EY kvs i n d.ho x'):=by
     unfold rY;rw[pM,hz,Yz];exact congrArg _ (qg _)
    have wl:=gk.wl (k:=k) (xs:=ks) λ_ h=>h
    have k6:=gk.k2;have ul:=vJ gk (kvs:=kvs) (i:=i) (n:=n) (ho:=d.ho) (sc:=d.sc.take c);rw[p7]at ul;refine(_,U,_,U,ks,k,U,gk,?_);refine(λj q=>P3 λ(X:List L2.T)(o7 o8:Sl)=>q=[.r (tPr ks fs),.r (iN n),.r (.fz (.dT kvs)),.r (.ob a.aP ["f","free","spent","kinds","holdings"] [iN i,tHo d.fr,.i d.sp,.fd o1 v1 (d.sc.map enP),.fd o2 v2 (d.ho.map enH)]),.o (.l X),.r (.s x'),.r (.s k),o7,o8]/\Rws N X (rY ks kvs i n d.ho (d.sc.take c)++((cy ks k ks).take j).map (EY kvs i n d.ho x')),(X,_,_,U,by rw[List.take_zero,List.map_nil,qg];exact hX),?_,?_)
    ·rintro j y q hy ⟨X,o7,o8,rfl,hX⟩
     rw[fy]at hy;let(m,aQ,U):=gs.mp hy;have av:=gV aQ;have bM:X.length<=15000:=by
      have:=hX.ln
      rw[i5,cO,p7]at this
      lia
     refine(_,U,U,ac,_,U,?_)
     simp only[gw,L2.T.dof];refine(_,a0,?_);refine(bz (by rw[cO];show _<=10000;lia),λc ys=>ys=((h.take c).map λq=>(q.1++[(.inr m:Key)],q.2)).map tH1,U,?_,?_)
     ·rintro c' y ys hy rfl
      rw[fy]at hy;let((fam,tm),ay,U):=gs.mp hy;let(_,_,_,h10):=ar _ (gV ay) m av;have h10:fam.length+1<=10:=(h10:)
      refine(_,U,U,bz (by rw[cO];show fam.length+1<=10000;lia),iS _,U,U,?_)
      rw[pM,ay,j3,j3];show _++[L2.T.t [.t (fam.map kT++[.s m]),.i tm]]=_++[L2.T.t [.t ((fam++[(.inr m:Key)]).map kT),.i tm]];rw[j3];rfl
     ·rintro ys rfl
      rw[cO,mu];refine(bE al,?_)
      have V9:∀p∈oA kvs ((h.map λq=>(q.1++[(.inr m:Key)],q.2))),∃j:Nat,p.1=(j:Int)/\j<N:=CY λp V=>by
       let(q,z,U):=j0.mp V;exact ar q z m av
      refine(U,ac,_,U,U,U,U,U,kvs,_,h.map λq=>(q.1++[(.inr m:Key)],q.2),U,.inr U,by rw[cO];have ak:h.length<=5000:=ak;lia,λp V=>?_,λo vs=>?_)
      ·let(q,z,U):=j0.mp V;let(jj,h1,_):=ar q z m av;exact(_,h1)
      ·have hR:IsR N (.t [.t [.s "use",iN i,iN n,.s x',.s m],.fd o vs ((oA kvs (h.map λq=>(q.1++[(.inr m:Key)],q.2))).map enI),.i 0]) (EY kvs i n d.ho x' m):=by
        have:=@IsR.mk N (EY kvs i n d.ho x' m) o vs
        unfold EY at this ⊢;rw[a3]at this ⊢;refine this V9 U (qR (Hn (FS:=FS.map λu=>u++[(.inr m:Key)]) λp V=>?_) (by rw[cO];exact Wl)) wU (CZ (by rw[cO];have ak:h.length<=5000:=ak;lia) λp V=>?_)
        ·let(q,z,U):=j0.mp V;exact j0.mpr (_,(UT _ hp q z).1,U)
        ·let(q,z,U):=j0.mp V;exact(UT _ hp q z).2
       refine(_,_,_,U,?_);rw[pM,aQ,j3,<- u6];exact hX.app (.one hR)
    ·rintro q ⟨X,o7,o8,rfl,hX⟩
     rw[cO,mu,<- ez]at hX;exact(X,_,_,_,_,U,hX)
   ·rintro q ⟨X,o5,o6,o7,o8,rfl,hX⟩
    rw[cO,cO,mu]at hX;exact hq X hX
def RwE(N:Nat)(X:List L2.T):Prop:=∃rs,Rws N X rs
theorem RwE.app(h:RwE N X)(h':RwE N Y9):RwE N (X++Y9):=Exists.elim h λa b=>Exists.elim h' λc d=>(a++c,b.app d)
structure Nds(ks:List Kd)(fs:List Fn)(xs:List (Fn×List (Option Str)))(zs:List (Fn×List Nod)):Prop where
 fn:zs.map (·.1)=fs
 ok:∀(i:Nat)(x:Fn×List (Option Str))(z:Fn×List Nod),xs[i]?=Z x->zs[i]?=Z z->Pre ks (fs.map (·.1)) 0 (rtN z.1) z.2/\z.2.length<=100/\nZ ks z.2 x.2/\∀e∈z.2,e.pa.length<=20
 l3:fs.length<=3
theorem JV(h:n<=12000000):n<kf:=W8 h ac
def tPV(p:List Key×V):L2.T:=.t [.t (p.1.map kT),match p.2 with|.int x=>.i x|_=>.n]
theorem Snd.wrd(S:Snd ks hs r m sc b):∃w l,b=.t (.s w::l):=by
 cases S <;> exact(_,_,U)
inductive Rb(ts:List L2.T)(Q:L2.T->Prop):Prop
 |mk(ks:List Kd)(fs:List Fn)(xs:List (Fn×List (Option Str)))(zs:List (Fn×List Nod))(us:List Fam)(h1:ts=[tPr ks fs])(h2:Prog ks fs)(h3:Unk ks fs xs)(h4:Nds ks fs xs zs)(h5:bL ks 0 xs=us.map cQ)(h6:(∀u∈us,u.length<=10))(h7:∀ys,RwE us.length ys->ys.length<=12000000->Q (.l ys))
theorem NK(T:Txt K mg a):bf P w K mg base CX0 8 a.ym a.KN ["program"] (spQ K Rb):=by
 refine T.CH.F.okQ fG (λ_ _ _ _ _ _ hr=>?_)
 ·have hu:=bh hr;refine(_,_,((ag (aA 1 fG.nd (Iy (kY hr) T.eB (bD U (Ir U T.bp bi (ae (Zc (aJ (gA T) hr T.gp (ae (qv 0) aw))) aw)) (N':=["place","unknown"]) (.own U (.own U .nil)) (bx (g:=(Tg.tp [0,1])) (λ_ _ _ _ _=>((cJ (ck 0) (ck 1)),(aq (af (Zd (qv 1)) (af (Zd (qv 0)) ai)))))))))
 (ag (aA 2 fG.nd (aO ai))
 (ag (bb (g:=(Tg.tp [3,4])) PassesOwn.never U (ku U T.bp bi (ae (ao (qv 0) ah) aw)) (cJ (aY 3 fG.nd) (aY 4 fG.nd))
 (ag (aA 5 fG.nd (aJ (vY T) hr T.uQ (ae (ao (qv 4) ah) aw)))
 (aj (bb (g:=(Tg.tp [6,7])) PassesOwn.never U (zf T.bp (aJ (FU T) hr T.AY (ae (qv 0) (ae (qv 3) aw)))) (cJ (aY 6 fG.nd) (aY 7 fG.nd))
 (aj (aT (bG (xQ U) sy U (ao (ao (qv 5) (qv 6)) ah) (Zc (Iw U T.K7 T.IB)))
 (ag (aA 8 fG.nd (aJ (kS T) hr T.i9 (ae (qv 0) (ae (qv 6) (ae (ao (qv 5) (qv 6)) (ae (qv 7) aw))))))
 (ag (bo (i:=2) (pv 2) (aq (af (aq (af aH (af (Zd (qv 3)) (af (Zd (qv 6)) ai)))) (af (aJ (vX T) hr T.uO (ae (qv 1) (ae (a4 T.bj T.e7 (qv 8)) aw))) (af (Zd (a4 T.bj T.d3 (qv 8))) ai)))))
 (aj (aT (bH hu (ao (ao (qv 5) (qv 6)) ah) (Zc aH))
 (aj (cN (i:=2) (pv 2) (aJ (zJ T) hr T.uM (ae (qv 0) (ae (qv 6) (ae (qv 1) (ae (qv 8) aw)))))))
 aF))))
 aF))))))
 (aj (de (i:=2) (pv 2))))))),λts Q h=>?_)
  let(ks,fs,xs,zs,us,U,hP,hU,hN,aR,V7,hq):=h;have l8:=hP.l8;have lx:xs.length=fs.length:=by rw[<- hU.fn,cO]
  have lz:zs.length=fs.length:=by rw[<- hN.fn,cO]
  have lim:∀x∈xs,x.1.1.2.1.length<=4/\x.2.length<=50000:=λx hx=>by
   let(L,_,h5,hA):=hU.ok x hx
   have:x.1∈fs:=by rw[<- hU.fn];exact j0.mpr (x,hx,U)
   exact((hP.pk _ this).1,by rw[hA.ln];exact h5)
  have lus:us.length<=14500000:=by
   have:=oo hP.gk lim (i:=0)
   rw[aR,cO]at this
   lia
  have PL:∀{u:Fam},cQ u∈bL ks 0 xs->OV us.length (plD us) u:=λ{u} h=>by
   rw[aR]at h;let(j,h1,h2):=Uj h;let(v,hv,e):=j0.mp h;obtain rfl:=rE e;exact(j,h1,h2,V7 v hv)
  refine(ks,fs,xs,U,hP,hU,?_);rw[aR];refine(jN (by rw[aZ,cO];lia),λc ys=>ys=(gi 0 (us.take c)).map tPV,U,?_,?_)
  ·rintro c y ys hy rfl
   let(z,hz,U):=bQ hy;rw[fy]at hz;let(u,b0,U):=gs.mp hz;have cH:=(g5.mp b0).1;refine(_,U,iS u,U,?_);rw[pM,b0];show _=(gi 0 (us.take c++[u])).map tPV;rw[Cp,j3,p7,OW al,Es]
   rfl
  ·rintro ys rfl
   rw[aZ,cO,mu];refine(gi 0 us,zE,?_);refine(_,U,pB λf hf=>(hP.sn f hf).1.im,λc q=>∃(X:List L2.T)(o3 o4 o5 o6 o7 o8:Sl),q=[.r (tPr ks fs),.o (.fz (.dT (plD us))),.o (.l X),o3,o4,o5,o6,o7,o8]/\RwE us.length X/\X.length<=1340000*c,([],_,_,_,_,_,_,U,([],.nil),v5 _),?_,?_)
   ·rintro c y q hy ⟨X,o3,o4,o5,o6,o7,o8,rfl,hX,ay⟩
    let(z,hz,U):=bQ hy;rw[fy]at hz;let(f,hf,U):=gs.mp hz;have cH:=(g5.mp hf).1;have av:=gV hf;have bN:xs[c]?=Z xs[c]:=dN al
    have bM:zs[c]?=Z zs[c]:=dN al
    have ez:zs[c].1=f:=by
     have:=congrArg (·[c]?) hN.fn
     simp only[fy,bM,hf]at this;exact Option.some.inj this
    let(hR,hL,hA,aV):=hN.ok c _ _ bN bM;have cg:=UOk.of hU bN
    generalize c1:zs[c].2=L at hR hL hA aV
    rw[ez]at hR;have ct:cw ks (fs.map (·.1)) 0 [rtN f] L:=by have:=cw.cons hR (.nil);rwa [qg]at this
    have G:=Ad hP av ct;have SN:=Tp hP av ct;refine(_,U,_,U,ks,fs.map (·.1),rtN f,L,U,U,U,hR,al,?_)
    refine(ks,fs,c,f,L,_,_,U,hP,hf,hR,al,hA,cg,λY9 cK hY=>?_)
    refine(λn q=>∃(X:List L2.T)(o6 o7 o8:Sl),q=[.r (tPr ks fs),.o (.fz (.dT (plD us))),.o (.l X),.r (iN c),.r (tF f),.o (.l (L.map (·.b))),o6,o7,o8]/\RwE us.length X/\X.length<=1340000*c+13394*n,(X,_,_,_,U,hX,al),?_,?_)
    ·rintro n y q hy ⟨X,o6,o7,o8,rfl,hX,ay⟩
     let(S,hS,U):=bQ hy;have cf:n<L.length:=by have:=(g5.mp hS).1;lia
     have he:L[n]?=Z L[n]:=dN cf
     generalize L[n]=e at he
     have aP:=gV he;have g:=G e aP;let(m,a3):=SN e aP;let(d,hd,hs,hg):=hY n e S he hS;have ho:xs[c].2[n]?=Z (xs[c].2[n]'(by rw[hA.ln];exact cf)):=dN _
     have hk:=hA.ok n e _ he ho;let(V,fr,sp,u1,u2,u3):=GZ hP hf cg g.nd a3 ho U hk;let(l1,l2):=u1.len;have p88:=g.p88;have ak:=hg.wth (sp:=sp) g.nd l1 l2 u2 u3;let(wd,l,eb):=a3.wrd;have ab:atI (L.map (·.b)) (n:Int)=Z e.b:=bc (by rw[fy,he];rfl)
     have a0:atI (L2.T.s wd::l) 0=Z (.s wd):=bc (j:=0) U;have fin:∀(Y7 X':List L2.T)(a5:Sl),Y7=X++X'->RwE us.length X'->X'.length<=13394->∃(X2:List L2.T)(o6 o7 o8:Sl),[.r (tPr ks fs),.o (.fz (.dT (plD us))),.o (.l Y7),.r (iN c),.r (tF f),.o (.l (L.map (·.b))),.r (iN n),.r S,a5]=[.r (tPr ks fs),.o (.fz (.dT (plD us))),.o (.l X2),.r (iN c),.r (tF f),.o (.l (L.map (·.b))),o6,o7,o8]/\RwE us.length X2/\X2.length<=1340000*c+13394*(n+1):=λY7 X' a5 hZ cP c0=>by
      subst hZ;exact(_,_,_,_,U,hX.app cP,by rw[i5];lia)
     have cL:X.length<=12000000:=al
     have cS:=vJ hP.gk (kvs:=plD us) (i:=c) (n:=n) (ho:=(d.wth V fr sp).ho) (sc:=(d.wth V fr sp).sc);have VW:=g.lim;have ar:=ak.es;rw[ar]at cS;refine(_,U,_,ab,?_);rw[eb];refine(_,a0,aI (λg1=>?_) λg1=>?_)
     ·refine(_,ab,ks,fs,c,n,e.b,S,d,V,fr,sp,U,hP,a3.im,hd,u1,λu hu=>?_,(?_,?_,λq hq=>?_,?_),λS2 cm=>?_)
      ·let(k,h1,_):=u2 u hu;rw[hg.hk];exact j0.mpr (_,h1,U)
      ·rw[hg.hk];exact g.nd
      ·have:=hg.fl;lia
      ·have:=hg.hl q hq;lia
      ·have:d.ho.length=e.sc.length:=(congrArg Ez hg.hk:)
       lia
      have av:∀p∈(d.wth V fr sp).fr,OV us.length (plD us) p.1:=λp hp=>PL (ak.fm p hp)
      have cT:=cm;cases cm with
      |@mk _ o1 o2 v1 v2 =>
       refine(JV cL,U,U,U,ac,_,U,plD us,_,(d.wth V fr sp).fr,U,.inl U,by have:=ak.fl;lia,λp hp=>?_,λo vs=>?_)
       ·let(j,h1,_):=av p hp;exact(_,h1)
       have hR:IsR us.length (.t [.t [.s "purse",iN c,iN n],.fd o vs ((oA (plD us) (d.wth V fr sp).fr).map enI),.i (d.wth V fr sp).sp]) ([.s "purse",iN c,iN n],oA (plD us) (d.wth V fr sp).fr,(d.wth V fr sp).sp):=IsR.mk (r:=([.s "purse",iN c,iN n],oA (plD us) (d.wth V fr sp).fr,(d.wth V fr sp).sp)) (CY av) U (qR L9 (by have:=ak.fl;have:=aV e aP;lia)) wU (CZ (by have:=ak.fl;lia) (Std.pm1 hs |>.wth u1).1)
       refine(U,ac,_,U,U,?_)
       refine(_,ab,?_);rw[eb];refine(_,a0,U,aI (λg2=>?_) λg2=>?_)
       ·refine(ks,fs,c,n,us.length,plD us,_,_,U,hP,cT,by rw[ar];exact g.nd,by rw[ar];exact ak.hk,by rw[ar];exact VW,λp hp=>?_,λp hp k hk q hq m hm=>?_,?_,λys aQ=>?_)
        ·have:=ak.hl p hp;lia
        ·rw[ar]at hk;exact PL (ak.hm p hp k hk q hq m hm)
        ·refine(gn fs c (e.pa.map (·.1)++[n]),?_,λp hp q hq=>((hs.fam hf (hP.pk f (gV hf)).1).wth u1 hf p hp q hq,(Std.pm1 hs |>.wth u1).2 p hp q hq))
         have:=aV e aP
         have:=hN.l3
         rw[LA,i5,cO,vr]
         lia
        have cu:=aQ.ln;rw[ar]at cu aQ;refine(?_,?_)
        ·rw[i5,vr];exact uE (jN al)
        ·exact fin _ ([_]++ys) _ (u6 ..) (_,Rws.app (.one hR) aQ) (by rw[i5,vr];lia)
       ·exact fin _ [_] _ U (_,.one hR) (by show 1<=13394;decide)
     ·exact fin _ [] _ (qg _).symm ([],.nil) ac
    ·rintro q ⟨X,o6,o7,o8,rfl,hX,ay⟩
     rw[aZ,cK]at ay;exact(X,_,_,_,_,_,_,U,hX,al)
   ·rintro q ⟨X,o3,o4,o5,o6,o7,o8,rfl,hX,ay⟩
    rw[aZ,cO]at ay;exact hq X hX al
def yw(ns:List Int)(ws:Wt):Int:=(ws.map λp=>p.2*ns.getD p.1.toNat 0).sum
def d7(parts:Int)(ns:List Int):Nat->List Row->Option Nat
 |_,[]=>Y
 |k,r::rs=>if yw ns r.ws<parts*r.sp then Z k else d7 parts ns (k+1) rs
structure PrC(ks:List Kd)(fs:List Fn)(xs:List (Fn×List (Option Str)))(zs:List (Fn×List Nod))(us:List Fam):Prop where
 p:Prog ks fs
 u:Unk ks fs xs
 z:Nds ks fs xs zs
 e:bL ks 0 xs=us.map cQ
 l:∀u∈us,u.length<=10
def Sm(x:Int):Prop:=-(2 ^ 64)<x/\x<2 ^ 64
theorem jR(ns:List Int):L2.T.ims (ns.map .i)=true:=aU (λ_=>rfl) ns
theorem PrC.lus{us:List Fam}(h:PrC ks fs xs zs us):us.length<=14500000:=by
 have lim:∀x∈xs,x.1.1.2.1.length<=4/\x.2.length<=50000:=λx hx=>by
  let(L,_,h5,g):=h.u.ok x hx
  have:x.1∈fs:=by rw[<- h.u.fn];exact j0.mpr (x,hx,U)
  exact((h.p.pk _ this).1,by rw[g.ln];exact h5)
 have q:xs.length=fs.length:=by rw[<- h.u.fn,cO]
 have l8:=h.p.l8
 have:=oo h.p.gk lim (i:=0)
 rw[h.e,cO]at this
 omega
theorem Af{ns:List Int}{r:Row}(h:rs[c]?=Z r):d7 parts ns c (rs.drop c)=if yw ns r.ws<parts*r.sp then Z c else d7 parts ns (c+1) (rs.drop (c+1)):=by
 let(g,e):=g5.mp h;rw[X5 g,e];rfl
theorem xZ{ws:Wt}(h:(ws.map (·.1)).Nodup)(hp:p∈ws):bC (ws.map enI) (.inl p.1)=Z (.i p.2):=by
 induction ws with
 |nil=>cases hp
 |cons q r g =>
  have h':=uj.mp h;unfold bC;rw[qS,vF,show(enI q).1=.inl q.1 from U,yc];obtain rfl|z:=kO.mp hp
  ·rw[decide_eq_true rfl];rfl
  ·have e:q.1≠p.1:=λe=>h'.1 (j0.mpr (p,z,e.symm))
   rw[decide_eq_false e];exact g h'.2 z
def wrT(o:Option Nat):L2.T:=match o with
 |none=>.n
 |some k=>iN k
inductive MZ(ts:List L2.T)(Q:L2.T->Prop):Prop
 |mk(ys:List L2.T)(rs:List Row)(parts:Int)(ns:List Int)(h1:ts=[.l ys,.i parts,.l (ns.map .i)])(h2:Rws ns.length ys rs)(h3:Sm parts)(h4:(∀y∈ns,Sm y))(h5:Q (wrT (d7 parts ns 0 rs)))
theorem JE(T:Txt K mg a):bf P w K mg base CX0 1 a.rF a.Ef [Zo,Zn,Zj] (spQ K MZ):=by
 refine T.EM.F.okQ sA (λ_ _ _ _ _ _ hr=>?_)
 ·have hu:=bh hr;refine(_,_,((ag (bb (g:=(Tg.tp [3,4])) PassesOwn.never U (sN (i:=0) U T.bp bi (pv 0)) (cJ (aY 3 sA.nd) (aY 4 sA.nd))
 (aj (aT (Df (Zc (bA (fT U U) kq ap T.wC bi (ae (Zc (bD U (Iq (ao (qv 4) ah)) (N':=[ZI,"_law_line",Zj]) (.own U (.got (i:=4) U U (.inl U) (.got (i:=2) U U (.inl U) .nil))) (bx (g:=(Tg.nm 0)) (λ_ _ _ _ _=>((ck 0),(fA (cG (ao (qv 1) ah) (qv 0)) (ao (qv 2) (qv 0)))))))) aw))) (Zc (fA (qv 1) (ao (qv 4) ah))))
 (aj (aE (Zd (qv 3))))
 aF)))
 (aj (aE cz)))),λts Q h=>?_)
  let(ys,rs,parts,ns,U,ak,ay,aP,hq):=h;refine(λc q=>Z2 λ(o3 o4:Sl)=>q=[.r (.l ys),.r (.i parts),.r (.l (ns.map .i)),o3,o4]/\d7 parts ns c (rs.drop c)=d7 parts ns 0 rs,(_,_,U,U),?_,?_)
  ·rintro c y q hy ⟨o3,o4,rfl,V⟩
   let(z,hz,U):=bQ hy;have aQ:c<rs.length:=by rw[<- ak.ln];exact(g5.mp hz).1
   have ar:rs[c]?=Z rs[c]:=dN aQ;have hR:=ak.ok c _ _ hz ar
   generalize rs[c]=r at ar hR
   rw[Af ar]at V;let(h1,_,h3,h4):=hR;refine(_,U,_,U,?_);refine(bE (by rw[cO,cO];omega),λj ys=>ys=((r.ws.take j).map λp=>p.2*ns.getD p.1.toNat 0).map .i,U,?_,?_)
   ·rintro j y ys hy rfl
    rw[rS,fy]at hy;let(p,hp,U):=gs.mp hy;have av:=gV hp;let(jj,e1,e2):=h1 p av;have en:ns.getD p.1.toNat 0=ns[jj]:=by rw[e1,Tn,Xn,dN e2];rfl
    have ea:atI (ns.map L2.T.i) p.1=Z (.i ns[jj]):=by rw[e1];exact bc (by rw[fy,dN e2];rfl)
    refine(_,U,_,U,?_);simp only[gw,L2.T.dof];refine(_,xZ h4 av,_,ea,.inr (aP _ (SK e2)),?_);rw[pM,hp,j3,j3];show _=_++[L2.T.i (p.2*ns.getD p.1.toNat 0)];rw[en]
   ·rintro ys rfl
    rw[cO,cO,mu];refine(_,L2.ins_map _,_,U,.inl ay,aI (λg=>(U,?_)) λg=>?_)
    ·have g:yw ns r.ws<parts*r.sp:=of_decide_eq_true g;rw[if_pos g]at V;rw[<- V]at hq;exact hq
    ·have g:¬ yw ns r.ws<parts*r.sp:=λz=>g (decide_eq_true z)
     rw[if_neg g]at V;exact(_,_,U,V)
  ·rintro q ⟨o3,o4,rfl,V⟩
   rw[aZ,ak.ln,Yj]at V;rw[<- V]at hq;exact hq
theorem Kx:∀ns:List Int,fls (ns.map L2.T.i)=O
 |[]=>rfl
 |n::r=>by show(O&&fls (r.map L2.T.i))=O;rw[Kx r];rfl
theorem Ae{ns:List Int}:∀{c k:Nat},d7 parts ns c rs=Z k->∃j r,k=c+j/\rs[j]?=Z r/\yw ns r.ws<parts*r.sp:=by
 induction rs with
 |nil=>intro c k h;cases h
 |cons r rs q =>
  intro c k h;unfold d7 at h
  split at h
  ·cases h;exact(0,r,U,U,(by assumption))
  ·let(j,g,e,h1,h2):=q h;exact(j+1,g,al,(h1:),h2)
inductive Jf(ts:List L2.T)(Q:L2.T->Prop):Prop
 |mk(ys:List L2.T)(rs:List Row)(parts Za:Int)(turns:Nat)(ns:List Int)(A:L2.T)(h1:ts=[.cB,.l ys,.i parts,A,.i (turns:Int)])(h2:A.lst=Z (ns.map .i))(h3:Rws ns.length ys rs)(h4:1<=parts)(h5:parts<=12)(h6:∀y∈ns,0<=y/\y<=Za)(h7:100000000000<=Za)(h8:Za<=200000000000)(h9:ns.length<=16000000)(h10:turns<=1000)(h11:Q .n)(h12:∀ns':List Int,ns'.length=ns.length->(∀y∈ns',0<=y/\y<=Za)->d7 parts ns' 0 rs=Y->Q (.l (ns'.map .i)))
theorem vZ(T:Txt K mg a):bf P w K mg base CX0 2 a.nk a.Au [Zf,Zo,Zn,Zj,Zs] (spQ K Jf):=by
 refine T.uR.F.okQ cM (λ_ _ _ _ _ _ hr=>?_)
 ·have hu:=bh hr;refine(_,_,((ag (aA 3 cM.nd (aL (pH U) sv ap T.jZ bi (ae (qv 3) aw)))
 (ag (bb (g:=(Tg.nm 5)) PassesOwn.never U (fS U T.fe (ae (qv 4) aw)) (aY 5 cM.nd)
 (ag (aA 6 cM.nd (aJ (JE T) hr T.EM (ae (qv 1) (ae (qv 2) (ae (qv 3) aw)))))
 (ag (aT (bG sY me (bF _) (qv 6) (Zc cz))
 (aj (de (i:=3) (pv 3)))
 aF)
 (ag (lE (g:=(Tg.tp [7,8,9])) (ao (qv 1) (qv 6)) (iL (K:=K) (n:=3) U U (bB (aY 7 cM.nd) (bB (aY 8 cM.nd) (bB (aY 9 cM.nd) iK)))))
 (ag (dY (i:=10) cM.nd U (Or.inl U) U (eZ (Zc (bA (AA U U) Fd ap T.K8 bi (ae (qv 8) aw)))) (N':=[ZI,"_law_weights"]) (.own U (.got (i:=8) U U (.inl U) .nil)) (xF (g:=(Tg.nm 0)) (λ_ _ _ _ _=>((ck 0),(Il (cG (qv 1) (qv 0)) ah),(Zd (qv 0))))))
 (ag (aT (bH hu (qv 10) (Zc (aO ai)))
 (aj (aE cz))
 aF)
 (ag (aA 11 cM.nd (Zd (ao (qv 10) (Zc (aJ (fB (du T)) hr T.a5 (ae (qv 0) (ae (Zc (bW T.cK (ae (qv 10) aw))) aw)))))))
 (ag (aA 12 cM.nd (oP (Zc (fA (qv 2) (qv 9))) (Zc (bA (fT U U) kq ap T.wC bi (ae (Zc (bD U (Iq (qv 8)) (N':=["_law_one","_law_weights",Zj]) (.own U (.got (i:=8) U U (.inl U) (.got (i:=3) U U (.inl U) .nil))) (bx (g:=(Tg.nm 0)) (λ_ _ _ _ _=>((ck 0),(fA (cG (qv 1) (qv 0)) (ao (qv 2) (qv 0)))))))) aw)))))
 (ag (xA (i:=3) (pv 3) (qv 11) (Zc (aS (ao (qv 3) (qv 11)) (Zc (Dj (Zc (oP (Zc (aS (qv 12) (cG (qv 8) (qv 11)))) ah)) (cG (qv 8) (qv 11)))))))
 (aj (aT (Il (ao (qv 3) (qv 11)) (Zc (Qv ah ah)))
 (aj (aE cz))
 aF)))))))))))
 (aj (aE cz))))),λts Q h=>?_)
  let(ys,rs,parts,Za,turns,aV,A,U,hA,a0,p1,p2,R7,c0,cT,cH,ht,a3,hq):=h;have bj:Sm parts:=(al,al)
  refine(_,hA,jR aV,?_);refine(al,al,λc q=>Z9 λ(ns:List Int)(o5 o6 o7 o8 o9 aR aQ aP:Sl)=>q=[.r .cB,.r (.l ys),.r (.i parts),.o (.l (ns.map .i)),.r (.i turns),o5,o6,o7,o8,o9,aR,aQ,aP]/\ns.length=aV.length/\∀y∈ns,0<=y/\y<=Za,(aV,_,_,_,_,_,_,_,_,U,U,R7),?_,?_)
  ·rintro c y q hy ⟨ns,o5,o6,o7,o8,o9,aR,aQ,aP,rfl,hl,ar⟩
   have bp:∀y∈ns,Sm y:=λy hy=>by have:=ar y hy;exact(al,al)
   refine(_,U,ys,rs,parts,ns,U,by rw[hl];exact a0,bj,bp,?_)
   cases hF:d7 parts ns 0 rs with
   |none=>exact hq ns hl ar hF
   |some k =>
    let(j,r,ek,hr,cS):=Ae hF;rw[Es]at ek;subst ek;have cf:k<ys.length:=by rw[a0.ln];exact(g5.mp hr).1
    have hy:ys[k]?=Z ys[k]:=dN cf;have hR:=a0.ok k _ _ hy hr;rw[<- hl]at hR
    generalize ys[k]=y at hy hR
    have ay:atI ys (k:Int)=Z y:=bc hy;cases hR with
    |@mk _ o vs h1 cm h3 h4 h5 =>
     have ct:(L2.T.t [L2.T.t r.nm,L2.T.fd o vs (r.ws.map enI),L2.T.i r.sp]).im=true:=by
      show(L2.T.ims r.nm&&O)=O;rw[cm];rfl
     have UQ:(r.ws.map enI).map (·.1)=(r.ws.map (·.1)).map Sum.inl:=by rw[rS,rS];rfl
     refine(_,ay,ct,_,U,r.ws.map (·.1),(UQ,by rw[cO];lia),λzs Km _=>?_)
     refine(bE (by rw[cO,Km.length_eq,cO];lia),λc ys=>∃zs:List Int,ys=zs.map .i/\(∀z∈zs,∃p∈r.ws,p.1=z/\0<p.2)/\zs.length<=c,([],U,bY,ka _),?_,?_)
     ·rintro c y ys hy ⟨xs,rfl,av,ak⟩
      rw[fy]at hy;let(z,hz,U):=gs.mp hy;let(p,hp,ep):=j0.mp (Km.mem_iff.mp (gV hz));subst ep;refine(_,U,?_);simp only[kQ,qOp,aM,gw,L2.T.dof];refine(_,xZ h4 hp,aI (λg=>(U,xs++[p.1],by rw[j3];rfl,λz hz=>?_,by rw[i5];exact Nat.add_le_add_right ak 1)) λ_=>(xs,U,av,Nat.le_succ_of_le ak))
      obtain z' |z':=i6.mp hz
      ·exact av z z'
      ·rw[d2.mp z'];exact(p,hp,U,of_decide_eq_true g)
     ·rintro b0 ⟨xs,rfl,av,cg⟩
      rw[cO,Km.length_eq,cO]at cg;refine(by rw[Kx];rfl,aI (λ_=>a3) λg=>?_)
      have cP:0<xs.length:=by
       cases xs with
       |nil=>exact absurd U g
       |cons _ _=>exact Nat.succ_pos _
      have ak:((xs.map L2.T.i).length:Int)=xs.length:=by rw[cO]
      refine(by rw[ak];lia,by rw[ak];lia,λd d0 d1=>?_)
      rw[ak]at d1;let(z,hz,ez):=gR (xs:=xs) (f:=L2.T.i) d0 d1;let(p,hp,ep,UN):=av z hz;subst ep;let(V,e1,e2):=h1 p hp;have hw:=h5 p hp;have ea:atI (ns.map L2.T.i) p.1=Z (.i ns[V]):=by rw[e1];exact bc (by rw[fy,dN e2];rfl)
      have cL:=ar _ (SK e2);refine(_,ez,U,.inl bj,?_);refine(bE (by rw[cO,cO];lia),λj ys=>ys=((r.ws.take j).map λp=>p.2*ns.getD p.1.toNat 0).map .i,U,?_,?_)
      ·rintro j y ys hy rfl
       rw[rS,fy]at hy;let(p,hp,U):=gs.mp hy;have bM:=gV hp;let(V,e1,e2):=h1 p bM;have en:ns.getD p.1.toNat 0=ns[V]:=by rw[e1,Tn,Xn,dN e2];rfl
       have ea:atI (ns.map L2.T.i) p.1=Z (.i ns[V]):=by rw[e1];exact bc (by rw[fy,dN e2];rfl)
       refine(_,U,?_);simp only[qOp,aM,gw,L2.T.dof];refine(_,xZ h4 bM,_,ea,.inr (bp _ (SK e2)),?_);rw[pM,hp,j3,j3];show _=_++[L2.T.i (p.2*ns.getD p.1.toNat 0)];rw[en]
      ·rintro b0 rfl
       rw[cO,cO,mu];refine(_,L2.ins_map _,?_);have WK:0<parts*r.sp-yw ns r.ws:=al
       have rd:∀{Q':L2.T->Prop},Q' (.i p.2)->gw (.fd o vs (r.ws.map enI)) (.i p.1) Q':=λ{Q'} h=>by
        simp only[gw,L2.T.dof];exact(_,xZ h4 hp,h)
       have UP:0 <=(parts*r.sp-yw ns r.ws+p.2-1) / p.2:=Int.ediv_nonneg al al
       obtain⟨more,hm⟩:∃more,more=(parts*r.sp-yw ns r.ws+p.2-1) / p.2:=(_,U)
       rw[<- hm]at UP;have bN:atI ((ns.set V (ns[V]+more)).map L2.T.i) p.1=Z (.i (ns[V]+more)):=by rw[e1];exact bc (by rw[fy,SU e2];rfl)
       refine(_,ea,rd (rd ((UN,al),?_)))
       have cu:ixN (ns.map L2.T.i).length p.1=Z V:=by
        rw[cO,e1];unfold ixN;rw[if_pos (W7 V),if_pos al,Tn]
       refine(V,cu,jR ns,U,?_);have es:(ns.map L2.T.i).set V (L2.T.i (ns[V]+(parts*r.sp-yw ns r.ws+p.2-1) / p.2))=(ns.set V (ns[V]+more)).map L2.T.i:=by rw[<- hm];exact YS.symm
       rw[<- es]at bN;refine(_,bN,(ac,ac,ac),aI (λ_=>a3) λg=>?_)
       have g:ns[V]+more<=100000000000:=by
        have e:(10:Int) ^ (11:Int).toNat=100000000000:=ac
        have g:¬(10:Int) ^ (11:Int).toNat<ns[V]+more:=λz=>g (decide_eq_true z)
        rw[e]at g
        lia
       refine(ns.set V (ns[V]+more),_,_,_,_,_,_,_,_,by rw[<- es];rfl,by rw[WE,hl],λy hy=>?_)
       obtain z|z:=W9 hy
       ·exact ar y z
       ·rw[z];lia
  ·rintro q ⟨ns,o5,o6,o7,o8,o9,aR,aQ,aP,rfl,hl,ar⟩
   exact a3
inductive zr(ts:List L2.T)(Q:L2.T->Prop):Prop
 |mk(ys:List L2.T)(rs:List Row)(parts:Int)(turns:Nat)(ns:List Int)(h1:ts=[.cB,.l ys,.i parts,.zl (ns.map .i),.i (turns:Int)])(h3:Rws ns.length ys rs)(h4:1<=parts)(h5:parts<=12)(h6:∀y∈ns,0<=y/\y<=100000000000)(h8:0<ns.length)(h9:ns.length<=16000000)(h10:turns<=100)(h12:∀ns':List Int,ns'.length=ns.length->(∀y∈ns',0<=y/\y<=200000000000)->(d7 parts ns 0 rs=Y->d7 parts ns' 0 rs=Y)->Q (.zl (ns'.map .i)))
theorem mE:∀ns:List Int,L2.T.va (ns.map .i)=O
 |[]=>rfl
 |n::r=>by show(O&&L2.T.va (r.map .i))=O;rw[mE r];rfl
theorem FV(T:Txt K mg a):bf P w K mg base CX0 3 a.ni a.Ar [Zf,Zo,Zn,Zj,Zs] (spQ K zr):=by
 refine T.AZ.F.okQ fR (λ_ _ _ _ _ _ hr=>?_)
 ·have hu:=bh hr;refine(_,_,((ag (bb (g:=(Tg.nm 5)) PassesOwn.never U (fS U T.fe (ae (qv 4) aw)) (aY 5 fR.nd)
 (ag (aA 6 fR.nd (aL (pH U) sv ap T.jZ bi (ae (qv 3) aw)))
 (ag (aA 7 fR.nd (aJ (fB (du T)) hr T.a5 (ae (qv 0) (ae (Zc (bW T.cK (ae (qv 3) aw))) aw))))
 (ag (xA (i:=6) (pv 6) (qv 7) (Zc (aS (ao (qv 6) (qv 7)) (Zc (iI (aO (af br (af (Zd (qv 2)) (af (fA ah (qv 2)) (af br ai))))) (Zc (aJ (fB (du T)) hr T.a5 (ae (qv 0) (ae ah aw)))))))))
 (ag (aA 6 fR.nd (zi (aJ (vZ T) hr T.uR (ae (qv 0) (ae (qv 1) (ae (qv 2) (ae (qv 6) (ae ah aw))))))))
 (aj (aT (bG mL js (bF _) (qv 6) (Zc cz))
 (aj (aA 3 fR.nd (Zd (qv 6))))
 aF)))))))
 (aj (aE (Zd (qv 3)))))),λts Q h=>?_)
  let(ys,rs,parts,turns,ak,U,ay,p1,p2,R7,a3,aV,ht,hq):=h;refine(al,al,λc q=>Z5 λ(ns:List Int)(o3 o5 o6 o7:Sl)=>q=[.r .cB,.r (.l ys),.r (.i parts),o3,.r (.i turns),o5,o6,o7]/\(o3=.r (.zl (ns.map .i))\/o3=.o (.zl (ns.map .i)))/\ns.length=ak.length/\(∀y∈ns,0<=y/\y<=100000000000+100*c)/\(d7 parts ak 0 rs=Y->d7 parts ns 0 rs=Y),(ak,_,_,_,_,U,.inl U,U,λy hy=>by have:=R7 y hy;lia,id),?_,?_)
  ·rintro c y q hy ⟨ns,o3,o5,o6,o7,rfl,ho,hl,V,hF⟩
   let(U,hc):=jB hy;have ar:((ns.map L2.T.i).length:Int)=ns.length:=by rw[cO]
   obtain rfl|rfl:=ho
   all_goals
    refine(_,U,_,U,jR ns,?_);refine(by rw[ar];lia,by rw[ar];lia,λd d0 d1=>?_)
    rw[ar]at d1;obtain⟨j,rfl⟩:∃j:Nat,d=j:=(d.toNat,al)
    have hj:j<ns.length:=al
    have ea:atI (ns.map L2.T.i) (j:Int)=Z (.i ns[j]):=bc (by rw[fy,dN hj];rfl)
    refine(_,ea,U,.inl (ac,ac),ac,ac,λe e0 e1=>?_)
    let(v,hv,ev):=gR (xs:=[1,parts,5*parts,40]) (f:=L2.T.i) e0 e1;have hv:1<=v/\v<=60:=by
     simp only[kO,x2,or_false]at hv
     lia
    have a0:=V _ (SK hj);have aR:ixN (ns.map L2.T.i).length (j:Int)=Z j:=by
     rw[cO];unfold ixN;rw[if_pos (W7 j),if_pos al,Tn]
    have es:(ns.map L2.T.i).set j (L2.T.i (ns[j]+v))=(ns.set j (ns[j]+v)).map L2.T.i:=YS.symm;have av:(ns.set j (ns[j]+v)).length=ns.length:=WE ..;refine(_,ev,j,aR,jR ns,U,?_);refine(ys,rs,parts,100000000000+100*((c+1:Nat):Int),6,ns.set j (ns[j]+v),_,U,congrArg Z es,by rw[av,hl];exact ay,p1,p2,λy hy=>?_,al,al,al,al,?_,λns' aP Wf aQ=>?_)
    ·obtain z|z:=W9 hy
     ·have:=V y z;lia
     ·rw[z];lia
    ·exact(ns,_,_,_,_,U,by first|exact .inl rfl|exact .inr U,hl,λy hy=>by have:=V y hy;lia,hF)
    ·refine(mE ns',U,?_);exact(ns',_,_,_,_,U,.inr U,by rw[aP,av,hl],Wf,λ_=>aQ)
  ·rintro q ⟨ns,o3,o5,o6,o7,rfl,ho,hl,V,hF⟩
   have r:(Ft 0 ((turns:Int)).toNat).length=turns:=by rw[dX];lia
   rw[r]at V;obtain rfl|rfl:=ho
   all_goals exact(U,hq ns hl (λy hy=>by have:=V y hy;lia) hF)
inductive dQ(ks:List Kd)(hs:List Hd):Sc->L2.T->List (Option Str)->Prop
 |give{sc:Sc}{x:Str}:dQ ks hs sc (.t [.s "give",.s x]) [Y]
 |cT{sc:Sc}{w:Str}{c:Int}{b:L2.T}{os:List (Option Str)}:(w="pay" \/ w="get")->dQ ks hs sc b os->dQ ks hs sc (.t [.s w,.i c,b]) (Y::os)
 |name{sc:Sc}{x y k:Str}{b:L2.T}{os:List (Option Str)}:(y,k)∈sc->dQ ks hs (sc++[Prod.mk x k]) b os->dQ ks hs sc (.t [.s "name",.s x,.s y,b]) (Z k::os)
 |make{sc:Sc}{x:Str}{m:Mk1}{kd:Kd}{ns:List Str}{b:L2.T}{os:List (Option Str)}:kd∈ks->m∈kd.2->dQ ks hs (sc++[(x,kd.1)]) b os->dQ ks hs sc (.t [.s "make",.s x,.s m.1,.t (ns.map .s),b]) (Z kd.1::os)
 |call{sc:Sc}{x:Str}{h:Hd}{ns:List Str}{b:L2.T}{os:List (Option Str)}:h∈hs->dQ ks hs (sc++[(x,h.2.2)]) b os->dQ ks hs sc (.t [.s "call",.s x,.s h.1,.t (ns.map .s),b]) (Y::os)
 |case{sc:Sc}{x:Str}{kd:Kd}(arms:List Arm)(oss:List (List (Option Str))):(x,kd.1)∈sc->kd∈ks->arms.map (·.1)=kd.2.map (·.1)->oss.length=arms.length ->
   (∀(j:Nat)(a:Arm)(m:Mk1)(os:List (Option Str)),arms[j]?=Z a->kd.2[j]?=Z m->oss[j]?=Z os->dQ ks hs (sc++a.2.1.zip m.2) a.2.2.1 os)->dQ ks hs sc (.t [.s "case",.s x,.t (arms.map tA)]) (Z kd.1::oss.flatten)
theorem zu{P:Nat->List (Option Str)->Prop}:∀n,(∀j,j<n->∃os,P j os)->∃oss:List (List (Option Str)),oss.length=n/\∀(j:Nat)(os:List (Option Str)),oss[j]?=Z os->P j os
 | 0,_=>([],U,λj os h=>by simp at h)
 |n+1,h=>by
  let(oss,hl,ho):=zu n λj z=>h j al
  let(os,h1):=h n al
  refine(oss++[os],by rw[i5,hl];rfl,λj q g=>?_)
  by_cases z:j<oss.length
  ·rw[ui z]at g;exact ho j q g
  ·rw[uD al]at g
   have:j=oss.length:=by
    have:=(g5.mp g).1
    simp at this
    lia
   subst this;rw[XW]at g;cases g;rw[hl];exact h1
theorem dQ.kids{d:Nod}(gk:bw ks)(hn:(hs.map (·.1)).Nodup)(nd:(d.sc.map (·.1)).Nodup)(h:dQ ks hs d.sc d.b os)(hK:OY ks hs n d cs):∃(o:Option Str)(oss:List (List (Option Str))),os=o::oss.flatten/\Ask ks d.sc d.b o/\oss.length=cs.length/\∀(j:Nat)(c:Nod)(g:List (Option Str)),cs[j]?=Z c->oss[j]?=Z g->dQ ks hs c.sc c.b g:=by
 have len:=congrArg Ez hK.su;rw[cO]at len;have one:∀{g:List (Option Str)},cs.length=1->(∀c,cs[0]?=Z c->dQ ks hs c.sc c.b g)->([g]:List (List (Option Str))).length=cs.length/\∀(j:Nat)(c:Nod)(ak:List (Option Str)),cs[j]?=Z c->([g]:List (List (Option Str)))[j]?=Z ak->dQ ks hs c.sc c.b ak:=λ{g} h1 h2=>(h1.symm,λj c ak e1 e2=>by
  cases j with
  |zero=>cases e2;exact h2 c e1
  |succ j=>simp at e2)
 have kid:=hK.ok
 generalize d.b=b at h kid len ⊢
 cases h with
 |give=>exact(Y,[],U,.give,len.symm,λj c g _ h=>by simp at h)
 |@cT _ w c b os hw hb =>
  refine(Y,[os],ad,.cT hw,one len λe he=>?_)
  let(_,hk):=kid 0 e he;let(eb,V,Q,P,K):=e;dsimp only at hk ⊢
  generalize q:L2.T.t [.s w,.i c,b]=t at hk
  cases hk <;> first|exact absurd (congrArg tgT q) (Nat.ne_of_beq_eq_false rfl)|simp at q
  let(_,_,U):=q;exact hb
 |@name _ x y k b os hy hb =>
  refine(Z k,[os],ad,.name hy,one len λe he=>?_)
  let(_,hk):=kid 0 e he;let(eb,V,Q,P,K):=e;dsimp only at hk ⊢
  generalize q:L2.T.t [.s "name",.s x,.s y,b]=t at hk
  cases hk <;> first|exact absurd (congrArg tgT q) (Nat.ne_of_beq_eq_false rfl)|simp at q
  rename_i av _ _;let(U,U,U):=q;obtain rfl:=dU nd hy av;exact hb
 |@make _ x m kd ns b os z hm hb =>
  refine(Z kd.1,[os],ad,.make z hm,one len λe he=>?_)
  let(_,hk):=kid 0 e he;let(eb,V,Q,P,K):=e;dsimp only at hk ⊢
  generalize q:L2.T.t [.s "make",.s x,.s m.1,.t (ns.map .s),b]=t at hk
  cases hk <;> first|exact absurd (congrArg tgT q) (Nat.ne_of_beq_eq_false rfl)|simp[Fi,Fj]at q
  rename_i pC aP _ _;let(U,e1,e2,U):=q;obtain rfl:=tO gk z pC hm aP e1;exact hb
 |@call _ x h ns b os hh hb =>
  refine(Y,[os],ad,.call,one len λe he=>?_)
  let(_,hk):=kid 0 e he;let(eb,V,Q,P,K):=e;dsimp only at hk ⊢
  generalize q:L2.T.t [.s "call",.s x,.s h.1,.t (ns.map .s),b]=t at hk
  cases hk <;> first|exact absurd (congrArg tgT q) (Nat.ne_of_beq_eq_false rfl)|simp[Fi,Fj]at q
  rename_i aQ _ _;let(U,e1,e2,U):=q;obtain rfl:=Ks hn hh aQ e1;exact hb
 |@case _ x kd arms oss hx z a0 hl ho =>
  have len:cs.length=arms.length:=by rw[len];show((arms.map tA).map _).length=_;rw[cO,cO]
  refine(Z kd.1,oss,U,.case hx,by rw[hl,len],λj e g he h'=>?_)
  let(_,hk):=kid j e he;let(eb,V,Q,P,K):=e;dsimp only at hk ⊢
  generalize q:L2.T.t [.s "case",.s x,.t (arms.map tA)]=t at hk
  cases hk <;> first|exact absurd (congrArg tgT q) (Nat.ne_of_beq_eq_false rfl)|simp at q
  rename_i x' aV cL ar mm ay pC Wg a3 hN ha hm _;let(U,e1):=q;obtain rfl:=Pz gk z pC (dU nd hx ay);have e2:=congrArg (·[j]?) e1;simp only[fy,ha]at e2;let(aR,h0,e3):=gs.mp e2;let(_,q2,q3):=Hl e3
  have:=ho j aR mm g h0 hm h'
  rw[q2,q3]at this;exact this
theorem Lb(gk:bw ks)(hn:(hs.map (·.1)).Nodup):∀(k:Nat){n:Nat}{ds M:List Nod}{oss:List (List (Option Str))},M.length=k->cw ks hs n ds M->oss.length=ds.length->(∀d∈ds,(d.sc.map (·.1)).Nodup)->(∀(j:Nat)(d:Nod)(os:List (Option Str)),ds[j]?=Z d->oss[j]?=Z os->dQ ks hs d.sc d.b os)->nZ ks M oss.flatten:=by
 intro k
 induction k with
 |zero =>
  intro n ds M oss hl h ho _ _;rw[uC.mp hl]at h ⊢;cases ds with
  |nil =>
   rw[uC.mp ho];exact(U,λn e o h=>by simp at h)
  |cons d ds =>
   let(_,_,_,e,_):=h.pop;cases e
 |succ k ih =>
  intro n ds M oss hl h ho K hA;cases ds with
  |nil=>cases h;simp at hl
  |cons d0 ds =>
   cases oss with
   |nil=>simp at ho
   |cons P oss =>
    let(cs,L',V,U,h2):=h.pop;have nd0:=K d0 j2;let(o,VH,U,a1,a2,a3):=dQ.kids gk hn nd0 (hA 0 d0 P U U) V
    have:=ih (oss:=VH++oss) (hl:) h2 (by rw[i5,i5,a2];simp at ho;lia) (λd hd=>by
     obtain z|z:=i6.mp hd
     ·let(j,Q,e):=qp z;exact((V.ok j d (by rw[dN Q,e])).2).nd nd0
     ·exact K d (j1 _ z)) λj d os q g=>by
     by_cases Q:j<cs.length
     ·rw[ui Q]at q;rw[ui al]at g
      exact a3 j d os q g
     ·rw[uD al]at q g
      rw[a2]at g;exact hA (j-cs.length+1) d os (q:) (g:)
    rw[List.flatten_append]at this;refine(by rw[YU,i5,pq,pq,<- this.ln,i5];lia,λi e o' q g=>?_)
    cases i with
    |zero=>cases q;cases g;exact a1
    |succ i=>exact this.ok i e o' (q:) (g:)
theorem La(gk:bw ks)(hn:(hs.map (·.1)).Nodup){d:Nod}(h:Pre ks hs n d L)(nd:(d.sc.map (·.1)).Nodup)(z:dQ ks hs d.sc d.b os):nZ ks L os:=by
 have h2:=by have:=cw.cons h (.nil);rwa [qg]at this
 have:=Lb gk hn L.length (oss:=[os]) U h2 U (λP hd=>by rw[d2.mp hd];exact nd) λj P q g K=>by
  cases j with
  |zero=>cases g;cases K;exact z
  |succ j=>simp at g
 rwa [YU,List.flatten_nil,qg]at this
theorem gK(h:Dep M (.t ts)):∃g,M=g+1/\∀x∈ts,Dep g x:=by
 cases M with
 |zero=>obtain⟨x,h⟩|⟨x,h⟩:=h <;> cases h
 |succ M =>
  obtain⟨x,h⟩|⟨x,h⟩|⟨us,h,q⟩:=h
  ·cases h
  ·cases h
  ·cases h;exact(M,U,q)
inductive VG(N:Nat)(ts:List L2.T)(Q:L2.T->Prop):Prop
 |mk(ks:List Kd)(hs:List Hd)(r:Str)(n:Nat)(sc:Sc)(b:L2.T)(h1:ts=[b])(h2:bw ks)(h3:Snd ks hs r n sc b)(h4:Dep N b)(h5:∀b',Snd ks hs r n sc b'->(∀M,Dep M b->Dep M b')->(∃os,dQ ks hs sc b os/\dQ ks hs sc b' os)->Q b')
theorem nu{w q:Str}(h:∀M,Dep M b->Dep M b')(hd:Dep M (.t (.s w ::(mid++[b])))):Dep M (.t (.s q ::(mid++[b']))):=by
 let(K,U,hx):=gK hd;refine Dep.t (cF Dep.s λx g=>?_)
 obtain z|z:=i6.mp g
 ·exact hx x (by simp[z])
 ·rw[d2.mp z];exact h _ (hx b ad)
theorem qD(T:Txt K mg a)(N:Nat):bf P w K mg base CX0 (N+2) a.d9 a.jW [ZK] (spQ K (VG N)):=by
 induction N with
 |zero =>
  refine never λts Q hz=>?_
  let(ks,hs,r,n,sc,b,_,_,hS,hD,_):=hz;cases hS <;>(obtain⟨x,h⟩|⟨x,h⟩:=hD <;> cases h)
 |succ N eD =>
  refine T.eI.F.okQ fq (λ_ _ _ _ _ _ hr=>?_)
  ·have hu:=bh hr;refine(_,_,((ag (aT (bH hu (ao (qv 0) ah) (Zc aH))
 (aj (aE (Zd (qv 0))))
 aF)
 (ag (aT (bH hu (ao (qv 0) ah) (Zc aH))
 (ag (dY (i:=1) fq.nd U (Or.inl U) U (dZ (ao (qv 0) ah)) (N':=["_law_arm"]) (.own U .nil) (bx (g:=(Tg.nm 0)) (λ_ _ _ _ _=>((ck 0),(aq (af (Zd (ao (qv 0) ah)) (af (Zd (ao (qv 0) ah)) (af (aJ eD hr T.eI (ae (ao (qv 0) ah) aw)) ai))))))))
 (aj (aE (aq (af aH (af (Zd (ao (qv 0) ah)) (af (aL (bK U) bS ap T.cH bi (ae (qv 1) aw)) ai)))))))
 aF)
 (ag (aA 2 fq.nd (iI (aO (af (Zd (ao (qv 0) ah)) (af aH ai))) (Zc (aL kD qV ap T.AB bi (ae (Zc (jE (xR hu U) qW (bF _) (ao (qv 0) ah) (Zc aH))) aw)))))
 (aj (aE (aS (Zc (aS (Zc (aq (af (Zd (qv 2)) ai))) (Zc (fh (qv 0) (fI ah) (fI (Zc (jD ah))))))) (Zc (aq (af (aJ eD hr T.eI (ae (ao (qv 0) (Zc (jD ah))) aw)) ai)))))))))),λts Q h=>?_)
   let(ks,hs,r,n,sc,b,U,gk,hS,hD,hq):=h;have aP:=hS.im;obtain⟨_,e0,aV⟩:∃M',N+1=M'+1/\∀(ts:List L2.T),b=.t ts->∀x∈ts,Dep M' x:=by
    refine(N,U,λts e x hx=>?_)
    subst e;let(M',e,h):=gK hD;cases e;exact h x hx
   cases e0;have one:∀{b':L2.T},b'.im=O->L2.T.ims [b']=true:=λ{b'} h=>by show(b'.im&&O)=O;rw[h];rfl
   cases hS with
   |give hx =>
    exact(_,U,U,aI (λ_=>(aP,hq _ (.give hx) (λ_ h=>h) (_,.give,.give))) λz=>absurd be z)
   |@cT n sc w c b hw hb =>
    have n1:¬ decide ((L2.T.s w).v=(L2.T.s "give").v)=true:=by obtain rfl|rfl:=hw <;> decide +kernel
    have n2:¬ decide ((L2.T.s w).v=(L2.T.s "case").v)=true:=by obtain rfl|rfl:=hw <;> decide +kernel
    refine(_,U,U,aI (λz=>absurd z n1) λ_=>(_,U,U,aI (λz=>absurd z n2) λ_=>?_))
    have ew:atI [L2.T.s w,.s "get"] (if decide ((L2.T.s w).v=(L2.T.s "pay").v)=O then 1 else 0)=Z (.s "get"):=by
     obtain rfl|rfl:=hw
     ·rw[if_pos be];rfl
     ·rw[if_neg be];rfl
    refine(_,U,U,_,U,U,_,ew,U,aP,(by show 2<=kf;decide),U,U,_,U,ks,hs,r,_,_,b,U,gk,hb,aV _ U b ad,λb' h1 h2 av=>?_)
    let(os,a1,a2):=av;exact((by show 3<=kf;decide),U,one h1.im,hq _ (.cT (.inr U) h1) (λM h=>nu (mid:=[.i c]) h2 h) (_,.cT hw a1,.cT (.inr U) a2))
   |@name n sc x y k b hy hx hb =>
    refine(_,U,U,aa ((_,U,U,aa ?_)))
    have ew:atI [L2.T.s "name",.s "get"] (if decide ((L2.T.s "name").v=(L2.T.s "pay").v)=O then 1 else 0)=Z (.s "name"):=by rw[if_neg be];rfl
    refine(_,U,U,_,U,U,_,ew,U,aP,(by show 3<=kf;decide),U,U,_,U,ks,hs,r,_,_,b,U,gk,hb,aV _ U b ad,λb' h1 h2 av=>?_)
    let(os,a1,a2):=av;exact((by show 4<=kf;decide),U,one h1.im,hq _ (.name hy hx h1) (λM h=>nu (mid:=[.s x,.s y]) h2 h) (_,.name hy a1,.name hy a2))
   |@make n sc x m kd ns b ak hm hF hx hb =>
    refine(_,U,U,aa ((_,U,U,aa ?_)))
    have ew:atI [L2.T.s "make",.s "get"] (if decide ((L2.T.s "make").v=(L2.T.s "pay").v)=O then 1 else 0)=Z (.s "make"):=by rw[if_neg be];rfl
    have ay:L2.T.ims [.s x,.s m.1,.t (ns.map .s)]=true:=by show(L2.T.ims (ns.map .s)&&O)=O;rw[aX];rfl
    refine(_,U,U,_,U,U,_,ew,U,aP,(by show 4<=kf;decide),U,ay,_,U,ks,hs,r,_,_,b,U,gk,hb,aV _ U b ad,λb' h1 h2 av=>?_)
    let(os,a1,a2):=av;exact((by show 5<=kf;decide),ay,one h1.im,hq _ (.make ak hm hF hx h1) (λM h=>nu (mid:=[.s x,.s m.1,.t (ns.map .s)]) h2 h) (_,.make ak hm a1,.make ak hm a2))
   |@call n sc x hd ns b hh hF hx hb =>
    refine(_,U,U,aa ((_,U,U,aa ?_)))
    have ew:atI [L2.T.s "call",.s "get"] (if decide ((L2.T.s "call").v=(L2.T.s "pay").v)=O then 1 else 0)=Z (.s "call"):=by rw[if_neg be];rfl
    have ay:L2.T.ims [.s x,.s hd.1,.t (ns.map .s)]=true:=by show(L2.T.ims (ns.map .s)&&O)=O;rw[aX];rfl
    refine(_,U,U,_,U,U,_,ew,U,aP,(by show 4<=kf;decide),U,ay,_,U,ks,hs,r,_,_,b,U,gk,hb,aV _ U b ad,λb' h1 h2 av=>?_)
    let(os,a1,a2):=av;exact((by show 5<=kf;decide),ay,one h1.im,hq _ (.call hh hF hx h1) (λM h=>nu (mid:=[.s x,.s hd.1,.t (ns.map .s)]) h2 h) (_,.call hh a1,.call hh a2))
   |@case sc x kd arms hx ak aQ h1 h2 =>
    have la:arms.length=kd.2.length:=by have:=congrArg Ez aQ;rwa [cO,cO]at this
    have l6:arms.length<=6:=by have:=(gk.ne kd ak).2;lia
    refine(_,U,U,aa ((_,U,U,aI (λ_=>?_) λz=>absurd be z)))
    refine(_,U,aC (by rw[cO];lia),λi ys=>∃cL:List Arm,ys=cL.map tA/\cL.length=i/\∀(j:Nat)(ar q:Arm),arms[j]?=Z ar->cL[j]?=Z q->q.1=ar.1/\q.2.1=ar.2.1/\q.2.2.2=ar.2.2.2/\(∀m,kd.2[j]?=Z m->Snd ks hs r ar.2.2.2 (sc++ar.2.1.zip m.2) q.2.2.1)/\(∀M,Dep M ar.2.2.1->Dep M q.2.2.1)/\∀m,kd.2[j]?=Z m->∃os,dQ ks hs (sc++ar.2.1.zip m.2) ar.2.2.1 os/\dQ ks hs (sc++ar.2.1.zip m.2) q.2.2.1 os,([],U,U,λj _ _ _ h=>by simp at h),?_,?_)
    ·rintro i y ys hy ⟨cL,rfl,hl,hA⟩
     rw[fy]at hy;let(ar,aR,U):=gs.mp hy;have bj:=(g5.mp aR).1;have hm:kd.2[i]?=Z (kd.2[i]' al):=dN _
     have hS:=h2 i ar _ aR hm;have hd:Dep N ar.2.2.1:=by
      let(M1,V,g1):=gK hD;cases V;let(M2,U,g2):=gK (g1 (.t (arms.map tA)) ad)
      let(M3,U,g3):=gK (g2 (tA ar) (j0.mpr (ar,gV aR,U)));exact(g3 ar.2.2.1 ad).mono al
     refine(_,U,_,U,U,_,U,aX _,_,U,ks,hs,r,_,_,_,U,gk,hS,hd,λb' g1 g2 g3=>?_)
     refine(cL++[(ar.1,ar.2.1,b',ar.2.2.2)],by rw[j3];rfl,by rw[i5,hl];rfl,λj a1 a2 V e2=>?_)
     by_cases hj:j<cL.length
     ·rw[ui hj]at e2;exact hA j a1 a2 V e2
     ·rw[uD al]at e2
      have:j=cL.length:=by
       have:=(g5.mp e2).1
       simp at this
       lia
      subst this;rw[XW]at e2;cases e2;rw[hl,aR]at V;cases V;refine(U,U,U,λm e=>?_,g2,λm e=>?_)
      ·rw[hl,hm]at e;cases e;exact g1
      ·rw[hl,hm]at e;cases e;exact g3
    ·rintro ys ⟨cL,rfl,hl,hA⟩
     rw[cO]at hl;have a0:cL.map (·.1)=arms.map (·.1):=Xg (by simp[hl]) λj g1 g2=>by
      rw[cO]at g1 g2;rw[Xh,Xh];exact(hA j _ _ (dN g2) (dN g1)).1
     have a5:cL.map (·.2.2.2)=arms.map (·.2.2.2):=Xg (by simp[hl]) λj g1 g2=>by
      rw[cO]at g1 g2;rw[Xh,Xh];exact(hA j _ _ (dN g2) (dN g1)).2.2.1
     have old:∀{j:Nat}{a':Arm},cL[j]?=Z a'->∃ar,arms[j]?=Z ar:=λ{j a'} h=>(_,dN (by have:=(g5.mp h).1;lia))
     have nS:Snd ks hs r (1+(arms.map (·.2.2.2)).sum) sc (.t [.s "case",.s x,.t (cL.map tA)]):=by
      rw[<- a5];refine .case cL hx ak (a0.trans aQ) (λj a' m V e2=>?_) λj a' m V e2=>?_
      ·let(ar,e0):=old V;rw[(hA j ar a' e0 V).2.1];exact h1 j ar m e0 e2
      ·let(ar,e0):=old V;let(_,z2,z3,z4,_,_):=hA j ar a' e0 V;rw[z2,z3];exact z4 m e2
     have Wj:L2.T.ims (cL.map tA)=true:=by
      have h:(O&&(O&&(L2.T.ims (cL.map tA)&&O)))=true:=nS.im;simpa using h
     let(oss,ol,ho):=zu (P:=λj os=>∀(ar q:Arm)(m:Mk1),arms[j]?=Z ar->cL[j]?=Z q->kd.2[j]?=Z m->dQ ks hs (sc++ar.2.1.zip m.2) ar.2.2.1 os/\dQ ks hs (sc++ar.2.1.zip m.2) q.2.2.1 os) arms.length λj hj=>by
      have e0:arms[j]?=Z arms[j]:=dN hj;have V:cL[j]?=Z (cL[j]' al):=dN _
      have e2:kd.2[j]?=Z (kd.2[j]' al):=dN _
      let(os,p1,p2):=(hA j _ _ e0 V).2.2.2.2.2 _ e2;refine(os,λar q m q0 q1 q2=>?_)
      rw[e0]at q0;rw[V]at q1;rw[e2]at q2;cases q0;cases q1;cases q2;exact(p1,p2)
     refine(_,U,U,Wj,hq _ nS (λM hM=>?_) (_,.case arms oss hx ak aQ ol λj ar m os V e2 e3=>?_,.case cL oss hx ak (a0.trans aQ) al λj q m os V e2 e3=>?_))
     rotate_left
     ·exact(ho j os e3 ar (cL[j]'(by have:=(g5.mp V).1;lia)) m V (dN _) e2).1
     ·let(ar,e0):=old V
      have:=(ho j os e3 ar q m e0 V e2).2
      rw[(hA j ar q e0 V).2.1];exact this
     let(M1,U,g1):=gK hM;let(M2,U,g2):=gK (g1 (.t (arms.map tA)) ad)
     refine Dep.t (cF Dep.s (cF Dep.s (cF (Dep.t λt ht=>?_) gL)))
     let(a',a3,U):=j0.mp ht;let(j,hj,V):=qp a3;have V:cL[j]?=Z a':=by rw[dN hj,V]
     let(ar,e0):=old V;let(z1,z2,z3,z4,z5,_):=hA j ar a' e0 V;let(M3,U,g3):=gK (g2 (tA ar) (j0.mpr (ar,gV e0,U)));refine Dep.t (cF Dep.s (cF ?_ (cF (z5 _ (g3 ar.2.2.1 ad)) gL)))
     rw[z2];exact g3 _ ad
inductive DA(ts:List L2.T)(Q:L2.T->Prop):Prop
 |mk(ks:List Kd)(h1:ts=[tKs ks])(h2:ig ks)(h3:∀ds,jo ks ds->Q (dT ds))
theorem zL(T:Txt K mg a):bf P w K mg base CX0 1 a.rM a.El [Zq] (spQ K DA):=by
 refine T.yN.F.okQ fg (λ_ _ _ _ _ _ hr=>?_)
 ·have hu:=bh hr;refine(_,_,((ag (aA 1 fg.nd rj)
 (ag (bb (g:=(Tg.nm 2)) PassesOwn.never U (eR (Zd (qv 0))) (aY 2 fg.nd)
 (aj (bb (g:=(Tg.tp [3,4])) PassesOwn.never U (eR (Zd (qv 0))) (cJ (aY 3 fg.nd) (aY 4 fg.nd))
 (aj (bb (g:=(Tg.tp [5,6])) PassesOwn.never U (eR (Zd (qv 4))) (cJ (aY 5 fg.nd) (aY 6 fg.nd))
 (aj (aT (fX (Zc (bA (kE U U) qX ap T.Ew bi (ae (Zc (bD U (dZ (qv 6)) (N':=[ZB,Zu]) (.own U (.got (i:=1) U U (.inl U) .nil)) (bx (g:=(Tg.nm 0)) (λ_ _ _ _ _=>((ck 0),(jE (xS hu) C8 U (qv 0) (qv 1))))))) aw))))
 (ag (aA 7 fg.nd (aS ah (Zc (bA (fT U U) kq ap T.wC bi (ae (Zc (bD U (dZ (qv 6)) (N':=[ZB,Zu]) (.own U (.got (i:=1) U U (.inl U) .nil)) (bx (g:=(Tg.nm 0)) (λ_ _ _ _ _=>((ck 0),(Zd (xD (qv 1) (qv 0)))))))) aw)))))
 (aj (jC (i:=1) hu (pv 1) (qv 3) (Zc (bA (Gz U) oC ap T.Vd bi (ae (MQ hu (qv 1) (qv 3) (qv 7)) (ae (qv 7) aw)))))))
 aF)))))))
 (aj (de (i:=1) (pv 1)))))),λts Q h=>?_)
  let(ks,U,gk,hq):=h
  have:=gk.k1
  have:=gk.k2
  refine(iR ks,λi q=>(Z7 λds o2 o3 o4 o5 V z=>q=[.r (tKs ks),.o (dT ds),o2,o3,o4,o5,V,z]/\jo ks ds),([],_,_,_,_,_,_,U,jo.nil ks),?_,?_)
  ·rintro i x q hx ⟨ds,o2,o3,o4,o5,V,z,rfl,hI⟩
   refine(_,U,?_);refine(iR ks,λj q=>(Z7 λds o2 o3 o4 o5 V z=>q=[.r (tKs ks),.o (dT ds),o2,o3,o4,o5,V,z]/\jo ks ds),(ds,_,_,_,_,_,_,U,hI),?_,?_)
   ·rintro j x q hx ⟨ds,o2,o3,o4,o5,V,z,rfl,hI⟩
    rw[fy]at hx;let(kd,hk,U):=gs.mp hx;refine(_,U,?_);refine(lL _,λl q=>(Z5 λds o2 o5 V z=>q=[.r (tKs ks),.o (dT ds),o2,.r (.s kd.1),.r (tMs kd.2),o5,V,z]/\jo ks ds),(ds,_,_,_,_,U,hI),?_,?_)
    ·rintro l x q hx ⟨ds,o2,o5,V,z,rfl,hI⟩
     rw[fy]at hx;let(m,hm,U):=gs.mp hx;refine(_,U,?_);have f4:=gk.fl kd (gV hk) m (gV hm);refine(aC (by rw[cO];omega),λi ys=>ys=(m.2.take i).map λf=>.b (lk ds f).isSome,U,?_,?_)
     ·rintro i x ys hx rfl
      rw[fy]at hx;let(f,hf,U):=gs.mp hx;refine(_,U,?_);show _++[L2.T.b (bC (ds.map dEn) (.inr f)).isSome]=_;rw[d5,<- take_one hf,j3,TH];rfl
     ·rintro ys rfl
      rw[cO,mu];refine(_,nI _ _,?_);refine aI (λg1=>?_) (λg1=>?_)
      ·have g1:∀f∈m.2,(lk ds f).isSome=true:=(g1:)
       refine(aC (by rw[cO];omega),λi ys=>ys=(m.2.take i).map λf=>.i ((lk ds f).getD 0),U,?_,?_)
       ·rintro i x ys hx rfl
        rw[fy]at hx;let(f,hf,U):=gs.mp hx;let(u,ak):=Ll.mp (g1 f (gV hf));refine(_,U,.i u,by rw[d5,ak];rfl,U,?_)
        show _++[L2.T.i u]=_;rw[<- take_one hf,j3,X1,ak];rfl
       ·rintro ys rfl
        rw[cO,mu];refine(_,ins_map _ _,?_);have lI:=hI.len gk;refine Qo ?_;dsimp only[dP.seq];refine Fy (ds:=ds) (k:=kd.1) (n:=1+cA ds m.2) (v:=min ((lk ds kd.1).getD (1+cA ds m.2)) (1+cA ds m.2)) U U U (aC al) ?_ ?_
        ·exact Rz _ _
        refine(_,_,_,_,_,U,hI.put (j0.mpr (kd,gV hk,U)) (by rw[tD gk.nd hk];exact gV hm) f4.1 g1 U)
      ·exact(ds,_,_,_,_,U,hI)
    ·rintro q ⟨ds,o2,o5,V,z,rfl,hI⟩
     exact(ds,_,_,_,_,_,_,U,hI)
   ·rintro q ⟨ds,o2,o3,o4,o5,V,z,rfl,hI⟩
    exact(ds,_,_,_,_,_,_,U,hI)
  ·rintro q ⟨ds,o2,o3,o4,o5,V,z,rfl,hI⟩
   exact hq ds hI
theorem L3{lf own:Int}(h:own=lf\/(0<=own/\own <=(if lf > 1 then lf else 1))):tri own.toNat+tri (lf-own).toNat<=tri lf.toNat:=by
 obtain rfl |⟨h0,h1⟩:=h
 ·rw[Int.sub_self];exact ka _
 ·by_cases z:lf ≥ 1
  ·have h1:own<=lf:=by split at h1 <;> omega
   have:=wR own.toNat (lf-own).toNat
   rwa [show own.toNat+(lf-own).toNat=lf.toNat by omega]at this
  ·have h1:own<=1:=by rw[if_neg al]at h1;exact h1
   have g:tri own.toNat=0:=by obtain e|e:=(by omega:own.toNat=0\/own.toNat=1) <;> rw[e] <;> rfl
   rw[g,show(lf-own).toNat=0 by omega]
   exact v5 _
theorem se{a b:Nat}(h:a<=b):tri a<=tri b:=by
 have:=wR a (b-a)
 rw[show a+(b-a)=b by omega]at this
 omega
def mkT(ds:Ds)(m:Mk1):L2.T:=.t [.i (1+cA ds m.2),.s m.1,.t (m.2.map .s)]
def okM(ds:Ds)(m:Mk1):Bool:=(m.2.map λf=>(lk ds f).isSome).all id
inductive Pp(n:Nat)(ts:List L2.T)(Q:L2.T->Prop):Prop
 |mk(ks:List Kd)(ds:Ds)(k:Str)(room v:Int)(h1:ts=[.cB,tKs ks,dT ds,.s k,.i room])(h2:ig ks)(h3:jo ks ds)(h4:lk ds k=Z v)(h5:room<=n)(h6:v<=n)(h7:n<=100)(h8:∀u:Vl,(∀m∈u.ms,m∈cy ks k ks)->(u.ms.length:Int)<=v+tri room.toNat->Q u.t)
theorem zI(T:Txt K mg a)(n:Nat):bf P w K mg base CX0 (n+2) a.rJ a.Ei [Zf,Zq,Zw,Zm,Zh] (spQ K (Pp n)):=by
 induction n with
 |zero =>
  refine never λts Q hz=>?_
  let(ks,ds,k,room,v,_,_,hI,hv,h1,h2,_):=hz
  have:=(hI.bd _ (gS hv)).1
  simp only at this
  omega
 |succ n nO =>
  refine T.rT.F.okQ cp (λ_ _ _ _ _ _ hr=>?_)
  ·have hu:=bh hr;refine(_,_,((ag (aA 5 cp.nd (aO ai))
 (ag (bb (g:=(Tg.tp [6,7])) PassesOwn.never U (eR (Zd (xD (Zc (aL (cv U) cY ap T.eB bi (ae (qv 1) aw))) (qv 3)))) (cJ (aY 6 cp.nd) (aY 7 cp.nd))
 (aj (aT (fX (Zc (bA (kE U U) qX ap T.Ew bi (ae (Zc (bD U (dZ (qv 7)) (N':=[ZB,Zw]) (.own U (.got (i:=2) U U (.inl U) .nil)) (bx (g:=(Tg.nm 0)) (λ_ _ _ _ _=>((ck 0),(jE (xS hu) C8 U (qv 0) (qv 1))))))) aw))))
 (aj (bo (i:=5) (pv 5) (aq (af (aS ah (Zc (bA (fT U U) kq ap T.wC bi (ae (Zc (bD U (dZ (qv 7)) (N':=[ZB,Zw]) (.own U (.got (i:=2) U U (.inl U) .nil)) (bx (g:=(Tg.nm 0)) (λ_ _ _ _ _=>((ck 0),(Zd (xD (qv 1) (qv 0)))))))) aw)))) (af (Zd (qv 6)) (af (Zd (qv 7)) ai))))))
 aF)))
 (ag (dY (i:=5) cp.nd U (Or.inl U) U (eZ (qv 5)) (N':=["_law_one",Zh,Zw,Zm]) (.own U (.got (i:=4) U U (.inl U) (.got (i:=2) U U (.inl U) (.got (i:=3) U U (.inl U) .nil)))) (xF (g:=(Tg.nm 0)) (λ_ _ _ _ _=>((ck 0),(TR (ao (qv 0) ah) (Zc (bA (fU U) oC ap T.wD bi (ae (qv 1) (ae (xD (qv 2) (qv 3)) aw))))),(Zd (qv 0))))))
 (ag (lE (g:=(Tg.tp [8,6,7])) (ao (qv 5) (Zc (aJ (fB (du T)) hr T.a5 (ae (qv 0) (ae (Zc (bW T.cK (ae (qv 5) aw))) aw))))) (iL (K:=K) (n:=3) U U (bB (aY 8 cp.nd) (bB (aY 6 cp.nd) (bB (aY 7 cp.nd) iK)))))
 (ag (aA 9 cp.nd (oP (qv 4) ah))
 (ag (aA 10 cp.nd (aO ai))
 (ag (bb (g:=(Tg.tp [11,12])) PassesOwn.never U (ku U T.bp bi (ae (qv 7) aw)) (cJ (aY 11 cp.nd) (aY 12 cp.nd))
 (ag (aA 13 cp.nd (iI (aO (af (Zd (qv 9)) (af (aJ (fB (du T)) hr T.a5 (ae (qv 0) (ae (Zc (aS (Zc (bA (fU U) oC ap T.wD bi (ae ah (ae (qv 9) aw)))) ah)) aw))) ai))) (Zc (aL kD qV ap T.AB bi (ae (Zc (jE Pt (oE (g':=λi j=>.b (decide (i<j))) λ_ _ _ _=>.b _) (bF _) (Zc (aS (qv 11) ah)) (Zc (bW T.cK (ae (qv 7) aw))))) aw)))))
 (ag (bo (i:=10) (pv 10) (aJ nO hr T.rT (ae (qv 0) (ae (qv 1) (ae (qv 2) (ae (qv 12) (ae (qv 13) aw)))))))
 (aj (aA 9 cp.nd (oP (qv 9) (qv 13)))))))
 (aj (aE (aq (af (Zd (qv 6)) (af (aL (bK U) bS ap T.cH bi (ae (qv 10) aw)) ai))))))))))))),λts Q h=>?_)
   let(ks,ds,k,room,v,U,gk,hI,hv,c8,c4,da,hq):=h;have hk:k∈ks.map (·.1):=hI.sub _ (gS hv);have v1:1<=v:=(hI.bd _ (gS hv)).1;refine(aU wb ks,_,mJ ks,_,pe gk.nd hk,lL _,λi q=>P3 λo6 o7 L=>q=[.r .cB,.r (tKs ks),.r (dT ds),.r (.s k),.r (.i room),.o (.l L),o6,o7,.no,.no,.no,.no,.no,.no]/\L=(((cV ks k).take i).filter (okM ds)).map (mkT ds),(_,_,_,U,U),?_,?_)
   ·rintro i x q hx ⟨o6,o7,L,rfl,rfl⟩
    rw[fy]at hx;let(m,hm,U):=gs.mp hx;refine(_,U,?_);have mm:=gV hm;let(f4,ff,m6):=gk.ma mm;have sn:((cV ks k).take (i+1)).filter (okM ds)=((cV ks k).take i).filter (okM ds)++if okM ds m=O then [m]else []:=by
     rw[ou hm,Xv]
     congr 1
     by_cases e:okM ds m=O
     ·rw[if_pos e,vq e];rfl
     ·rw[if_neg e,AL e];rfl
    refine(aC (by rw[cO];omega),λi ys=>ys=(m.2.take i).map λf=>.b (lk ds f).isSome,U,?_,?_)
    ·rintro i x ys hx rfl
     rw[fy]at hx;let(f,hf,U):=gs.mp hx;refine(_,U,?_);show _++[L2.T.b (bC (ds.map dEn) (.inr f)).isSome]=_;rw[d5,<- take_one hf,j3,TH];rfl
    ·rintro ys rfl
     rw[cO,mu];refine(_,nI _ _,?_);refine aI (λg1=>?_) (λg1=>?_)
     ·have g0:∀f∈m.2,(lk ds f).isSome=true:=(g1:)
      refine(?_,aC (by rw[cO];omega),λi ys=>ys=(m.2.take i).map λf=>.i ((lk ds f).getD 0),U,?_,?_)
      ·exact aC (by rw[cO];exact qR (O2 _ _) (by rw[p7];omega))
      ·rintro i x ys hx rfl
       rw[fy]at hx;let(f,hf,U):=gs.mp hx;let(u,V):=Ll.mp (g0 f (gV hf));refine(_,U,.i u,by rw[d5,V];rfl,U,?_)
       show _++[L2.T.i u]=_;rw[<- take_one hf,j3,X1,V];rfl
      ·rintro ys rfl
       rw[cO,mu];refine(_,ins_map _ _,?_);refine(U,aU (λ_=>rfl) m.2,_,_,_,U,?_)
       rw[sn,if_pos (show okM ds m=O from g1),j3];rfl
     ·refine(_,_,_,U,?_);rw[sn,if_neg (show ¬ okM ds m=O from g1),qg]
   ·rintro q ⟨o6,o7,L,rfl,rfl⟩
    rw[cO,mu];obtain⟨M,hM⟩:∃M,M=if v > room then v else room:=(_,U)
    have cS:room<=M/\v<=M/\M <=(n+1:Nat)/\(M=room\/M=v):=by rw[hM];split <;> omega
    have av:bC (ds.map dEn) (.inr k)=Z (.i v):=by rw[d5,hv];rfl
    have S6:((cV ks k).filter (okM ds)).length<=6:=by
     let(m0,a3,_):=hI.wt k v hv;exact qR (O2 _ _) (gk.ma a3).2.2
    let(m0,a3,cL,c6):=hI.wt k v hv;have mS:m0∈(cV ks k).filter (okM ds):=O4.mpr (a3,by unfold okM;simpa using cL)
    have bM:∀m∈(cV ks k).filter (okM ds),m∈cV ks k/\∀f∈m.2,(lk ds f).isSome=true:=λm h=>by
     let(h1,h2):=O4.mp h;exact(h1,by unfold okM at h2;simpa using h2)
    generalize(cV ks k).filter (okM ds)=S at S6 mS bM
    refine(bE (by rw[cO];omega),λi ys=>ys=((S.take i).filter λm=>decide (1+cA ds m.2<=M)).map (mkT ds),U,?_,?_)
    ·rintro i y ys hy rfl
     rw[fy]at hy;let(m,hm,U):=gs.mp hy;refine(_,U,_,U,_,av,?_);rw[pM,hm,Xv,j3];refine aI (λg=>?_) λg=>?_
     ·have g:1+cA ds m.2<=M:=by rw[hM];exact of_decide_eq_true g
      refine(by show(O&&(O&&(L2.T.ims (m.2.map .s)&&O)))=O;rw[aX];rfl,?_)
      rw[show(Z m).toList=[m]from U,vq (by exact decide_eq_true g)]
      rfl
     ·have g:¬ 1+cA ds m.2<=M:=λz=>g (decide_eq_true (by rw[hM]at z;exact z))
      rw[show(Z m).toList=[m]from U,AL (g:)]
      exact(qg _).symm
    ·rintro ys rfl
     rw[cO,mu];have cg:m0∈S.filter λm=>decide (1+cA ds m.2<=M):=O4.mpr (mS,decide_eq_true al)
     have l0:=Yk cg;have l1:(S.filter λm=>decide (1+cA ds m.2<=M)).length<=6:=qR (O2 _ _) S6
     have ll:((S.filter λm=>decide (1+cA ds m.2<=M)).map (mkT ds)).length=(S.filter λm=>decide (1+cA ds m.2<=M)).length:=cO _
     refine(al,al,λr1 cf c3=>?_)
     let(x,ex,hx):=K9 (xs:=(S.filter λm=>decide (1+cA ds m.2<=M)).map (mkT ds)) (i:=r1) cf al
     let(m,hm,U):=j0.mp hx;let(ct,hc):=O4.mp hm;have hc:1+cA ds m.2<=M:=of_decide_eq_true hc;let(mm,g0):=bM m ct;let(f4,ff,_):=gk.ma mm;let(kd,bN,U,cT):=DN mm;have bj:m∈kd.2:=by rw[<- cT];exact mm
     have c2:=hI.sum m.2;have cm:(mkT ds m).im=true:=by show(O&&(O&&(L2.T.ims (m.2.map .s)&&O)))=O;rw[aX];rfl
     refine(_,ex,cm,_,U,?_);refine(aU (λ_=>rfl) m.2,λi q=>Z8 λ(lf:Int)(vs:List Vl)(o5 o8 aP ay ar:Sl)(L:List L2.T)=>q=[.r .cB,.r (tKs ks),.r (dT ds),.r (.s kd.1),.r (.i room),o5,.r (.s m.1),.r (.t (m.2.map .s)),o8,.o (.i lf),.o (.l L),aP,ay,ar]/\L=vs.map Vl.t/\vs.length=i/\(lf<=room-1\/lf<=0)/\(∀v∈vs,∀m'∈v.ms,m'∈cy ks kd.1 ks)/\((Vl.mss vs).length:Int)+tri lf.toNat<=cA ds (m.2.take i)+tri (room-1).toNat,(room-1,[],_,_,_,_,_,_,U,U,U,.inl (E3 _),bY,by simp[cA,Vl.mss]),?_,?_)
     ·rintro i y q hy ⟨lf,vs,o5,o8,aP,ay,ar,L,rfl,rfl,aV,cu,aR,aQ⟩
      let(z,hz,U):=bQ hy;rw[fy]at hz;let(f,hf,U):=gs.mp hz;have b0:=gV hf;have hi:=(g5.mp hf).1;let(u,V):=Ll.mp (g0 f b0);have u1:1<=u:=(hI.bd _ (gS V)).1;have st:=E6 (ds:=ds) hf;rw[V]at st;simp only[YZ]at st;have c1:=pP hI m.2 (i+1);have c0:=(hI.sum (m.2.take i)).1;have cap:(if lf > 1 then lf else 1)<=n:=by split <;> omega
      have WU:1 <=(if lf > 1 then lf else 1):=by split <;> omega
      refine(_,U,U,by show 0<(if lf > 1 then lf else 1)+1;omega,by show(if lf > 1 then lf else 1)+1<2 ^ 64;omega,λe e0 e1=>?_)
      have e1:e<(if lf > 1 then lf else 1)+1:=e1
      obtain⟨own,R5,cP⟩:∃own:Int,(own=lf\/(0<=own/\own <=(if lf > 1 then lf else 1)))/\atI [L2.T.i lf,.i e] (if decide ((i:Int)+1<((m.2.map L2.T.s).length:Int))=O then 1 else 0)=Z (.i own):=by
       by_cases g:(i:Int)+1<((m.2.map L2.T.s).length:Int)
       ·exact(e,.inr (e0,al),by rw[if_pos (decide_eq_true g)];rfl)
       ·exact(lf,.inl U,by rw[if_neg (g:)];rfl)
      have c5:=L3 R5;refine(_,cP,aC (by rw[cO];omega),ks,ds,f,own,u,U,gk,hI,V,?_,al,al,λt h1 h2=>?_)
      ·obtain rfl |⟨_,z⟩:=R5 <;> omega
      ·refine(lf-own,vs++[t],_,_,_,_,_,_,U,by rw[j3];rfl,by rw[i5,aV];rfl,?_,λv' a0 m' ak=>?_,?_)
       ·obtain rfl |⟨z,_⟩:=R5 <;> omega
       ·obtain z|z:=i6.mp a0
        ·exact aR v' z m' ak
        ·rw[d2.mp z]at ak;exact yU gk.p bN bj b0 (h1 m' ak)
       ·rw[Vl.gB,i5,show Vl.mss [t]=t.ms++[]from U,qg]
        omega
     ·rintro q ⟨lf,vs,o5,o8,aP,ay,ar,L,rfl,rfl,aV,cu,aR,aQ⟩
      rw[aZ,cO]at aV;rw[aZ,cO,mu]at aQ;have eu:(Vl.mk m.1 vs).t=.t [.s m.1,.t (vs.map Vl.t)]:=by rw[Vl.t,Vl.wQ]
      refine(U,Vl.ims vs,?_)
      have:=hq (.mk m.1 vs) (λm' ak=>?_) ?_
      ·rw[eu]at this;exact this
      ·rw[Vl.ms]at ak;obtain rfl|z:=kO.mp ak
       ·exact n6 bN bj
       ·let(v',a0,z):=Vl.DL.mp z;exact aR v' a0 m' z
      ·rw[Vl.ms,pq];obtain e|e:=cS.2.2.2
       ·obtain⟨r',rfl⟩:∃r':Nat,room=(r':Int)+1:=((room-1).toNat,al)
        have e1:((r':Int)+1-1).toNat=r':=al
        have e2:((r':Int)+1).toNat=r'+1:=al
        rw[e1]at aQ;rw[e2];have e3:tri (r'+1)=tri r'+r':=rfl
        omega
       ·have:=se (a:=(room-1).toNat) (b:=room.toNat) al
        omega
def pz(us:List Fam)(ns:List Int)(u:Fam):Int:=match us.findIdx? (λg=>decide (g=u))with
 |some j=>ns.getD j 0
 |none=>0
theorem Cd{us:List Fam}(h:u∈us):∃j,us.findIdx? (λg=>decide (g=u))=Z j/\j<us.length:=by
 cases e:us.findIdx? (λg=>decide (g=u))with
 |none =>
  rw[List.findIdx?_eq_none_iff]at e
  have:=e u h
  simp at this
 |some j =>
  let(hl,_):=Xw.mp e;exact(j,U,hl)
theorem JT:∀{us:List Fam}{ns:List Int}{kvs:List (List Key×V)},us.Nodup->us.length=ns.length->u∈us->bP (cC kvs (us.zip (ns.map .int))) u=Z (.int (pz us ns u))
 |[],_,_,_,_,h=>by cases h
 |v::us,[],_,_,h,_=>by cases h
 |v::us,n::ns,kvs,hn,hl,h=>by
  have g:=uj.mp hn;show bP (cC (putK kvs v (.int n)) (us.zip (ns.map .int))) u=_;by_cases e:v=u
  ·subst e;have keep:∀{us:List Fam}{ms:List V}{kvs:List (List Key×V)},v ∉ us->bP (cC kvs (us.zip ms)) v=bP kvs v:=by
    intro us
    induction us with
    |nil=>intro ms kvs _;rfl
    |cons w r K =>
     intro ms kvs hv;cases ms with
     |nil=>rfl
     |cons m ms =>
      show bP (cC (putK kvs w m) (r.zip ms)) v=_;rw[K λz=>hv (j1 _ z),rX,if_neg λz=>hv (by rw[z];exact j2)]
   rw[keep g.1,rX,if_pos rfl]
   have:pz (v::us) (n::ns) v=n:=by unfold pz;rw[YK,decide_eq_true rfl];rfl
   rw[this]
  ·have q:=(kO.mp h).elim (λz=>absurd z.symm e) id
   rw[JT g.2 (Nat.succ.inj hl) q];let(j,P,_):=Cd q
   have:pz (v::us) (n::ns) u=pz us ns u:=by
    unfold pz;rw[YK,decide_eq_false e,P];rfl
   rw[this]
theorem qT(gk:bw ks):(cy ks k ks).Nodup:=by
 have:∀{xs:List Kd},(names xs).Nodup->(cy ks k xs).Sublist (names xs):=by
  intro xs
  induction xs with
  |nil=>intro _;exact Yh _
  |cons x r g =>
   intro hn;unfold cy;rw[YT];refine List.Sublist.append ?_ (g (uF.mp hn).2.1)
   split
   ·exact List.Sublist.refl _
   ·exact Yh _
 exact List.Nodup.sublist (this gk.mn) gk.mn
theorem yk(gk:bw ks):(lP ks fam k).Nodup:=by
 refine UD.mpr ((qT gk).imp λg z=>g ?_)
 injection z with z
 have:=WZ z
 injection this with z _
 exact L2.T.s.inj z
theorem kA(h:t∈lP ks fam k):∃m,t=.t (fam++[.s m]):=by
 let(m,_,U):=j0.mp h;exact(m,U)
theorem fO:∀{k:Nat},t∈dR ks i k sc->∃(j:Nat)(m:Str),k<=j/\t=.t [.s "param",iN i,iN j,.s m]:=by
 induction sc with
 |nil=>intro k h;cases h
 |cons p r g =>
  intro k h;obtain z|z:=i6.mp h
  ·let(m,U):=kA z;exact(k,m,ka _,U)
  ·let(j,m,q,e):=g z;exact(j,m,al,e)
theorem Cf(h:iN i=iN j):i=j:=Int.ofNat.inj (L2.T.i.inj h)
theorem E1(gk:bw ks):∀{k:Nat},(dR ks i k sc).Nodup:=by
 induction sc with
 |nil=>exact kc
 |cons p r g =>
  refine uF.mpr (yk gk,g,λa ha b q e=>?_)
  let(m,U):=kA ha;let(j,m',z,U):=fO q;injection e with e
  injection e with _ e
  injection e with _ e
  injection e with e _
  have:=Cf e
  lia
theorem rZ:∀{n:Nat},t∈dG ks i n os->∃(j:Nat)(m:Str),n<=j/\t=.t [.s "piece",iN i,iN j,.s m]:=by
 induction os with
 |nil=>intro k h;cases h
 |cons p r g =>
  intro n h;obtain z|z:=i6.mp h
  ·cases p with
   |none=>cases z
   |some k =>
    let(m,_,U):=j0.mp z;exact(n,m,ka _,U)
  ·let(j,m,q,e):=g z;exact(j,m,al,e)
theorem G8(gk:bw ks):∀{n:Nat},(dG ks i n os).Nodup:=by
 induction os with
 |nil=>exact kc
 |cons p r g =>
  intro n;refine uF.mpr (?_,g,λa ha b q e=>?_)
  ·cases p with
   |none=>exact kc
   |some k=>exact yk gk (fam:=[.s "piece",iN i,iN n])
  ·let(j,m',z,U):=rZ q;cases p with
   |none=>cases ha
   |some k =>
    let(m,_,U):=j0.mp ha;injection e with e
    injection e with _ e
    injection e with _ e
    injection e with e _
    have:=Cf e
    omega
theorem CQ(h:t∈oq ks i f os):∃w l,t=.t (w::iN i::l):=by
 obtain z|z:=i6.mp h
 ·obtain z|z:=i6.mp z
  ·obtain z|z:=i6.mp z
   ·obtain z|z:=i6.mp z
    ·let(j,m,_,U):=fO z;exact(_,_,U)
    ·rw[d2.mp z];exact(_,_,U)
   ·let(m,U):=kA z;exact(_,_,U)
  ·rw[d2.mp z];exact(_,_,U)
 ·let(j,m,_,U):=rZ z;exact(_,_,U)
theorem LY(gk:bw ks):(oq ks i f os).Nodup:=by
 have hd:∀{w q:Str}{l l':List L2.T},w≠q->L2.T.t (.s w::l) ≠ .t (.s q::l'):=λ{w q l l'} h e=>by
  injection e with e
  injection e with e _
  exact h (L2.T.s.inj e)
 have app:∀{X Y9:List L2.T},X.Nodup->Y9.Nodup->(∀x∈X,∀y∈Y9,x≠y)->(X++Y9).Nodup:=λh1 h2 h3=>uF.mpr (h1,h2,h3)
 have one:∀{t:L2.T},[t].Nodup:=λ{t}=>uj.mpr (x2,kc)
 refine app (app (app (app (E1 gk) one ?_) (yk gk) ?_) one ?_) (G8 gk) ?_
 ·intro x hx y g;let(j,m,_,U):=fO hx;rw[d2.mp g];exact hd ac
 ·intro x hx y g;let(m',U):=kA g;obtain z|z:=i6.mp hx
  ·let(j,m,_,U):=fO z;exact hd ac
  ·rw[d2.mp z];exact hd ac
 ·intro x hx y g;rw[d2.mp g];obtain z|z:=i6.mp hx
  ·obtain z|z:=i6.mp z
   ·let(j,m,_,U):=fO z;exact hd ac
   ·rw[d2.mp z];exact hd ac
  ·let(m',U):=kA z;exact hd ac
 ·intro x hx y g;let(K,m',_,U):=rZ g;obtain z|z:=i6.mp hx
  ·obtain z|z:=i6.mp z
   ·obtain z|z:=i6.mp z
    ·let(j,m,_,U):=fO z;exact hd ac
    ·rw[d2.mp z];exact hd ac
   ·let(m',U):=kA z;exact hd ac
  ·rw[d2.mp z];exact hd ac
theorem y0(gk:bw ks):∀{xs:List (Fn×List (Option Str))}{i:Nat},(bL ks i xs).Nodup/\∀t∈bL ks i xs,∃(j:Nat)(w:L2.T)(l:List L2.T),i<=j/\t=.t (w::iN j::l)
 |[],i=>(kc,nofun)
 |x::r,i=>by
  let(h1,h2):=y0 gk;refine(uF.mpr (LY gk,h1,λa ha b K e=>?_),λt g=>?_)
  ·let(w,l,U):=CQ ha;let(j,P,l',q,U):=h2 b K;injection e with e
   injection e with _ e
   injection e with e _
   have:=Cf e
   omega
  ·obtain z|z:=i6.mp g
   ·let(w,l,U):=CQ z;exact(i,w,l,ka _,U)
   ·let(j,w,l,q,e):=h2 t z;exact(j,w,l,al,e)
theorem S9(gk:bw ks){us:List Fam}(h:bL ks 0 xs=us.map cQ):us.Nodup:=by
 have:=(y0 gk (xs:=xs) (i:=0)).1
 rw[h]at this;exact(UD.mp this).imp λg e=>g (by rw[e])
inductive Ri(ts:List L2.T)(Q:L2.T->Prop):Prop
 |mk(ks:List Kd)(fs:List Fn)(f:Nat)(fn:Fn)(h1:ts=[.cB,tPr ks fs,iN f,.i 12])(h2:Prog ks fs)(h3:ig ks)(h4:fs[f]?=Z fn)(h5:Q .n)(h6:∀vs:List Vl,vs.length=fn.1.2.1.length->(∀(i:Nat)(v:Vl)(p:Str×Str),vs[i]?=Z v->fn.1.2.1[i]?=Z p->(∀m∈v.ms,m∈cy ks p.2 ks)/\v.ms.length<=400)->Q (.l (vs.map Vl.t)))
theorem NP(T:Txt K mg a):bf P w K mg base CX0 27 a.yt a.KU [Zf,Zt,Zi,Zh] (spQ K Ri):=by
 refine T.LD.F.okQ xa (λ_ _ _ _ _ _ hr=>?_)
 ·have hu:=bh hr;refine(_,_,((ag (aA 4 xa.nd (aJ (zL T) hr T.yN (ae (ao (qv 1) ah) aw)))
 (ag (dY (i:=5) xa.nd U (Or.inl U) U (dZ (ao (ao (ao (qv 1) ah) (qv 2)) ah)) (N':=["_law_param"]) (.own U .nil) (bx (g:=(Tg.nm 0)) (λ_ _ _ _ _=>((ck 0),(Zd (ao (qv 0) ah))))))
 (ag (aT (BE (fX (Zc (bA (kE U U) qX ap T.Ew bi (ae (Zc (bD U (eZ (qv 5)) (N':=[Zm,Zw]) (.own U (.got (i:=4) U U (.inl U) .nil)) (bx (g:=(Tg.nm 0)) (λ_ _ _ _ _=>((ck 0),(jE (xS hu) mf U (qv 0) (qv 1))))))) aw)))))
 (aj (aE cz))
 aF)
 (aj (aE (bD U (eZ (qv 5)) (N':=[Zm,Zf,Zt,Zw,Zh]) (.own U (.got (i:=0) U U (.inl U) (.got (i:=1) U U (.inl U) (.got (i:=4) U U (.inl U) (.got (i:=3) U U (.inl U) .nil))))) (bx (g:=(Tg.nm 0)) (λ_ _ _ _ _=>((ck 0),(aJ (zI T 24) hr T.rT (ae (qv 1) (ae (ao (qv 2) ah) (ae (qv 3) (ae (qv 0) (ae (Zc (aJ (fB (du T)) hr T.a5 (ae (qv 1) (ae (qv 4) aw)))) aw)))))))))))))))),λts Q h=>?_)
  let(ks,fs,f,fn,U,hP,gk,hf,ar,hq):=h;have ef:atI (fs.map tF) (f:Int)=Z (tF fn):=bc (by rw[fy,hf];rfl)
  let(p1,p2,p3,p4):=hP.pk fn (gV hf);refine(_,U,ks,U,gk,λds hI=>?_)
  refine(_,U,_,ef,_,U,aC (by rw[cO];omega),λi ys=>ys=((fn.1.2.1.take i).map (·.2)).map .s,U,?_,?_)
  ·rintro i y ys hy rfl
   rw[fy]at hy;let(p,hp,U):=gs.mp hy;refine(_,U,_,U,U,?_);rw[pM,hp,j3,j3];rfl
  ·rintro ys rfl
   rw[cO,mu];have av:((fn.1.2.1.map (·.2)).map L2.T.s).length<=4:=by rw[cO,cO];exact p1
   refine(bE al,λi ys=>ys=((fn.1.2.1.map (·.2)).take i).map λf=>.b (lk ds f).isSome,U,?_,?_)
   ·rintro i x ys hx rfl
    rw[fy]at hx;let(f,hf,U):=gs.mp hx;refine(_,U,?_);show _++[L2.T.b (bC (ds.map dEn) (.inr f)).isSome]=_;rw[d5,<- take_one hf,j3,TH];rfl
   ·rintro ys rfl
    rw[cO,mu];refine(_,nI _ _,?_);refine aI (λ_=>ar) λg=>?_
    have g1:(((fn.1.2.1.map (·.2)).map λf=>(lk ds f).isSome).all id)=true:=by
     by_cases z:(((fn.1.2.1.map (·.2)).map λf=>(lk ds f).isSome).all id)=O
     ·exact z
     ·rw[Bool.not_eq_true]at z;exact absurd (by rw[z];rfl) g
    have g0:∀p∈fn.1.2.1,(lk ds p.2).isSome=true:=λp hp=>RY.mp g1 _ (j0.mpr (p.2,j0.mpr (p,hp,U),U))
    refine(bE al,λi ys=>∃vs:List Vl,ys=vs.map Vl.t/\vs.length=i/\∀(j:Nat)(v:Vl)(p:Str×Str),vs[j]?=Z v->fn.1.2.1[j]?=Z p->(∀m∈v.ms,m∈cy ks p.2 ks)/\v.ms.length<=400,([],U,U,λj v p h=>by simp at h),?_,?_)
    ·rintro i x ys hx ⟨vs,rfl,q,V⟩
     rw[rS,fy]at hx;let(p,hp,U):=gs.mp hx;let(u,ak):=Ll.mp (g0 p (gV hp));let(u1,u2):=hI.bd _ (gS ak);have b3:=yD (hI.len gk);have b4:bnd 3=21:=rfl;dsimp only at u1 u2;refine(_,U,_,U,ac,ac,λr r0 r1=>(ks,ds,p.2,r,u,U,gk,hI,ak,al,al,ac,λt h1 h2=>?_))
     have t1:=se (a:=r.toNat) (b:=11) al
     have t2:tri 11=55:=rfl;refine(vs++[t],by rw[j3];rfl,by rw[i5,q];rfl,λj v p' e1 e2=>?_)
     by_cases hj:j<vs.length
     ·rw[ui hj]at e1;exact V j v p' e1 e2
     ·rw[uD al]at e1
      have:j=vs.length:=by
       have:=(g5.mp e1).1
       simp at this
       omega
      subst this;rw[XW]at e1;cases e1;rw[q,hp]at e2;cases e2;exact(h1,al)
    ·rintro ys ⟨vs,rfl,q,V⟩
     rw[cO,cO]at q;exact hq vs q V
inductive zq(ts:List L2.T)(Q:L2.T->Prop):Prop
 |mk (us:List Fam) (ns:List Int) (fam:Fam) (v:Vl) (h1:ts=[.l (us.map cQ),.t (ns.map .i),cQ fam,v.t]) (h2:us.length=ns.length) (h3:fam.length<=10) (h4:v.ms.length<=500) (h5:(∀m∈v.ms,fam++[.inr m]∈us)) (h6:Q (.i (v.ms.map λm=>pz us ns (fam++[.inr m])).sum))
theorem FT(T:Txt K mg a):bf P w K mg base CX0 1 a.nc a.Ao [ZL,Zj,ZS,ZM] (spQ K zq):=by
 refine T.uL.F.okQ fP (λ_ _ _ _ _ _ hr=>?_)
 ·have hu:=bh hr;refine(_,_,((ag (aA 4 fP.nd br)
 (ag (aA 5 fP.nd (aO (af (Zd (qv 3)) ai)))
 (ag (mx PassesOwn.never (bG (sX hu U) oB (bF _) (qv 5) (Zc (aO ai)))
 (ag (MI (g:=(Tg.tp [6,7])) (i:=5) (pv 5) (cJ (aY 6 fP.nd) (aY 7 fP.nd)))
 (ag (aA 4 fP.nd (aS (qv 4) (ao (qv 1) (Zc (oQ (kY hr) (qv 0) (Zc (aS (qv 2) (Zc (aq (af (Zd (qv 6)) ai))))))))))
 (aj (MJ (i:=5) (pv 5) (qv 7))))))
 (aj (aE (Zd (qv 4)))))))),λts Q h=>?_)
  let(us,ns,fam,v,U,hl,hf,hv,hm,hq):=h;refine(v.im,λc q=>Z5 λ(st:List Vl)(t:Int)(L:List L2.T)(o6 o7:Sl)=>q=[.r (.l (us.map cQ)),.r (.t (ns.map .i)),.r (cQ fam),.r v.t,.o (.i t),.o (.l L),o6,o7]/\L=st.map Vl.t/\t+((Vl.mss st).map λm=>pz us ns (fam++[.inr m])).sum=(v.ms.map λm=>pz us ns (fam++[.inr m])).sum/\(∀m∈Vl.mss st,fam++[.inr m]∈us)/\c=(Vl.mss st).length/\c<=500,(_,[v],0,_,_,_,U,U,by simp[Vl.mss],by simpa [Vl.mss]using hm,U,by simpa [Vl.mss]using hv),?_)
  rintro c q ⟨st,t,L,o6,o7,rfl,rfl,ht,ar,rfl,hc⟩
  obtain rfl |⟨V,⟨m,ps⟩,rfl⟩:=Xm st
  ·have ht:t=(v.ms.map λm=>pz us ns (fam++[.inr m])).sum:=by simpa [Vl.mss]using ht
   rw[<- ht]at hq;exact(U,hq)
  ·rw[XF]at *;have em:Vl.mss (V++[.mk m ps])=Vl.mss V++m::Vl.mss ps:=by rw[Vl.gB];show _++(_++[])=_;rw[qg,Vl.ms]
   rw[em]at ht ar hc ⊢;have e5:(!((V++[Vl.mk m ps]).map Vl.t).isEmpty)=true:=by cases V <;> rfl
   let(j,hj,aQ):=Cd (ar m ad)
   have ay:j<ns.length:=al
   have an:atI (ns.map L2.T.i) (j:Int)=Z (.i ns[j]):=bc (by rw[fy,dN ay];rfl)
   have ep:pz us ns (fam++[.inr m])=ns[j]:=by unfold pz;rw[hj];simp[ay]
   have et:(Vl.mk m ps).t=.t [.s m,.t (ps.map Vl.t)]:=by rw[Vl.t,Vl.wQ]
   have sl:=Vl.mU V;have pl:=Vl.mU ps;have aP:L2.T.t (fam.map kT++[.s m])=Bh (fam++[.inr m]):=by unfold Bh;rw[j3];rfl
   rw[i5,pq]at hc ⊢;refine aI (λ_=>?_) λz=>absurd e5 z
   refine(λq'=>∃(ak:List Vl)(t2:Int)(L:List L2.T)(o6 o7:Sl),q'=[.r (.l (us.map cQ)),.r (.t (ns.map .i)),.r (cQ fam),.r v.t,.o (.i t2),.o (.l L),o6,o7]/\L=ak.map Vl.t/\t2+((Vl.mss ak).map λm=>pz us ns (fam++[.inr m])).sum=(v.ms.map λm=>pz us ns (fam++[.inr m])).sum/\(∀m∈Vl.mss ak,fam++[.inr m]∈us)/\(Vl.mss ak).length<(Vl.mss V).length+((Vl.mss ps).length+1),?_,?_)
   ·rintro q' ⟨ak,t2,L,o6,o7,rfl,rfl,g1,g2,g3⟩
    exact(_,g3,ak,t2,_,_,_,U,U,g1,g2,U,al)
   ·refine(V.map Vl.t,(Vl.mk m ps).t,by rw[j3];rfl,Vl.ims _,_,by rw[et];rfl,?_)
    refine(U,uE (aC (by rw[cO];show fam.length+1<=_;lia)),iS fam,U,us,fam++[.inr m],j,U,aP,hj,_,an,Vl.ims ps,?_)
    refine(?_,V++ps,t+ns[j],_,_,_,U,by rw[j3],?_,?_,?_)
    ·rw[cO,cO];exact uE (bE al)
    ·rw[Vl.gB,j3,Yp,<- ep,<- ht,j3,Yp,qS,CD]
     lia
    ·intro m' av;rw[Vl.gB]at av;refine ar m' ?_;obtain z|z:=i6.mp av
     ·exact pL _ z
     ·exact lY _ (j1 _ z)
    ·rw[Vl.gB,i5];lia
inductive Rf(ts:List L2.T)(Q:L2.T->Prop):Prop
 |mk(v:Vl)(h1:ts=[v.t])(h2:v.ms.length<=500)(h3:Q (.l (v.ms.map .s)))
theorem xT(T:Txt K mg a):bf P w K mg base CX0 1 a.gI a.p9 [Zl] (spQ K Rf):=by
 refine T.qy.F.okQ fH (λ_ _ _ _ _ _ hr=>?_)
 ·have hu:=bh hr;refine(_,_,((ag (aA 1 fH.nd (aO ai))
 (ag (aA 2 fH.nd (aO (af (Zd (qv 0)) ai)))
 (ag (mx PassesOwn.never (fX (qv 2))
 (ag (BF (j:=3) fH.nd U (Or.inl U) (pv 2))
 (ag (bo (i:=1) (pv 1) (Zd (ao (qv 3) ah)))
 (aj (cN (i:=2) (pv 2) (zg U U T.jZ U T.lQ (ao (qv 3) ah)))))))
 (aj (de (i:=1) (pv 1))))))),λts Q h=>?_)
  let(v,U,hv,hq):=h;refine(v.im,λc q=>Z5 λ(M:List Str)(st:List Vl)(A1 L:List L2.T)(o3:Sl)=>q=[.r v.t,.o (.l A1),.o (.l L),o3]/\A1=M.map .s/\L=st.map Vl.t/\M++Vl.mss st.reverse=v.ms/\c=(Vl.mss st.reverse).length,(_,[],[v],_,_,_,U,U,U,by simp[Vl.mss],U),?_)
  rintro c q ⟨M,st,A1,L,o3,rfl,rfl,rfl,hM,rfl⟩
  obtain rfl |⟨g,⟨m,ps⟩,rfl⟩:=Xm st
  ·have hM:M=v.ms:=by simpa [Vl.mss]using hM
   rw[<- hM]at hq;exact hq
  ·rw[XF]at *;rw[Xt]at hM;have hM:M++(m::Vl.mss ps++Vl.mss g.reverse)=v.ms:=hM;have ak:=congrArg Ez hM;simp only[i5,pq]at ak;have et:(Vl.mk m ps).t=.t [.s m,.t (ps.map Vl.t)]:=by rw[Vl.t,Vl.wQ]
   have er:Vl.mss (g++[Vl.mk m ps]).reverse=m::Vl.mss ps++Vl.mss g.reverse:=by rw[Xt];rfl
   have pl:=Vl.mU ps;have sl:=Vl.mU g.reverse;rw[Xe]at sl;refine aI (λ_=>?_) (λz=>absurd ad z)
   refine(λq'=>∃(M2:List Str)(V:List Vl)(A1 L:List L2.T)(o3:Sl),q'=[.r v.t,.o (.l A1),.o (.l L),o3]/\A1=M2.map .s/\L=V.map Vl.t/\M2++Vl.mss V.reverse=v.ms/\(Vl.mss V.reverse).length<(Vl.mss (g++[Vl.mk m ps]).reverse).length,?_,?_)
   ·rintro q' ⟨M2,V,A1,L,o3,rfl,rfl,rfl,g1,g2⟩
    exact(_,g2,M2,V,_,_,_,U,U,U,g1,U)
   ·refine(g.map Vl.t,.t [.s m,.t (ps.map Vl.t)],by rw[j3,X1,et],Vl.ims _,ac,?_)
    refine(aC (by rw[cO];omega),_,U,U,_,U,Vl.ims ps,?_,M++[m],g++ps.reverse,_,_,_,U,?_,?_,?_,?_)
    ·rw[cO,Xe,cO];exact bz al
    ·rw[j3];rfl
    ·rw[j3,Y0]
    ·rw[<- hM,Xt,Yy,Vl.gB,u6];rfl
    ·rw[er,Xt,Yy,Vl.gB,i5,XG,pq,i5];omega
def vx(ms:List Str):Ds:=ms.foldl (λds m=>putD ds m ((lk ds m).getD 0+1)) []
theorem Gy:vx (ms++[m])=putD (vx ms) m ((lk (vx ms) m).getD 0+1):=by unfold vx;rw[Xy];rfl
theorem wo:∀{ms:List Str}{ds:Ds},(ms.foldl (λds m=>putD ds m ((lk ds m).getD 0+1)) ds).length<=ds.length+ms.length
 |[],_=>ka _
 |m::r,ds=>by
  have:=wo (ms:=r) (ds:=putD ds m ((lk ds m).getD 0+1))
  have h:=sP (ds:=ds) (k:=m) (v:=(lk ds m).getD 0+1);rw[XQ,pq]
  split at h <;> lia
theorem K3:(vx ms).length<=ms.length:=by have:=wo (ms:=ms) (ds:=[]);simpa [vx]using this
def cnt(m:Str)(ms:List Str):Int:=(ms.countP λy=>decide (y=m):Nat)
theorem Ax:∀{ms:List Str}{ds:Ds},(lk (ms.foldl (λds m=>putD ds m ((lk ds m).getD 0+1)) ds) m).getD 0=(lk ds m).getD 0+cnt m ms
 |[],ds=>(Xs _).symm
 |x::r,ds=>by
  rw[XQ,Ax,x3];unfold cnt;rw[Y1];by_cases e:m=x
  ·subst e;rw[if_pos U,if_pos (decide_eq_true U)];show(lk ds m).getD 0+1+_=_
   lia
  ·rw[if_neg e,if_neg (λz=>e z.symm:)]
   rfl
theorem OA:(lk (vx ms) m).getD 0=cnt m ms:=by
 have:=Ax (m:=m) (ms:=ms) (ds:=[])
 rw[show(lk [] m).getD 0=0 from U,W5]at this;exact this
theorem Fz{D:dP}(h1:q[1]?=Z (.o (dT ds)))(h2:q[2]?=Z (.r (.s k)))(hl:ds.length<kf)(hq:D.nx (q.set 1 (.o (dT (putD ds k ((lk ds k).getD 0+1)))))):
  BJ 1 (aM 2) (qOp kH (Dp (aM 1) (aM 2) (qC (.i 0))) (qC (.i 1))) D q:=by
 unfold dT at h1;simp only[BJ,qOp,Dp,aM,qC,h1,h2,L2.T.dof];have e:(bC (ds.map dEn) (.inr k)).getD (.i 0)=.i ((lk ds k).getD 0):=by rw[d5];cases lk ds k <;> rfl
 show kH ((bC (ds.map dEn) (.inr k)).getD (.i 0)) (.i 1) _;rw[e];refine(by rw[cO];exact hl,Kh ds,U,?_)
 rw[IS];exact hq
inductive Ji(ts:List L2.T)(Q:L2.T->Prop):Prop
 |mk(v:Vl)(h1:ts=[v.t])(h2:v.ms.length<=500)(h3:Q (dT (vx v.ms)))
theorem FW(T:Txt K mg a):bf P w K mg base CX0 2 a.nq a.Av [Zl] (spQ K Ji):=by
 refine T.A0.F.okQ oH (λ_ _ _ _ _ _ hr=>?_)
 ·have z:=bh hr;refine(_,_,((ag (aA 1 oH.nd rj)
 (ag (bb (g:=(Tg.nm 2)) PassesOwn.never U (xB (aJ (xT T) hr T.qy (ae (qv 0) aw))) (aY 2 oH.nd)
 (aj (jC z (pv 1) (qv 2) (Zc (aS (xE z (qv 1) (qv 2) ah) ah)))))
 (aj (de (pv 1)))))),λts Q h=>?_)
  let(v,U,hv,hq):=h;refine(v,U,hv,?_)
  generalize v.ms=xs at hv hq ⊢
  refine(λi q=>Z2 λ(o2:Sl)(ds:Ds)=>q=[.r v.t,.o (dT ds),o2]/\ds=vx (xs.take i),(_,_,U,U),?_,?_)
  ·rintro i x q hx ⟨o2,ds,rfl,rfl⟩
   rw[fy]at hx;let(m,hm,U):=gs.mp hx;have hl:=K3 (ms:=xs.take i);rw[p7]at hl;refine(_,U,?_);refine Fz U U (aC al) (_,_,U,?_)
   rw[<- Gy,<- ou hm]
  ·rintro q ⟨o2,ds,rfl,rfl⟩
   rw[cO,mu];exact hq
def Nc(us:List Fam)(ns:List Int):List (List Key×V):=cC [] (us.zip (ns.map .int))
inductive Jd(ts:List L2.T)(Q:L2.T->Prop):Prop
 |mk(ks:List Kd)(fs:List Fn)(xs:List (Fn×List (Option Str)))(us:List Fam)(parts:Int)(ns:List Int)(h1:ts=[tPr ks fs,.t [.i parts,.t (ns.map .i)]])(h2:Prog ks fs)(h3:Unk ks fs xs)(h4:bL ks 0 xs=us.map cQ)(h5:Q (.fz (.dT (Nc us ns))))
theorem mP(T:Txt K mg a):bf P w K mg base CX0 8 a.gF a.pY ["program","paper"] (spQ K Jd):=by
 refine T.kn.F.okQ w6 (λ_ _ _ _ _ _ hr=>?_)
 ·have z:=bh hr;refine(_,_,((aj (aE (zj (kY hr) U T.eB U T.PJ (ae (Zc (aJ (gA T) hr T.gp (ae (qv 0) aw))) (ae (ao (qv 1) ah) aw)))))),λts Q h=>?_)
  let(ks,fs,xs,us,parts,ns,U,q,g,e,hq):=h;refine(ks,fs,xs,U,q,g,_,U,?_);rw[e];exact(us,ns,U,U,hq)
def pxE(kvs:List (List Key×V))(fam:Fam)(m:Str):Int:=plc kvs (fam++[.inr m])
def wEn(kvs:List (List Key×V))(fam:Fam)(m:Str):Key×L2.T:=(.inr m,.i (pxE kvs fam m))
noncomputable def wBy(ks:List Kd)(kvs:List (List Key×V))(k:Str)(fam:Fam):List Str:=(cy ks k ks).filter λm=>!decide (pxE kvs fam m=0)
inductive Ug(ts:List L2.T)(Q:L2.T->Prop):Prop
 |mk(ks:List Kd)(u:L2.T)(kvs:List (List Key×V))(k:Str)(fam:Fam)(h1:ts=[.t [tKs ks,u],.fz (.dT kvs),.s k,.l [.t [cQ fam,.i 1]]])(h2:bw ks)(h3:fam.length<=10)(h4:(∀m∈cy ks k ks,∃x,bP kvs (fam++[.inr m])=Z (.int x)))(h5:∀o vs,Q (.fd o vs ((wBy ks kvs k fam).map (wEn kvs fam))))
theorem kR(T:Txt K mg a):bf P w K mg base CX0 4 a.fK a.ny ["program","prices","kind","holding"] (spQ K Ug):=by
 refine T.i8.F.okQ eV (λ_ _ _ _ _ _ hr=>?_)
 ·have hu:=bh hr;refine(_,_,((ag (aA 4 eV.nd rj)
 (ag (bb (g:=(Tg.nm 5)) PassesOwn.never U (eR (aJ (oW T) hr T.nW (ae (ao (qv 0) ah) (ae (qv 2) aw)))) (aY 5 eV.nd)
 (ag (aA 6 eV.nd (bA (fT U U) kq ap T.wC bi (ae (Zc (bD U (eZ (qv 3)) (N':=["family","times","prices","maker"]) (.own U (.own U (.got (i:=1) U U (.inl U) (.got (i:=5) U U (.inl U) .nil)))) (bx (g:=(Tg.tp [0,1])) (λ_ _ _ _ _=>((cJ (ck 0) (ck 1)),(fA (qv 1) (Zc (sO (kY hr) (qv 2) (Zc (aS (qv 0) (Zc (aq (af (Zd (qv 3)) ai))))))))))))) aw)))
 (aj (aT (bG DH wY (bF _) (qv 6) ah)
 (aj (jC (i:=4) hu (pv 4) (qv 5) (qv 6)))
 aF))))
 (aj (oN (i:=4) (aE (Zd (qv 4)))))))),λts Q h=>?_)
  let(ks,u,kvs,k,fam,U,gk,hf,hp,hq):=h;have wl:=gk.wl (k:=k) (xs:=ks) λ_ h=>h
  have k2:=gk.k2;have wn:=qT gk (k:=k);unfold wBy at hq;refine(_,U,ks,k,U,gk,?_)
  generalize cy ks k ks=W at hp hq wl wn ⊢
  refine(λi q=>P3 λ(D:List (Key×L2.T))(o5 o6:Sl)=>q=[.r (.t [tKs ks,u]),.r (.fz (.dT kvs)),.r (.s k),.r (.l [.t [cQ fam,.i 1]]),.o (.d D),o5,o6]/\D=((W.take i).filter λm=>!decide (pxE kvs fam m=0)).map (wEn kvs fam),(_,_,_,U,U),?_,?_)
  ·rintro i y q hy ⟨D,o5,o6,rfl,rfl⟩
   rw[fy]at hy;let(m,hm,U):=gs.mp hy;let(px,ar):=hp m (gV hm);have ak:pxE kvs fam m=px:=by unfold pxE plc;rw[ar]
   refine(_,U,?_);have ek:kU (fam.map kT++[.s m])=Z (fam++[.inr m]):=by
    have:=f7 (fam++[.inr m])
    rw[j3]at this;exact this
   refine(bE (by show 1<=_;decide),λc ys=>ys=([px].take c).map .i,U,?_,?_)
   ·rintro c y ys hy rfl
    cases c with
    |succ c=>simp at hy
    |zero =>
     cases hy;refine(_,U,U,uE (aC (by rw[cO];show fam.length+1<=_;lia)),iS fam,U,(fam++[.inr m],px),(ek,ar),.inl (ac,ac),?_)
     show []++[L2.T.i (1*px)]=[L2.T.i px];rw[Int.one_mul];rfl
   ·rintro ys rfl
    have e0:([px].take [L2.T.t [cQ fam,L2.T.i 1]].length).map L2.T.i=[L2.T.i px]:=rfl;rw[e0];have e1:[px].sum=px:=by simp
    have fl:((W.take i).filter λm=>!decide (pxE kvs fam m=0)).length<=36:=qR (O2 _ _) (by rw[p7];lia)
    have ex:(W.take (i+1)).filter (λm=>!decide (pxE kvs fam m=0))=(W.take i).filter (λm=>!decide (pxE kvs fam m=0))++if px=0 then []else [m]:=by
     rw[pM,hm,Xv]
     congr 1
     by_cases z:px=0
     ·rw[if_pos z,show(Z m).toList=[m]from U,AL (by rw[ak,z];simp)];rfl
     ·rw[if_neg z,show(Z m).toList=[m]from U,vq (by rw[ak];simpa using z)];rfl
    have RZ:∀X:List Str,L2.T.imk (X.map (wEn kvs fam))=true:=λX=>by
     induction X with
     |nil=>rfl
     |cons _ r ih=>show(O&&L2.T.imk (r.map (wEn kvs fam)))=O;rw[ih];rfl
    have ay:m ∉ (W.take i).filter λm=>!decide (pxE kvs fam m=0):=λz=>by
     have z:=(O4.mp z).1;let(j,hj,e):=qp z;rw[p7]at hj;have e:W[j]?=Z m:=by rw[List.getElem_take]at e;rw[dN al,e]
     let(l1,e1):=g5.mp e;let(l2,e2):=g5.mp hm;exact X4.mp wn j i l1 l2 al (by rw[e1,e2])
    refine(_,U,U,aI (λg=>?_) λg=>?_)
    ·have z:px≠0:=λz=>by subst z;exact absurd g ac
     refine(aC (by rw[cO];lia),RZ _,U,_,_,_,U,?_)
     rw[ex,if_neg z,j3];have av:¬((((W.take i).filter λm=>!decide (pxE kvs fam m=0)).map (wEn kvs fam)).any λq=>decide (q.1=.inr m))=true:=by
      rw[W4,Lm]
      rintro⟨y,hy,e⟩
      have e:(Sum.inr y:Key)=.inr m:=of_decide_eq_true e;exact ay (Sum.inr.inj e▸hy)
     unfold g7;rw[if_neg av];show _++[((.inr m:Key),L2.T.i [px].sum)]=_++[wEn kvs fam m];rw[e1,show wEn kvs fam m=((.inr m:Key),L2.T.i px)by unfold wEn;rw[ak]]
    ·have z:px=0:=by
      by_cases z:px=0
      ·exact z
      ·refine absurd ?_ g;show(!decide ((L2.T.i [px].sum).v=(L2.T.i 0).v))=O;rw[e1,decide_eq_false (p:=(L2.T.i px).v=(L2.T.i 0).v) λe=>z (V.int.inj e)];rfl
     exact(_,_,_,U,by rw[ex,if_pos z,qg])
  ·rintro q ⟨D,o5,o6,rfl,rfl⟩
   rw[cO,mu];have RZ:∀X:List Str,L2.T.imk (X.map (wEn kvs fam))=true:=λX=>by
    induction X with
    |nil=>rfl
    |cons _ r ih=>show(O&&L2.T.imk (r.map (wEn kvs fam)))=O;rw[ih];rfl
   exact(RZ _,λo vs=>(U,hq o vs))
theorem zk{t:L2.T}{Q:L2.T->Prop}(h:q[i]?.bind Sl.get=Z t)(hq:Q t):aM i q Q:=by
 unfold aM;cases e:q[i]? with
 |none=>rw[e]at h;cases h
 |some s =>
  rw[e]at h;cases s with
  |no=>cases h
  |o x=>cases h;exact hq
  |r x=>cases h;exact hq
theorem MB{i:Nat}{Q:L2.T->Prop}(h1:q[i]?.bind Sl.get=Z (dT ds))(h2:q[j]?.bind Sl.get=Z (.s m))(hq:Q (.i ((lk ds m).getD 0))):Dp (aM i) (aM j) (qC (.i 0)) q Q:=by
 refine zk h1 ?_;refine zk h2 ?_;show Q ((bC (ds.map dEn) (.inr m)).getD (.i 0));rw[d5];cases h:lk ds m with
 |none=>rw[h]at hq;exact hq
 |some _=>rw[h]at hq;exact hq
inductive Ue(ts:List L2.T)(Q:L2.T->Prop):Prop
 |mk (o:Obj) (vs:List (Key×V)) (W:List Str) (p:Str->Int) (v:Vl) (h1:ts=[.fd o vs (W.map λm=>((.inr m:Key),L2.T.i (p m))),v.t]) (h2:W.Nodup) (h3:W.length<=100) (h4:v.ms.length<=500) (h5:Q (.i (W.map λm=>p m*cnt m v.ms).sum))
theorem mM(T:Txt K mg a):bf P w K mg base CX0 3 a.gE a.pX ["weights",Zl] (spQ K Ue):=by
 refine T.kl.F.okQ mh (λ_ _ _ _ _ _ hr=>?_)
 ·have hu:=bh hr;refine(_,_,((ag (aT (BE (MH (qv 0)))
 (aj (aE br))
 aF)
 (ag (aA 2 mh.nd (aJ (FW T) hr T.A0 (ae (qv 1) aw)))
 (aj (aE (bA (fT U U) kq ap T.wC bi (ae (Zc (bD U (Iq (qv 0)) (N':=["maker","weights","often"]) (.own U (.got (i:=0) U U (.inl U) (.got (i:=2) U U (.inl U) .nil))) (bx (g:=(Tg.nm 0)) (λ_ _ _ _ _=>((ck 0),(fA (cG (qv 1) (qv 0)) (xE hu (qv 2) (qv 0) ah))))))) aw))))))),λts Q h=>?_)
  let(o,vs,W,p,v,U,hW,hl,hv,hq):=h;refine aI (λg=>?_) λg=>?_
  ·have:W=[]:=by cases W with|nil=>rfl|cons _ _=>cases g
   subst this;exact hq
  ·refine(v,U,hv,?_);refine(bE (by rw[cO,cO];lia),λi ys=>ys=((W.take i).map λm=>p m*cnt m v.ms).map .i,U,?_,?_)
   ·rintro i y ys V rfl
    rw[rS,fy]at V;let(m,hm,U):=gs.mp V;have q:bC (W.map λm=>((.inr m:Key),L2.T.i (p m))) (.inr m)=Z (.i (p m)):=by
     have:=gV hm
     clear hm V hl hq g
     induction W with
     |nil=>cases this
     |cons x r ih =>
      have h':=uj.mp hW;unfold bC;rw[qS,vF];by_cases e:x=m
      ·subst e;rw[decide_eq_true rfl];rfl
      ·rw[decide_eq_false λz=>e (Sum.inr.inj z)]
       exact ih h'.2 ((kO.mp this).elim (λz=>absurd z.symm e) id)
    have c1:0<=cnt m v.ms/\cnt m v.ms<=500:=by
     unfold cnt
     have:=List.countP_le_length (p:=λy=>decide (y=m)) (l:=v.ms)
     lia
    refine(_,U,?_);refine(_,q,?_);refine MB (ds:=vx v.ms) (m:=m) U U ?_;rw[OA];refine(.inr (al,al),?_)
    rw[pM,hm,j3,j3];rfl
   ·rintro ys rfl
    rw[cO,cO,mu];exact(_,L2.ins_map _,hq)
def wgt(p:Fam->Int)(fam:Fam)(v:Vl):Int:=(v.ms.map λm=>p (fam++[.inr m])).sum
theorem LS{W ms:List Str}(Q:W.Nodup)(hm:∀m∈ms,m∈W)(p:Str->Int):((W.filter λm=>!decide (p m=0)).map λm=>p m*cnt m ms).sum=(ms.map p).sum:=by
 have f0:∀W:List Str,((W.filter λm=>!decide (p m=0)).map λm=>p m*cnt m ms).sum=(W.map λm=>p m*cnt m ms).sum:=by
  intro W
  induction W with
  |nil=>rfl
  |cons x r g =>
   by_cases z:p x=0
   ·rw[AL (z:),g,qS,CD,z,Int.zero_mul,W5]
   ·rw[vq (z:),qS,CD,g,qS,CD]
 rw[f0];clear f0;have q:∀W:List Str,(W.map λm=>p m*cnt m []).sum=0:=by
  intro W
  induction W with
  |nil=>rfl
  |cons x r g=>rw[qS,CD,g];show p x*0+0=0;rw[Int.mul_zero];rfl
 induction ms with
 |nil=>exact q W
 |cons y r g =>
  rw[qS,CD,<- g λm h=>hm m (j1 _ h)]
  have K:=hm y j2;clear g q hm;have P:∀m,cnt m (y::r)=cnt m r+if y=m then 1 else 0:=λm=>by
   unfold cnt;rw[Y1];by_cases e:y=m
   ·rw[if_pos e,if_pos (decide_eq_true e)];lia
   ·rw[if_neg e,if_neg (e:)];lia
  have no:∀W:List Str,y ∉ W->(W.map λm=>p m*cnt m (y::r)).sum=(W.map λm=>p m*cnt m r).sum:=by
   intro W
   induction W with
   |nil=>intro _;rfl
   |cons x t g =>
    intro h;rw[qS,CD,qS,CD,g λz=>h (j1 _ z),P,if_neg λz=>h (by rw[z];exact j2),Xs]
  induction W with
  |nil=>cases K
  |cons x t g =>
   have h':=uj.mp Q;rw[qS,CD,qS,CD,P];by_cases e:y=x
   ·subst e;rw[no t h'.1,Int.mul_add]
    lia
   ·rw[if_neg e,Xs,g h'.2 ((kO.mp K).elim (λz=>absurd z e) id)]
    lia
inductive CK:L2.T->List Vl->Prop
 |l{vs:List Vl}:CK (.l (vs.map Vl.t)) vs
 |t{vs:List Vl}:CK (.t (vs.map Vl.t)) vs
theorem CK.at{vs:List Vl}(h:CK A vs){i:Nat}{v:Vl}(hv:vs[i]?=Z v){Q:L2.T->Prop}(hq:Q v.t):qIx A (.i (i:Int)) Q:=by
 have e:atI (vs.map Vl.t) (i)=Z v.t:=bc (by rw[fy,hv];rfl)
 cases h
 ·exact(_,e,hq)
 ·exact(_,e,hq)
structure OU(ks:List Kd)(fs:List Fn)(kvs:List (List Key×V))(p:Fam->Int):Prop where
 par:∀(f:Nat)(fn:Fn)(k:Nat)(q:Str×Str),fs[f]?=Z fn->fn.1.2.1[k]?=Z q->∀m∈cy ks q.2 ks,bP kvs ([.inr "param",.inl (f:Int),.inl (k:Int)]++[.inr m])=Z (.int (p ([.inr "param",.inl (f:Int),.inl (k:Int)]++[.inr m])))
 res:∀(f:Nat)(fn:Fn),fs[f]?=Z fn->∀m∈cy ks fn.1.2.2 ks,bP kvs ([.inr "result",.inl (f:Int)]++[.inr m])=Z (.int (p ([.inr "result",.inl (f:Int)]++[.inr m])))
 fst:∀(f:Nat)(fn:Fn),fs[f]?=Z fn->bP kvs [.inr "first",.inl (f:Int)]=Z (.int (p [.inr "first",.inl (f:Int)]))
 lst:∀(f:Nat)(fn:Fn),fs[f]?=Z fn->bP kvs [.inr "last",.inl (f:Int)]=Z (.int (p [.inr "last",.inl (f:Int)]))
def qL(p:Fam->Int)(f:Nat):Nat->List Vl->Int
 |_,[]=>0
 |k,v::r=>wgt p [.inr "param",.inl (f:Int),.inl (k:Int)] v+qL p f (k+1) r
theorem wF:∀{k:Nat},qL p f k (vs++[v])=qL p f k vs+wgt p [.inr "param",.inl (f:Int),.inl ((k+vs.length:Nat):Int)] v:=by
 induction vs with
 |nil=>intro k;show _+0=0+_;rw[Xs,W5];rfl
 |cons q r g=>intro k;show _+qL p f (k+1) (r++[v])=(_+_)+_;rw[g,pq,show k+1+r.length=k+(r.length+1)by lia,YB]
structure Vk(ks:List Kd)(sc:Sc)(vs:List Vl):Prop where
 ln:vs.length=sc.length
 ok:∀(i:Nat)(v:Vl)(p:Str×Str),vs[i]?=Z v->sc[i]?=Z p->(∀m∈v.ms,m∈cy ks p.2 ks)/\v.ms.length<=400
inductive Na(ts:List L2.T)(Q:L2.T->Prop):Prop
 |mk(ks:List Kd)(fs:List Fn)(f:Nat)(fn:Fn)(kvs:List (List Key×V))(p:Fam->Int)(A:L2.T)(vs:List Vl)(h1:ts=[tPr ks fs,.fz (.dT kvs),iN f,A])(h2:Prog ks fs)(h3:fs[f]?=Z fn)(h4:OU ks fs kvs p)(h5:CK A vs)(h6:Vk ks fn.1.2.1 vs)(h7:Q (.i (p [.inr "first",.inl (f:Int)]+qL p f 0 vs)))
theorem GW{fam:Fam}{p:Fam->Int}{v:Vl}(gk:bw ks)(h:∀m∈cy ks k ks,bP kvs (fam++[.inr m])=Z (.int (p (fam++[.inr m]))))(hm:∀m∈v.ms,m∈cy ks k ks):((wBy ks kvs k fam).map λm=>pxE kvs fam m*cnt m v.ms).sum=wgt p fam v:=by
 unfold wBy;rw[LS (qT gk) hm]
 have:v.ms.map (pxE kvs fam)=v.ms.map λm=>p (fam++[.inr m]):=O0 λm g=>by unfold pxE plc;rw[h m (hm m g)]
 rw[this];rfl
theorem GX(gk:bw ks):(wBy ks kvs k fam).Nodup:=List.Nodup.sublist XU (qT gk)
theorem CO(gk:bw ks):(wBy ks kvs k fam).length<=100:=by
 have wl:=gk.wl (k:=k) λ_ h=>h
 have k2:=gk.k2;exact qR (O2 _ _) al
theorem JL(T:Txt K mg a):bf P w K mg base CX0 5 a.rQ a.Ep ["program","prices","f","args"] (spQ K Na):=by
 refine T.ET.F.okQ jv (λ_ _ _ _ _ _ hr=>?_)
 ·have hu:=bh hr;refine(_,_,((ag (aA 4 jv.nd (sO (kY hr) (qv 1) (Zc (aq (af aH (af (Zd (qv 2)) ai))))))
 (ag (bb (g:=(Tg.tp [5,6])) PassesOwn.never U (ku U T.bp bi (ae (ao (ao (ao (qv 0) ah) (qv 2)) ah) aw)) (cJ (aY 5 jv.nd) (aY 6 jv.nd))
 (aj (MK (i:=4) jv.nd (Zc (aJ (mM T) hr T.kl (ae (Zc (aJ (kR T) hr T.i8 (ae (qv 0) (ae (qv 1) (ae (ao (qv 6) ah) (ae (Zc (aO (af (aq (af (aq (af aH (af (Zd (qv 2)) (af (Zd (qv 5)) ai)))) (af br ai))) ai))) aw)))))) (ae (ao (qv 3) (qv 5)) aw)))))))
 (aj (aE (Zd (qv 4))))))),λts Q h=>?_)
  let(ks,fs,f,fn,kvs,p,A,vs,U,hP,hf,hp,hA,hv,hq):=h;have ef:atI (fs.map tF) (f:Int)=Z (tF fn):=bc (by rw[fy,hf];rfl)
  refine(U,([.inr "first",.inl (f:Int)],_),(U,hp.fst f fn hf),?_)
  refine(_,U,_,ef,_,U,aU d6 _,λc q=>Z2 λ(o5 o6:Sl)=>q=[.r (tPr ks fs),.r (.fz (.dT kvs)),.r (iN f),.r A,.o (.i (p [.inr "first",.inl (f:Int)]+qL p f 0 (vs.take c))),o5,o6],(_,_,by rw[show qL p f 0 (vs.take 0)=0 from U,Xs];rfl),?_,?_)
  ·rintro c y q hy ⟨o5,o6,rfl⟩
   let(z,hz,U):=bQ hy;rw[fy]at hz;let(pr,ak,U):=gs.mp hz;have av:=(g5.mp ak).1;have V:vs[c]?=Z (vs[c]'(by rw[hv.ln];exact av)):=dN _
   generalize vs[c]'(by rw[hv.ln];exact av)=v at V
   let(h1,h2):=hv.ok c v pr V ak;have ar:=hp.par f fn c pr hf ak;refine(_,U,_,U,_,U,U,U,ks,_,kvs,pr.2,[.inr "param",.inl (f:Int),.inl (c:Int)],U,hP.gk,(by show 3<=10;decide),λm hm=>(_,ar m hm),λo ay=>hA.at V (o,ay,_,pxE kvs _,v,U,GX hP.gk,CO hP.gk,al,?_))
   rw[GW hP.gk ar h1];refine(.r (.i c),.r (tP pr),?_);rw[pM,V];show _=[Sl.r (tPr ks fs),Sl.r (L2.T.fz (HO.dT kvs)),Sl.r (iN f),Sl.r A,Sl.o (.i (p [.inr "first",.inl (f:Int)]+qL p f 0 (vs.take c++[v]))),_,_]
   rw[wF,p7,OW (by rw[hv.ln];lia),Es,<- YB]
   rfl
  ·rintro q ⟨o5,o6,rfl⟩
   rw[aZ,cO,<- hv.ln,mu];exact(U,hq)
theorem OU.of{us:List Fam}{ns:List Int}(gk:bw ks)(K:Unk ks fs xs)(e:bL ks 0 xs=us.map cQ)(hl:us.length=ns.length)(z:fs ≠ []):OU ks fs (Nc us ns) (pz us ns):=by
 have nd:=S9 gk e;have mem:∀{u:Fam},cQ u∈bL ks 0 xs->u∈us:=λ{u} h=>by
  rw[e]at h;let(v,hv,P):=j0.mp h;rw[<- rE P];exact hv
 have val:∀{u:Fam},cQ u∈bL ks 0 xs->bP (Nc us ns) u=Z (.int (pz us ns u)):=λ{u} h=>JT nd hl (mem h)
 obtain⟨x0,g⟩:∃x,xs[0]?=Z x:=by
  have:xs.length=fs.length:=by rw[<- K.fn,cO]
  have:=O1.mpr z
  exact(_,dN al)
 have Y8:=UOk.of K g;refine(λf fn k q h1 h2 m hm=>val (Y8.par f fn k q h1 h2 m hm),λf fn h1 m hm=>val (Y8.res f fn h1 m hm),λf fn h1=>val (Y8.fst f fn h1),λf fn h1=>val (Y8.lst f fn h1))
structure Pap(ks:List Kd)(fs:List Fn)(xs:List (Fn×List (Option Str)))(us:List Fam)(ns:List Int):Prop where
 p:Prog ks fs
 u:Unk ks fs xs
 e:bL ks 0 xs=us.map cQ
 l:us.length=ns.length
inductive Rh(ts:List L2.T)(Q:L2.T->Prop):Prop
 |mk(ks:List Kd)(fs:List Fn)(xs:List (Fn×List (Option Str)))(us:List Fam)(ns:List Int)(parts:Int)(f:Nat)(fn:Fn)(A:L2.T)(vs:List Vl)(h1:ts=[tPr ks fs,.t [.i parts,.t (ns.map .i)],iN f,A])(h2:Pap ks fs xs us ns)(h3:fs[f]?=Z fn)(h4:CK A vs)(h5:Vk ks fn.1.2.1 vs)(h6:Q (.i (pz us ns [.inr "first",.inl (f:Int)]+qL (pz us ns) f 0 vs)))
theorem NO(T:Txt K mg a):bf P w K mg base CX0 9 a.yr a.KS ["program","paper","f","args"] (spQ K Rh):=by
 refine T.CJ.F.okQ Mu (λ_ _ _ _ _ _ hr=>?_)
 ·refine(_,_,((aj (aE (aJ (JL T) hr T.ET (ae (qv 0) (ae (Zc (aJ (mP T) hr T.kn (ae (qv 0) (ae (qv 1) aw)))) (ae (qv 2) (ae (qv 3) aw)))))))),λts Q h=>?_)
  let(ks,fs,xs,us,ns,parts,f,fn,A,vs,U,hp,hf,g,hv,hq):=h;exact(ks,fs,xs,us,parts,ns,U,hp.p,hp.u,hp.e,(ks,fs,f,fn,_,pz us ns,A,vs,U,hp.p,hf,.of hp.p.gk hp.u hp.e hp.l (λe=>by rw[e]at hf;cases hf),g,hv,hq))
inductive Dz(ts:List L2.T)(Q:L2.T->Prop):Prop
 |mk(ks:List Kd)(fs:List Fn)(xs:List (Fn×List (Option Str)))(us:List Fam)(ns:List Int)(parts:Int)(f:Nat)(fn:Fn)(v:Vl)(h1:ts=[tPr ks fs,.t [.i parts,.t (ns.map .i)],iN f,v.t])(h2:Pap ks fs xs us ns)(h3:fs[f]?=Z fn)(h4:(∀m∈v.ms,m∈cy ks fn.1.2.2 ks))(h5:v.ms.length<=500)(h6:Q (.i (pz us ns [.inr "last",.inl (f:Int)]+wgt (pz us ns) [.inr "result",.inl (f:Int)] v)))
theorem JH(T:Txt K mg a):bf P w K mg base CX0 9 a.rK a.Ej ["program","paper","f",Zl] (spQ K Dz):=by
 refine T.EO.F.okQ sD (λ_ _ _ _ _ _ hr=>?_)
 ·refine(_,_,((ag (aA 4 sD.nd (aJ (mP T) hr T.kn (ae (qv 0) (ae (qv 1) aw))))
 (ag (aA 5 sD.nd (aJ (kR T) hr T.i8 (ae (qv 0) (ae (qv 4) (ae (ao (ao (ao (qv 0) ah) (qv 2)) ah) (ae (Zc (aO (af (aq (af (aq (af aH (af (Zd (qv 2)) ai))) (af br ai))) ai))) aw))))))
 (aj (aE (aS (Zc (sO (kY hr) (qv 4) (Zc (aq (af aH (af (Zd (qv 2)) ai)))))) (Zc (aJ (mM T) hr T.kl (ae (qv 5) (ae (qv 3) aw)))))))))),λts Q h=>?_)
  let(ks,fs,xs,us,ns,parts,f,fn,v,U,hp,hf,hm,hl,hq):=h;have q:atI (fs.map tF) (f)=Z (tF fn):=bc (by rw[fy,hf];rfl)
  have Y8:=OU.of hp.p.gk hp.u hp.e hp.l (λe=>by rw[e]at hf;cases hf)
  refine(ks,fs,xs,us,parts,ns,U,hp.p,hp.u,hp.e,((_,U,_,q,_,U,U,ks,_,_,fn.1.2.2,[.inr "result",.inl (f:Int)],U,hp.p.gk,(by show 2<=10;decide),λm hm=>(_,Y8.res f fn hf m hm),λo g=>((U,([.inr "last",.inl (f:Int)],_),(U,Y8.lst f fn hf),o,g,_,pxE (Nc us ns) _,v,U,GX hp.p.gk,CO hp.p.gk,hl,?_)))))
  rw[GW hp.p.gk (Y8.res f fn hf) hm];exact hq
inductive Dy(ts:List L2.T)(Q:L2.T->Prop):Prop
 |mk(n:Int)(h1:ts=[.i n])(h2:Q (.b O))
theorem JG(T:Txt K mg a):bf P w K mg base CX0 1 a.rH a.Eh [Zu] (spQ K Dy):=by
 refine T.yM.F.okQ HJ (λ_ _ _ _ _ _ hr=>?_)
 ·have g:=bh hr;refine(_,_,((aj (aE (IA (Zc (bA (wq U) C7 ap T.nK bi (ae (qv 0) (ae (Zc (Pg (n:="int") U T.AB bi)) aw)))) (Iu (Qw (Zc (bA (wq U) C7 ap T.nK bi (ae (qv 0) (ae (Zc (Pg (n:="bool") U T.Sr bi)) aw)))))))))),λts Q h=>?_)
  let(n,U,hq):=h;exact(U,U,hq)
theorem deps{fs:List Fn}(q:cw ks (fs.map (·.1)) 0 [rtN f] L)(hd:Dep D f.2.1):∀e∈L,∃N,N+e.pa.length=D/\Dep N e.b:=by
 refine q.all (λn d j b am sc (N,z,g) hk=>?_) _ U λd h=>by
  rw[d2.mp h];exact(D,U,hd)
 cases N with
 |zero=>exact absurd g hk.tup
 |succ N=>exact(N,by show N+(d.pa++[_]).length=D;simp;lia,hk.dep g)
theorem G7(p:Prog ks fs)(hs:∀f∈fs,f.2.2<=100)(h3:fs.length<=3)(hd:∀f∈fs,Dep 20 f.2.1):∃xs zs,Unk ks fs xs/\Nds ks fs xs zs:=by
 have one:∀f∈fs,∃os L,Pre ks (fs.map (·.1)) 0 (rtN f) L/\L.length<=100/\nZ ks L os/\∀e∈L,e.pa.length<=20:=λf hf=>by
  let(hS,h5):=p.sn f hf;let(L,hR,ar):=hS.pre h5 0 .n .n [];have K:=by have:=cw.cons hR (.nil);rwa [qg]at this
  have ak:=K.asks _ U
  have:∀M,(∀e∈M,∃o,Ask ks e.sc e.b o)->∃os,nZ ks M os:=by
   intro M
   induction M with
   |nil=>intro _;exact([],U,λn e o h=>by simp at h)
   |cons e r V =>
    intro h;let(o,ho):=h e j2;let(os,h1):=V λe he=>h e (j1 _ he)
    refine(o::os,by simp[h1.ln],λn e' o' he q=>?_)
    cases n with
    |zero=>cases he;cases q;exact ho
    |succ n=>exact h1.ok n e' o' (he:) (q:)
  let(os,hA):=this L ak;exact(os,L,hR,qR ar (hs f hf),hA,λe he=>by let(N,hN,_):=deps K (hd f hf) e he;lia)
 have:∀Q,(∀g∈Q,g∈fs)->∃(xs:List (Fn×List (Option Str)))(zs:List (Fn×List Nod)),xs.map (·.1)=Q/\zs.map (·.1)=Q/\(∀x∈xs,∃L,Pre ks (fs.map (·.1)) 0 (rtN x.1) L/\L.length<=50000/\nZ ks L x.2)/\∀(i:Nat) x z,xs[i]?=Z x->zs[i]?=Z z->Pre ks (fs.map (·.1)) 0 (rtN z.1) z.2/\z.2.length<=100/\nZ ks z.2 x.2/\∀e∈z.2,e.pa.length<=20:=by
  intro Q
  induction Q with
  |nil=>intro _;exact([],[],U,U,(λ_ h=>nomatch h),λi x z h=>by simp at h)
  |cons g r V =>
   intro h;let(os,L,h1,ay,P,av):=one g (h g j2);let(xs,zs,h2,h3,h4,h5):=V λg hg=>h g (j1 _ hg)
   refine((g,os)::xs,(g,L)::zs,by simp[h2],by simp[h3],λx hx=>?_,λi x z hx hz=>?_)
   ·obtain rfl|hx:=kO.mp hx
    ·exact(L,h1,al,P)
    ·exact h4 x hx
   ·cases i with
    |zero=>cases hx;cases hz;exact(h1,ay,P,av)
    |succ i=>exact h5 i x z (hx:) (hz:)
 let(xs,zs,h1,h2,h3',h4):=this fs λ_ h=>h
 exact(xs,zs,(h1,h3'),(h2,h4,h3))
theorem Ask.det(gk:bw ks)(nd:(sc.map (·.1)).Nodup)(h:Ask ks sc b o)(e:b=t)(h':Ask ks sc t o'):o=o':=by
 cases h <;> cases h' <;> first|exact absurd (congrArg tgT e) (Nat.ne_of_beq_eq_false rfl)|simp[Fi,Fj]at e
 ·rfl
 ·rfl
 ·rename_i V _ _ _ _ g;let(U,U,U):=e;exact congrArg Z (dU nd V g)
 ·rename_i K hm _ _ _ _ _ Q z;let(U,P,e2,U):=e;exact congrArg (λk=>Z k.1) (tO gk K Q hm z P)
 ·rfl
 ·rename_i hx _ _ _ q;let(U,P):=e;exact congrArg Z (dU nd hx q)
theorem nZ.det(gk:bw ks)(nd:∀e∈L,(e.sc.map (·.1)).Nodup)(h:nZ ks L os)(h':nZ ks L g):os=g:=Xg (h.ln.trans h'.ln.symm) λi g1 g2=>by
 have hl:i<L.length:=by rw[<- h.ln];exact g1
 exact(h.ok i _ _ (dN hl) (dN g1)).det gk (nd _ (SK hl)) U (h'.ok i _ _ (dN hl) (dN g2))
structure nU(ks:List Kd)(fs fs':List Fn):Prop where
 ln:fs'.length=fs.length
 ok:∀(j:Nat)(f f':Fn),fs[j]?=Z f->fs'[j]?=Z f'->f'.1=f.1/\f'.2.2=f.2.2/\Snd ks (fs.map (·.1)) f.1.2.2 f.2.2 f.1.2.1 f'.2.1/\(∀M,Dep M f.2.1->Dep M f'.2.1)/\∃os,dQ ks (fs.map (·.1)) f.1.2.1 f.2.1 os/\dQ ks (fs.map (·.1)) f.1.2.1 f'.2.1 os
theorem nU.hd(h:nU ks fs fs'):fs'.map (·.1)=fs.map (·.1):=Xg (by simp[h.ln]) λj g1 g2=>by
 rw[cO]at g1 g2;rw[Xh,Xh];exact(h.ok j _ _ (dN g2) (dN g1)).1
theorem nU.old(h:nU ks fs fs')(hf:f'∈fs'):∃(j:Nat)(f:Fn),fs[j]?=Z f/\fs'[j]?=Z f':=by
 let(j,g,e):=qp hf;exact(j,fs[j]'(by rw[<- h.ln];exact g),dN _,by rw[dN g,e])
theorem nU.prog(h:nU ks fs fs')(p:Prog ks fs):Prog ks fs':=by
 refine(p.gk,by rw[h.ln];exact p.l8,?_,λf' hf=>?_,λf' hf=>?_,λf' hf=>?_)
 ·have e:=congrArg (List.map (·.1)) h.hd;rw[rS,rS]at e;have hn:=p.hn;rw[show fs'.map (·.1.1)=fs.map (·.1.1)from e];exact hn
 ·let(j,f,g,q):=h.old hf;let(z,_):=h.ok j f f' g q;rw[z];exact p.pk f (gV g)
 ·let(j,f,g,q):=h.old hf;let(z,P,K,_):=h.ok j f f' g q;rw[h.hd,z,P];exact(K,(p.sn f (gV g)).2)
 ·let(j,f,g,q):=h.old hf;exact(h.ok j f f' g q).2.2.2.1 _ (p.dp f (gV g))
theorem y2:∀{xs g:List (Fn×List (Option Str))}{i:Nat},g.length=xs.length->(∀(j:Nat)(x q:Fn×List (Option Str)),xs[j]?=Z x->g[j]?=Z q->q.1.1=x.1.1/\q.2=x.2)->bL ks i g=bL ks i xs
 |[],[],_,_,_=>rfl
 |[],_::_,_,h,_=>by cases h
 |_::_,[],_,h,_=>by cases h
 |x::xs,q::g,i,hl,h=>by
  show oq ks i q.1 q.2++bL ks (i+1) g=oq ks i x.1 x.2++bL ks (i+1) xs;let(h1,h2):=h 0 x q U U;rw[y2 (Nat.succ.inj hl) λj y z P K=>h (j+1) y z (P:) (K:)]
  unfold oq;rw[h1,h2]
theorem nU.unk(h:nU ks fs fs')(p:Prog ks fs)(P:Unk ks fs xs)(q:Unk ks fs' g):bL ks 0 g=bL ks 0 xs:=by
 have p':=h.prog p;have hn:((fs.map (·.1)).map (·.1)).Nodup:=by have:=p.hn;rwa [rS]
 have lx:xs.length=fs.length:=by rw[<- P.fn,cO]
 have K:g.length=fs'.length:=by rw[<- q.fn,cO]
 have one:∀{z:List Fn}{x:Fn×List (Option Str)}{os:List (Option Str)},Prog ks z->z.map (·.1)=fs.map (·.1)->x.1∈z->(∃L,Pre ks (z.map (·.1)) 0 (rtN x.1) L/\L.length<=50000/\nZ ks L x.2)->dQ ks (fs.map (·.1)) x.1.1.2.1 x.1.2.1 os->x.2=os:=λ{z x os} pg hg hx (L,h1,_,h3) hA=>by
  have Q:=by have:=cw.cons h1 (.nil);rwa [qg]at this
  have G:=Ad pg hx Q;rw[hg]at h1;exact h3.det p.gk (λe he=>(G e he).nd) (La p.gk hn h1 (pg.pk _ hx).2.2.1 hA)
 refine y2 (by rw[lx,K,h.ln]) λj x x' e1 e2=>?_
 have f1:fs[j]?=Z x.1:=by rw[<- P.fn,fy,e1];rfl
 have f2:fs'[j]?=Z x'.1:=by rw[<- q.fn,fy,e2];rfl
 let(V,z2,z3,z4,os,a1,a2):=h.ok j _ _ f1 f2;have q1:=one p U (gV f1) (P.ok x (gV e1)) a1;have q2:=one p' h.hd (gV f2) (q.ok x' (gV e2)) (by rw[V];exact a2)
 exact(V,q2.trans q1.symm)
inductive FH(ts:List L2.T)(Q:L2.T->Prop):Prop
 |mk(h1:ts=[.cB,.i 2,.i 6,.i 5])(h2:∀(ks:List Kd)(fs:List Fn)(xs:List (Fn×List (Option Str)))(us:List Fam)(ns:List Int)(parts:Int),Pap ks fs xs us ns->ig ks->fs ≠ []->fs.length<=2->us.length<=16000000->Q (.t [tPr ks fs,.q,.t [.i parts,.t (ns.map .i)]]))
theorem sz6:sz 6<=100:=be
theorem BY(T:Txt K mg a):bf P w K mg base CX0 100 a.kC a.wk [Zf,Zz,Zh,Zs] (spQ K FH):=by
 refine T.wK.F.okQ cc (λ_ _ _ _ _ _ hr=>?_)
 ·have hu:=bh hr;refine(_,_,((ag (aA 4 cc.nd (aJ (BX T) hr T.wJ (ae (qv 0) (ae (qv 1) (ae (qv 2) aw)))))
 (ag (aA 5 cc.nd (aJ (NK T) hr T.CH (ae (qv 4) aw)))
 (ag (aA 6 cc.nd (bW T.cK (ae (Zc (aJ (gA T) hr T.gp (ae (qv 4) aw))) aw)))
 (ag (aA 7 cc.nd (aS ah (Zc (aJ (fB (du T)) hr T.a5 (ae (qv 0) (ae (Zc (iI (aO (af br (af br ai))) (Zc (aJ (fB (du T)) hr T.a5 (ae (qv 0) (ae ah aw)))))) aw))))))
 (ag (aA 8 cc.nd (zi (aJ (vZ T) hr T.uR (ae (qv 0) (ae (qv 5) (ae (qv 7) (ae (Zc (Di (Dh (Zc (aO (af br ai))) (qv 6)))) (ae ah aw))))))))
 (ag (aT (bG sY me (bF _) (qv 8) (Zc cz))
 (ag (dY (i:=9) cc.nd U (Or.inl U) U (dZ (ao (qv 4) ah)) (N':=["_law_one"]) (.own U .nil) (bx (g:=(Tg.nm 0)) (λ_ _ _ _ _=>((ck 0),(aS (Zc (fh (qv 0) iH (fI ah))) (Zc (aq (af (aJ (qD T 92) hr T.eI (ae (ao (qv 0) ah) aw)) ai))))))))
 (ag (aA 4 cc.nd (aq (af (Zd (ao (qv 4) ah)) (af (aL (bK U) bS ap T.cH bi (ae (qv 9) aw)) ai))))
 (ag (aA 5 cc.nd (aJ (NK T) hr T.CH (ae (qv 4) aw)))
 (aj (aA 8 cc.nd (Di (Dh (Zc (aO (af br ai))) (qv 6))))))))
 aF)
 (ag (aA 8 cc.nd (aJ (FV T) hr T.AZ (ae (qv 0) (ae (qv 5) (ae (qv 7) (ae (qv 8) (ae (qv 3) aw)))))))
 (aj (aE (aq (af (Zd (qv 4)) (af (QPE.qn (qv 5)) (af (aq (af (Zd (qv 7)) (af (aL (bK U) Bl ap T.cH bi (ae (qv 8) aw)) ai))) ai)))))))))))))),λts Q h=>?_)
  let(U,hq):=h;refine(2,6,U,ac,ac,ac,ac,λks fs p gk aR hsz aP bp=>?_)
  let(xs,zs,hU,hN):=G7 p (λf hf=>qR (hsz f hf) sz6) (by have:fs.length<=2:=aP;lia) bp
  let(us,e1,e2):=LX (ks:=ks) (xs:=xs);have hC:PrC ks fs xs zs us:=(p,hU,hN,e1,λu hu=>(e2 u hu).1)
  have WQ:=hC.lus;refine(ks,fs,xs,zs,us,U,p,hU,hN,e1,(λu hu=>(e2 u hu).1),λys (rs,bj) c1=>?_)
  refine(ks,fs,xs,U,p,hU,?_);show _;rw[e1];refine(ac,ac,λr0 a0 b0=>?_)
  obtain⟨v0,cT,c2⟩:∃v:Int,atI [L2.T.i 1,.i 6] r0=Z (.i v)/\(v=1\/v=6):=by
   obtain rfl|rfl:=(by lia:r0=0\/r0=1)
   ·exact(1,U,.inl U)
   ·exact(6,U,.inr U)
  refine(_,cT,al,al,λpr q0 q1=>?_)
  have UN:0<us.length:=by
   obtain⟨f,r,rfl⟩:∃f r,fs=f::r:=by
    cases fs with
    |nil=>exact absurd U aR
    |cons f r=>exact(f,r,U)
   have hl:0<xs.length:=by
    have:=congrArg Ez hU.fn
    simp at this
    lia
   have:=(UOk.of hU (dN hl)).fst 0 f U
   rw[e1]at this;exact O1.mpr λe=>by rw[e]at this;cases this
  have er:tr (((us.map cQ).length:Int)).toNat (L2.T.i 0)=(tr us.length (0:Int)).map .i:=by rw[List.map_replicate,cO,Tn]
  have z0:∀y∈tr us.length (0:Int),0<=y/\y<=100000000000:=λy hy=>by rw[(List.mem_replicate.mp hy).2];exact(ac,ac)
  have V:(tr us.length (0:Int)).length=us.length:=XA;have rest:∀(fs':List Fn)(z:List (Fn×List (Option Str)))(ak:List L2.T)(aQ:List Row)(ns':List Int)(o9:Sl),Prog ks fs'->Unk ks fs' z->bL ks 0 z=us.map cQ->fs' ≠ []->fs'.length<=2->Rws ns'.length ak aQ->ns'.length=us.length->(∀y∈ns',0<=y/\y<=100000000000) ->
    jF (kG 8 (dq zr (aD (aM 0) (aD (aM 5) (aD (aM 7) (aD (aM 8) (aD (aM 3) cb)))))))
     (λD q=>iJ (aD (qIm (aM 4)) (aD (qQ (aM 5)) (aD (iJ (aD (qIm (aM 7)) (aD (qCB Dm (aD (aM 8) cb)) cb))) cb))) q D.rt) (dP.fn Q)
     [.r .cB,.r (.i 2),.r (.i 6),.r (.i 5),.o (tPr ks fs'),.o (.l ak),.o (.i ((us.map cQ).length:Int)),.o (.i (1+pr)),.o (.zl (ns'.map .i)),o9]:=by
   intro fs' z ak aQ ns' o9 p' av e' Kn ay hR cu hb;have cm:(tPr ks fs').im=true:=by
    show((tKs ks).im&&(L2.T.ims (fs'.map tF)&&O))=O;rw[iR,pB λf hf=>(p'.sn f hf).1.im];rfl
   refine(ak,aQ,1+pr,5,ns',U,hR,al,al,hb,al,al,ac,λa3 cL c3 _=>?_)
   exact(cm,U,jR a3,hq ks fs' z us a3 (1+pr) (p',av,e',by rw[cL,cu]) gk Kn ay al)
  refine(U,W7 _,?p1,?p2)
  case p1=>rw[cO];lia
  case p2 =>
   rw[er];refine(mE _,ys,_,1+pr,100000000000,24,tr us.length 0,_,U,U,by rw[V];exact bj,al,al,z0,ac,ac,by rw[V];lia,ac,?_,λns' ay cP _=>?_)
   ·have ct:∀f∈fs,f.2.1.im=true:=λf hf=>(p.sn f hf).1.im
    refine(_,U,bE (by rw[cO];have:=p.l8;lia),λi ys=>∃fs':List Fn,ys=fs'.map tF/\fs'.length=i/\∀(j:Nat)(f f':Fn),fs[j]?=Z f->fs'[j]?=Z f'->f'.1=f.1/\f'.2.2=f.2.2/\Snd ks (fs.map (·.1)) f.1.2.2 f.2.2 f.1.2.1 f'.2.1/\(∀M,Dep M f.2.1->Dep M f'.2.1)/\∃os,dQ ks (fs.map (·.1)) f.1.2.1 f.2.1 os/\dQ ks (fs.map (·.1)) f.1.2.1 f'.2.1 os,([],U,U,λj _ _ _ h=>by simp at h),?_,?_)
    ·rintro i y ys hy ⟨fs',rfl,hl,hF⟩
     rw[fy]at hy;let(f,hf,U):=gs.mp hy;have aV:=gV hf;have cf:L2.T.ims [L2.T.s f.1.1,.t (f.1.2.1.map tP),.s f.1.2.2,f.2.1]=true:=by
      show(O&&(L2.T.ims (f.1.2.1.map tP)&&(O&&(f.2.1.im&&O))))=O;rw[aU d6,ct f aV];rfl
     have cg:L2.T.ims [L2.T.s f.1.1,.t (f.1.2.1.map tP),.s f.1.2.2]=true:=by
      show(O&&(L2.T.ims (f.1.2.1.map tP)&&(O&&O)))=O;rw[aU d6];rfl
     refine(_,U,cf,_,U,ks,fs.map (·.1),f.1.2.2,f.2.2,f.1.2.1,f.2.1,U,p.gk,(p.sn f aV).1,p.dp f aV,λb' h1 h2 h3=>?_)
     refine((by show 4<=kf;decide),cg,(by show(b'.im&&O)=O;rw[h1.im];rfl),fs'++[(f.1,b',f.2.2)],by rw[j3];rfl,by rw[i5,hl];rfl,λj a1 a2 q1 q2=>?_)
     by_cases hj:j<fs'.length
     ·rw[ui hj]at q2;exact hF j a1 a2 q1 q2
     ·rw[uD al]at q2
      have:j=fs'.length:=by
       have:=(g5.mp q2).1
       simp at this
       lia
      subst this;rw[XW]at q2;cases q2;rw[hl,hf]at q1;cases q1;exact(U,U,h1,h2,h3)
    ·rintro ak ⟨fs',rfl,hl,hF⟩
     rw[cO]at hl;have FS:nU ks fs fs':=(hl,hF);have p':=FS.prog p;have Kn:fs' ≠ []:=λe=>aR (uC.mp (by rw[<- hl,e];rfl))
     let(z,bM,av,cS):=G7 p' (λf' ar=>by
      let(j,f,g0,g1):=FS.old ar;rw[(hF j f f' g0 g1).2.1];exact qR (hsz f (gV g0)) sz6) (by have:fs.length<=2:=aP;lia) λf' ar=>by
      let(j,f,g0,g1):=FS.old ar;exact(hF j f f' g0 g1).2.2.2.1 _ (bp f (gV g0))
     have eU:=(FS.unk p hU av).trans e1;refine(_,U,iR ks,pB λf' ar=>(p'.sn f' ar).1.im,?_)
     refine(ks,fs',z,bM,us,U,p',av,cS,eU,(λu hu=>(e2 u hu).1),λbN (c0,V6) _=>?_)
     refine(U,W7 _,?q1,?q2)
     case q1=>rw[cO];lia
     case q2 =>
      rw[er];exact(mE _,rest fs' z bN _ (tr us.length 0) _ p' av eU Kn (by rw[hl];exact aP) (by rw[V];exact V6) V z0)
   ·exact(mE ns',rest fs xs ys _ ns' _ p hU e1 aR aP (by rw[ay,V];exact bj) (by rw[ay,V]) cP)
structure WD(ks:List Kd)(fs:List Fn)(us:List Fam):Prop where
 par:∀(f:Nat)(fn:Fn)(k:Nat)(q:Str×Str),fs[f]?=Z fn->fn.1.2.1[k]?=Z q->∀m∈cy ks q.2 ks,([.inr "param",.inl (f:Int),.inl (k:Int)]++[.inr m]:Fam)∈us
 res:∀(f:Nat)(fn:Fn),fs[f]?=Z fn->∀m∈cy ks fn.1.2.2 ks,([.inr "result",.inl (f:Int)]++[.inr m]:Fam)∈us
 fst:∀(f:Nat)(fn:Fn),fs[f]?=Z fn->([.inr "first",.inl (f:Int)]:Fam)∈us
 lst:∀(f:Nat)(fn:Fn),fs[f]?=Z fn->([.inr "last",.inl (f:Int)]:Fam)∈us
theorem Pap.m{xs:List (Fn×List (Option Str))}{us:List Fam}{ns:List Int}(hp:Pap ks fs xs us ns)(z:fs ≠ []):WD ks fs us:=by
 have mem:∀{u:Fam},cQ u∈bL ks 0 xs->u∈us:=λ{u} h=>by
  rw[hp.e]at h;let(v,hv,K):=j0.mp h;rw[<- rE K];exact hv
 obtain⟨x0,g⟩:∃x,xs[0]?=Z x:=by
  have:xs.length=fs.length:=by rw[<- hp.u.fn,cO]
  have:=O1.mpr z
  exact(_,dN al)
 have Y8:=UOk.of hp.u g;exact(λf fn k q h1 h2 m hm=>mem (Y8.par f fn k q h1 h2 m hm),λf fn h1 m hm=>mem (Y8.res f fn h1 m hm),λf fn h1=>mem (Y8.fst f fn h1),λf fn h1=>mem (Y8.lst f fn h1))
inductive Jc(ts:List L2.T)(Q:L2.T->Prop):Prop
 |mk(ks:List Kd)(fs:List Fn)(xs:List (Fn×List (Option Str)))(us:List Fam)(ns:List Int)(parts:Int)(f:Nat)(fn:Fn)(h1:ts=[.cB,tPr ks fs,.t [.i parts,.t (ns.map .i)],iN f])(h2:Pap ks fs xs us ns)(h3:ig ks)(h4:fs[f]?=Z fn)(h5:Q (.b O))
theorem JI(T:Txt K mg a):bf P w K mg base CX0 30 a.rN a.Em [Zf,Zt,ZE,Zi] (spQ K Jc):=by
 refine T.ER.F.okQ cI (λ_ _ _ _ _ _ hr=>?_)
 ·have hu:=bh hr;refine(_,_,((ag (aA 4 cI.nd (aJ (gA T) hr T.gp (ae (qv 1) aw)))
 (ag (aA 5 cI.nd (aJ (NP T) hr T.LD (ae (qv 0) (ae (qv 1) (ae (qv 3) (ae ah aw))))))
 (ag (aT (bG mL js (bF _) (qv 5) (Zc cz))
 (ag (aA 6 cI.nd (Zd (ao (ao (qv 2) ah) (Zc (oQ (kY hr) (qv 4) (Zc (aq (af aH (af (Zd (qv 3)) ai)))))))))
 (ag (bb (g:=(Tg.tp [7,8])) PassesOwn.never U (sN (i:=5) U T.bp bi (pv 5)) (cJ (aY 7 cI.nd) (aY 8 cI.nd))
 (aj (aA 6 cI.nd (aS (qv 6) (Zc (aJ (FT T) hr T.uL (ae (qv 4) (ae (ao (qv 2) ah) (ae (Zc (aq (af aH (af (Zd (qv 3)) (af (Zd (qv 7)) ai))))) (ae (qv 8) aw))))))))))
 (ag (aA 9 cI.nd (aJ (NO T) hr T.CJ (ae (qv 1) (ae (qv 2) (ae (qv 3) (ae (ao (MO (ae (qv 5) (ae (Zc (aL (bK U) bS ap T.cH bi (ae (qv 5) aw))) aw))) (Zc (aJ (fB (du T)) hr T.a5 (ae (qv 0) (ae ah aw))))) aw))))))
 (aj (aT (QPW.pt (De (BE (fX (Zc (aJ (JG T) hr T.yM (ae (qv 9) aw))))) (De (bG DH wY (bF _) (qv 9) (qv 6)) (Ik (bG DH wY (bF _) (Zc (aJ (NO T) hr T.CJ (ae (qv 1) (ae (qv 2) (ae (qv 3) (ae (qv 5) aw)))))) (qv 6))))))
 (aj (aE Dk))
 aF)))))
 aF)
 (ag (aA 10 cI.nd (aJ (zL T) hr T.yN (ae (ao (qv 1) ah) aw)))
 (ag (aT (bG (vW hu) mf U (ao (ao (ao (qv 1) ah) (qv 3)) ah) (qv 10))
 (aj (aE Dk))
 aF)
 (ag (aA 8 cI.nd (aJ (zI T 24) hr T.rT (ae (qv 0) (ae (ao (qv 1) ah) (ae (qv 10) (ae (ao (ao (ao (qv 1) ah) (qv 3)) ah) (ae (Zc (aJ (fB (du T)) hr T.a5 (ae (qv 0) (ae ah aw)))) aw)))))))
 (ag (aA 6 cI.nd (aS (ao (ao (qv 2) ah) (Zc (oQ (kY hr) (qv 4) (Zc (aq (af aH (af (Zd (qv 3)) ai))))))) (Zc (aJ (FT T) hr T.uL (ae (qv 4) (ae (ao (qv 2) ah) (ae (Zc (aq (af aH (af (Zd (qv 3)) ai)))) (ae (qv 8) aw))))))))
 (ag (aA 9 cI.nd (aJ (JH T) hr T.EO (ae (qv 1) (ae (qv 2) (ae (qv 3) (ae (qv 8) aw))))))
 (aj (aE (IA (Zc (aJ (JG T) hr T.yM (ae (qv 9) aw))) (Iu (jE (xR hu U) qW (bF _) (qv 9) (qv 6))))))))))))))),λts Q h=>?_)
  let(ks,fs,xs,us,ns,parts,f,fn,U,hp,gk,hf,hq):=h;have aP:fs ≠ []:=λe=>by rw[e]at hf;cases hf
  have M:=hp.m aP;have ef:atI (fs.map tF) (f:Int)=Z (tF fn):=bc (by rw[fy,hf];rfl)
  have at_:∀{u:Fam},u∈us->∃j:Nat,us.findIdx? (λg=>decide (g=u))=Z j/\atI (ns.map L2.T.i) (j:Int)=Z (.i (pz us ns u)):=λ{u} h=>by
   let(j,hj,hl):=Cd h;have hl:j<ns.length:=by have:=hp.l;lia
   refine(j,hj,bc ?_);unfold pz;rw[hj,fy,dN hl];simp[hl]
  have rest:∀(o5 o6 o7 o8 o9:Sl),jF (kG 10 (dq DA (aD (qOp qIx (aM 1) (qC (L2.T.i 0))) cb)))
    (jF (BK (kQ (qOp (IL O) (qOp qIx (qOp qIx (qOp qIx (aM 1) (qC (L2.T.i 1))) (aM 3)) (qC (L2.T.i 2))) (aM 10))) (λD q=>qC (L2.T.b O) q D.rt) vQ)
     (jF (kG 8 (dq (Pp 24) (aD (aM 0) (aD (qOp qIx (aM 1) (qC (L2.T.i 0))) (aD (aM 10) (aD (qOp qIx (qOp qIx (qOp qIx (aM 1) (qC (L2.T.i 1))) (aM 3)) (qC (L2.T.i 2))) (aD (dq oU (aD (aM 0) (aD (qC (L2.T.i 20)) cb))) cb)))))))
      (jF (kG 6 (qOp kH (qOp qIx (qOp qIx (aM 2) (qC (L2.T.i 1))) (Pl (aM 4) (iJ (aD (qC (L2.T.s "last")) (aD (qIm (aM 3)) cb)))))
        (dq zq (aD (aM 4) (aD (qOp qIx (aM 2) (qC (L2.T.i 1))) (aD (iJ (aD (qC (L2.T.s "result")) (aD (qIm (aM 3)) cb))) (aD (aM 8) cb)))))))
       (jF (kG 9 (dq Dz (aD (aM 1) (aD (aM 2) (aD (aM 3) (aD (aM 8) cb))))))
        λD q=>IM (dq Dy (aD (aM 9) cb)) (qOp BL (aM 9) (aM 6)) q D.rt)))) (dP.fn Q)
    [.r .cB,.r (tPr ks fs),.r (.t [.i parts,.t (ns.map .i)]),.r (iN f),.o (.l (us.map cQ)),o5,o6,o7,o8,o9,.no]:=by
   intro o5 o6 o7 o8 o9;refine(_,U,ks,U,gk,λds hI=>?_)
   cases V:lk ds fn.1.2.2 with
   |none =>
    have av:(!(bC (ds.map dEn) (.inr fn.1.2.2)).isSome)=true:=by rw[d5,V];rfl
    exact(_,U,_,ef,_,U,aI (λ_=>hq) λz=>absurd av z)
   |some u =>
    have av:¬(!(bC (ds.map dEn) (.inr fn.1.2.2)).isSome)=true:=by rw[d5,V];exact λz=>nomatch z
    let(u1,u2):=hI.bd _ (gS V);have b3:=yD (hI.len gk);have b4:bnd 3=21:=rfl;dsimp only at u1 u2;refine(_,U,_,ef,_,U,aI (λz=>absurd z av) λ_=>?_)
    refine(_,U,_,U,_,ef,_,U,ac,ac,λr r0 r1=>(ks,ds,fn.1.2.2,r,u,U,gk,hI,V,al,al,ac,λt h1 h2=>?_))
    have t1:=se (a:=r.toNat) (b:=19) al
    have t2:tri 19=171:=rfl;let(j,hj,an):=at_ (M.lst f fn hf);refine(_,U,U,us,[.inr "last",.inl (f:Int)],j,U,U,hj,_,an,_,U,U,us,ns,[.inr "result",.inl (f:Int)],t,U,hp.l,(by show 2<=10;decide),al,λm hm=>M.res f fn hf m (h1 m hm),?_)
    refine(ks,fs,xs,us,ns,parts,f,fn,t,U,hp,hf,h1,al,?_)
    refine(_,U,U,?_);exact cast (congrArg (λb=>Q (L2.T.b b)) (decide_eq_true U).symm) hq
  refine(ks,fs,xs,U,hp.p,hp.u,?_);show _;rw[hp.e];refine(ks,fs,f,fn,U,hp.p,gk,hf,rest (.o .n) .no .no .no .no,λvs ar ak=>?_)
  let(j,hj,an):=at_ (M.fst f fn hf);refine(_,U,U,us,[.inr "first",.inl (f:Int)],j,U,U,hj,_,an,U,?_)
  refine(λc q=>Z2 λ(o7 o8:Sl)=>q=[.r .cB,.r (tPr ks fs),.r (.t [.i parts,.t (ns.map .i)]),.r (iN f),.o (.l (us.map cQ)),.r (.l (vs.map Vl.t)),.o (.i (pz us ns [.inr "first",.inl (f:Int)]+qL (pz us ns) f 0 (vs.take c))),o7,o8,.no,.no],(_,_,by rw[show qL (pz us ns) f 0 (vs.take 0)=0 from U,Xs];rfl),?_,?_)
  ·rintro c y q hy ⟨o7,o8,rfl⟩
   let(z,hz,U):=bQ hy;rw[fy]at hz;let(v,hv,U):=gs.mp hz;have aQ:=(g5.mp hv).1;have ay:fn.1.2.1[c]?=Z (fn.1.2.1[c]' al):=dN _
   let(h1,h2):=ak c v _ hv ay;refine(_,U,_,U,U,U,us,ns,[.inr "param",.inl (f:Int),.inl (c:Int)],v,U,hp.l,(by show 3<=10;decide),al,λm hm=>M.par f fn c _ hf ay m (h1 m hm),.r (.i c),.r v.t,?_)
   rw[pM,hv];show _=[Sl.r L2.T.cB,.r (tPr ks fs),.r (.t [.i parts,.t (ns.map .i)]),.r (iN f),.o (.l (us.map cQ)),.r (.l (vs.map Vl.t)),.o (.i (pz us ns [.inr "first",.inl (f:Int)]+qL (pz us ns) f 0 (vs.take c++[v]))),_,_,.no,.no]
   rw[wF,p7,OW al,Es,<- YB]
   rfl
  ·rintro q ⟨o7,o8,rfl⟩
   rw[aZ,cO,mu];refine(Vl.ims vs,ac,ac,λr r0 r1=>?_)
   obtain⟨A,hA,eA⟩:∃A,CK A vs/\atI [L2.T.l (vs.map Vl.t),.t (vs.map Vl.t)] r=Z A:=by
    obtain rfl|rfl:=(by lia:r=0\/r=1)
    ·exact(_,.l,U)
    ·exact(_,.t,U)
   refine(_,eA,ks,fs,xs,us,ns,parts,f,fn,A,vs,U,hp,hf,hA,(ar,ak),?_);have nn:∀n:Int,¬(!decide ((L2.T.i n).v=(L2.T.i n).v))=true:=λn z=>by rw[decide_eq_true rfl]at z;cases z
   refine(_,U,U,aI (λz=>absurd z (nn _)) λ_=>?_)
   exact(ks,fs,xs,us,ns,parts,f,fn,_,vs,U,hp,hf,.l,(ar,ak),U,aI (λz=>absurd z (nn _)) λ_=>rest _ _ _ _ _)
theorem Rv(T:Txt K mg a):bf P w K mg base CX0 110 a.wg a.PH [Zx] (so K):=by
 refine T.Vr.F.VZ (n:=4) (s1:=(cq pQ).headD (.Pass (0,0,0,0))) (rest:=(cq pQ).tail) oG U U (λ_ _ _ _ _ _ hr=>?_)
 have hu:=bh hr;refine(_,_,_,(jG (i:=1) oG.nd U (Or.inr U) (DF (NL T) (hr.mono ac) U T.yP.m T.yP.F.kp T.yP.b .nil Jv (bX (pv 0) (bX bV dC)))),((ag (lE (g:=(Tg.tp [2,3,4])) (Zc (aJ (BY T) hr T.wK (ae (qv 1) (ae ah (ae ah (ae ah aw)))))) (iL (K:=K) (n:=3) U U (bB (aY 2 oG.nd) (bB (aY 3 oG.nd) (bB (aY 4 oG.nd) iK)))))
 (ag (aA 5 oG.nd (BH U T.jZ U T.fe (Zc (bW T.cK (ae (ao (qv 2) ah) aw)))))
 (aj (aE (bA (kE U U) qX ap T.Ew bi (ae (Zc (bD U (eZ (Zc (aS (qv 5) (Zc (fh (qv 5) iH (fI ah)))))) (N':=[Zi,Zf,Zt,ZE]) (.own U (.got (i:=1) U U (.inl U) (.got (i:=2) U U (.inl U) (.got (i:=4) U U (.inl U) .nil)))) (bx (g:=(Tg.nm 0)) (λ_ _ _ _ _=>((ck 0),(aJ (JI T) hr T.ER (ae (qv 1) (ae (qv 2) (ae (qv 3) (ae (qv 0) aw)))))))))) aw))))))),λp0 ns D hS hlen k=>?_,λns hlen=>?_)
 ·refine(_,U,p0,ns,_,U,hS,hlen,ac,ac,λd l H1 fd fl D1 s1=>?_)
  exact k d l H1 fd fl D1 s1
 ·refine(U,λks fs xs us ns parts hp gk ak av ar=>?_)
  have V:(L2.T.t [tPr ks fs,L2.T.q,L2.T.t [L2.T.i parts,L2.T.t (ns.map .i)]]).im=true:=by
   show(((tKs ks).im&&(L2.T.ims (fs.map tF)&&O))&&(O&&((O&&(L2.T.ims (ns.map .i)&&O))&&O)))=O;rw[iR,pB λf hf=>(hp.p.sn f hf).1.im,jR];rfl
  have ll:((fs.map tF).length:Int)=(fs.length:Int):=by rw[cO]
  refine(V,_,U,_,U,fs.length,(ll,al),jR _,?_)
  have cm:∀y∈fj ((fi fs.length).map L2.T.i) Y (Z 1),y∈(fi fs.length).map L2.T.i:=λy Q=>Yx (Fs Q)
  have cl:(fj ((fi fs.length).map L2.T.i) Y (Z 1)).length<=fs.length:=by
   unfold fj;rw[p7,QX,cO];unfold fi;rw[cO,X8]
   omega
  have il:((fi fs.length).map L2.T.i).length=fs.length:=by rw[cO];unfold fi;rw[cO,X8]
  have ci:L2.T.ims (fj ((fi fs.length).map L2.T.i) Y (Z 1))=true:=Kf λy Q=>by
   let(z,_,U):=j0.mp (cm y Q);rfl
  refine(uE (aC al),jR _,ci,?_)
  refine(bE (by rw[i5];omega),λi ys=>ys=(tr i O).map .b,U,?_,?_)
  ·rintro i y ys Q rfl
   have Q:=gV Q;have Q:y∈(fi fs.length).map L2.T.i:=(i6.mp Q).elim id (cm y);let(z,hz,U):=j0.mp Q;unfold fi at hz;let(j,hj,U):=j0.mp hz;have hj:=SR.mp hj;refine(_,U,ks,fs,xs,us,ns,parts,j,fs[j],U,hp,gk,dN hj,?_);rw[List.replicate_succ',j3];rfl
  ·rintro ys rfl
   refine(_,nI id _,?_);show L2.T.b _=_;simp
end
theorem all_mk{l:W.OpenLaw}{w:Cl}{K:BT}{h:Do}{fa:J}(X:K.In h)(G:h.Ns mainGlobals mg)(hfa:mg "law"=Z (.ref fa))
  {aV:J} (Nt:W.nsIn K mainGlobals "Spot"=Z (Z (.ref aV))) (Nz:W.plainGet K aV Str.empty=O) (Ny:W.hasDictIn K aV=O) (Nx:W.plainOver K aV=O)
  (Nw:W.findIn K (.ref aV) "__setattr__"=Z (Z (.builtin "object.__setattr__"))) (Nv:W.makesIn K aV=O) (Nu:W.keepIn K (.ref aV)=O)
  (vf:bZ K aV "piece")
  (vg:bZ K aV "above")
  (zx:bZ K aV "arm")
  (xJ:DM K aV "__init__" "Spot.__init__" iy dJ)
  {aP:J} (Jw:W.nsIn K mainGlobals "Stand"=Z (Z (.ref aP))) (JC:W.plainGet K aP Str.empty=O) (JB:W.hasDictIn K aP=O) (JA:W.plainOver K aP=O)
  (Jz:W.findIn K (.ref aP) "__setattr__"=Z (Z (.builtin "object.__setattr__"))) (Jy:W.makesIn K aP=O) (Jx:W.keepIn K (.ref aP)=O)
  (BP:bZ K aP "f")
  (ve:bZ K aP "free")
  (sT:bZ K aP "spent")
  (sU:bZ K aP "kinds")
  (mI:bZ K aP "holdings")
  (vd:DM K aP "__init__" "Stand.__init__" gN dh)
  (zZ:DY K "makers_of" jz gH)
  (JZ:DY K "within" sE m9)
  (qF:DY K "reached_kinds" fu dw)
  (qG:DY K "kind_of_maker" fw dy)
  (zY:DY K "number_of" jy gG)
  (N3:DY K "spots" xk rL)
  (qE:DY K "spots_beneath" ft dv)
  (J4:DY K "pieces" sJ nj)
  (vn:DY K "kinds_ahead" gP fc)
  (Ca:DY K "bound_by" lC iX)
  (J2:DY K "stands" sH nh)
  (ph:DY K "stand_at_begin" eO df)
  (x9:DY K "stand_with" iE fM)
  (tJ:DY K "stand_behind" fV d8)
  (RC:DY K "uses" Bq yl)
  (x8:DY K "taken_free" iD fL)
  (B9:DY K "spent_by" lB iW)
  (B8:DY K "unknowns" lu iV)
  (vm:DY K "unknowns_of" gO fb)
  (pj:DY K "piece_unknowns" eQ dg)
  (RD:DY K "rows" Br ym)
  (B7:DY K "use_rows" lr iU)
  (J1:DY K "summed" sG ng)
  (z6:DY K "makers_in" jA gI)
  (J6:DY K "counts" sM nq)
  (RJ:DY K "asks" Bx yr)
  (N8:DY K "asked" xp rQ)
  (N2:DY K "tells" xj rK)
  (zX:DY K "prices_of" jx gF)
  (x6:DY K "weights_by" iC fK)
  (zW:DY K "weight_of" jw gE)
  (RG:DY K "_law_deal" Bu yp)
  (RF:DY K "_law_draw" Bt yo)
  (NZ:DY K "_law_words" xg rG)
  (N6:DY K "_law_kinds" xn rO)
  (RE:DY K "_law_fill" Bs yn)
  (N7:DY K "_law_ended" xo rP)
  (RH:DY K "_law_case" Bv yq)
  (RI:DY K "_law_body" Bw ub)
  (Gb:DY K "_law_program" oI kB)
  (NY:DY K "_law_wrong" xf rF)
  (J5:DY K "_law_mended" sL nk)
  (tL:DY K "_law_free_of_pays" fW d9)
  (J3:DY K "_law_raised" sI ni)
  (Gd:DY K "_law_papered" oJ kC)
  (N4:DY K "_law_sizes" xl rM)
  (N1:DY K "_law_value" xi rJ)
  (RK:DY K "_law_args" By yt)
  (J0:DY K "_law_weight" sF nc)
  (N0:DY K "_law_whole" xh rH)
  (N5:DY K "_law_right" xm rN)
  (PN:NI K "law" wg) (UC:LK K wg "law" "law" pQ VL VJ RQ Sh Rj Sx K4 Sj Vv) (Vb:CI K K4 "law") (UG:KI K wg)
  (S5:NB K "len")
  (S8:NB K "all")
  (PV:NB K "list")
  (LP:NB K "tuple")
  (S7:NB K "int")
  (PY:NB K "bool")
  (PX:NB K "dict")
  (A3:NB K "reversed")
  (S4:NB K "max")
  (S1:NB K "min")
  (S0:NB K "sum")
  (LQ:NB K "range")
  (wL:NB K "isinstance")
  (SY:NB K "zip")
  (yT:NB K "enumerate")
  (GR:NB K "sorted")
  {ie:J} {tQ:Array B} {JQ:Nat}
  (GU:W.nsIn K mainGlobals "PAYING"=Z (Z (.ref ie))) (GS:K.lookup ie=Z (.type "tuple",FY,.seq tQ JQ,Fb)) (yY:Vals ((["make","call","pay","give"]:List Str).map V.str) tQ.toList)
  : ∃fd:Ch,(∀(s:ϋ)(v:B),BindsTo s fd ([v],[]) [("_law_script",v)])/\∀base:Do,K.In base->base.Ns mainGlobals mg->bf l.prog w K mg base CX0 110 fa fd [Zx] (so K):=by
 have e:=hfa.symm.trans (W.mg_of X G PN);cases e;let(AI,_,qm):=zZ;let(Ld,_,AN):=JZ;let(qO,_,jh):=qF;let(qP,_,ji):=qG;let(AH,_,qj):=zY;let(OM,_,EG):=N3;let(qN,_,jg):=qE;let(Li,_,AV):=J4;let(vC,_,k9):=vn;let(CC,_,uK):=Ca;let(Lg,_,AR):=J2;let(pI,_,ij):=ph;let(yH,_,nT):=x9;let(uw,_,kh):=tJ;let(Sy,_,Lq):=RC;let(yG,_,nR):=x8;let(CB,_,uJ):=B9;let(CA,_,uI):=B8;let(vB,_,k8):=vm;let(pJ,_,ik):=pj;let(Sz,_,Lr):=RD;let(Cz,_,uH):=B7;let(Lf,_,AQ):=J1;let(AJ,_,qw):=z6;let(Lk,_,AX):=J6;let(SH,_,Ly):=RJ;let(OR,_,EL):=N8;let(OL,_,EF):=N2;let(AG,_,qi):=zX;let(yF,_,nQ):=x6;let(AF,_,qh):=zW;let(SE,_,Lv):=RG;let(SD,_,Lu):=RF;let(OH,_,EC):=NZ;let(OP,_,EJ):=N6;let(SA,_,Ls):=RE;let(OQ,_,EK):=N7;let(SF,_,Lw):=RH;let(SG,_,Lx):=RI;let(GF,_,wH):=Gb;let(OG,_,EB):=NY;let(Lj,_,AW):=J5;let(ux,_,kj):=tL;let(Lh,_,AU):=J3;let(GG,_,wI):=Gd;let(ON,_,EH):=N4;let(OJ,_,EE):=N1;let(SI,_,Lz):=RK;let(Le,_,AO):=J0;let(OI,_,ED):=N0;let(OO,_,EI):=N5;have PQ:=Cn UC Vb UG;let(j9,_,gM):=xJ;let(i4,_,fN):=vd;have T:Txt K mg (aV,dJ,_,aP,dh,_,gH,_,m9,_,dw,_,dy,_,gG,_,rL,_,dv,_,nj,_,fc,_,iX,_,nh,_,df,_,fM,_,d8,_,yl,_,fL,_,iW,_,iV,_,fb,_,dg,_,ym,_,iU,_,ng,_,gI,_,nq,_,yr,_,rQ,_,rK,_,gF,_,fK,_,gE,_,yp,_,yo,_,rG,_,rO,_,yn,_,rP,_,yq,_,ub,_,kB,_,rF,_,nk,_,d9,_,ni,_,kC,_,rM,_,rJ,_,yt,_,nc,_,rH,_,rN,_,wg,_,ie):=((Nz,Ny,Nx,Nw),W.mg_of X G Nt,(Nv,j9.1,j9.2,Nu),vf,vg,zx,gM,j9,gM.b4,(JC,JB,JA,Jz),W.mg_of X G Jw,(Jy,i4.1,i4.2,Jx),BP,ve,sT,sU,mI,fN,i4,fN.b6,(qm,W.mg_of X G AI,qm.b2),(AN,W.mg_of X G Ld,AN.b2),(jh,W.mg_of X G qO,jh.b2),(ji,W.mg_of X G qP,ji.b2),(qj,W.mg_of X G AH,qj.b2),(EG,W.mg_of X G OM,EG.b1),(jg,W.mg_of X G qN,jg.b2),(AV,W.mg_of X G Li,AV.b1),(k9,W.mg_of X G vC,k9.b2),(uK,W.mg_of X G CC,uK.b4),(AR,W.mg_of X G Lg,AR.b2),(ij,W.mg_of X G pI,ij.b2),(nT,W.mg_of X G yH,nT.b4),(kh,W.mg_of X G uw,kh.b5),(Lq,W.mg_of X G Sy,Lq.b4),(nR,W.mg_of X G yG,nR.b4),(uJ,W.mg_of X G CB,uJ.b1),(uI,W.mg_of X G CA,uI.b1),(k8,W.mg_of X G vB,k8.b3),(ik,W.mg_of X G pJ,ik.b2),(Lr,W.mg_of X G Sz,Lr.b1),(uH,W.mg_of X G Cz,uH.b4),(AQ,W.mg_of X G Lf,AQ.b2),(qw,W.mg_of X G AJ,qw.b1),(AX,W.mg_of X G Lk,AX.b1),(Ly,W.mg_of X G SH,Ly.b4),(EL,W.mg_of X G OR,EL.b4),(EF,W.mg_of X G OL,EF.b4),(qi,W.mg_of X G AG,qi.b2),(nQ,W.mg_of X G yF,nQ.b4),(qh,W.mg_of X G AF,qh.b2),(Lv,W.mg_of X G SE,Lv.b2),(Lu,W.mg_of X G SD,Lu.b2),(EC,W.mg_of X G OH,EC.b2),(EJ,W.mg_of X G OP,EJ.b2),(Ls,W.mg_of X G SA,Ls.b3),(EK,W.mg_of X G OQ,EK.b5),(Lw,W.mg_of X G SF,Lw.b5),(Lx,W.mg_of X G SG,Lx.b5),(wH,W.mg_of X G GF,wH.b3),(EB,W.mg_of X G OG,EB.b3),(AW,W.mg_of X G Lj,AW.b5),(kj,W.mg_of X G ux,kj.b1),(AU,W.mg_of X G Lh,AU.b5),(wI,W.mg_of X G GG,wI.b4),(EH,W.mg_of X G ON,EH.b1),(EE,W.mg_of X G OJ,EE.b5),(Lz,W.mg_of X G SI,Lz.b4),(AO,W.mg_of X G Le,AO.b4),(ED,W.mg_of X G OI,ED.b1),(EI,W.mg_of X G OO,EI.b4),(PQ,W.mg_of X G PN,PQ.b1),W.mg_none_of X G S5,W.mg_none_of X G S8,W.mg_none_of X G PV,W.mg_none_of X G LP,W.mg_none_of X G S7,W.mg_none_of X G PY,W.mg_none_of X G PX,W.mg_none_of X G A3,W.mg_none_of X G S4,W.mg_none_of X G S1,W.mg_none_of X G S0,W.mg_none_of X G LQ,W.mg_none_of X G wL,W.mg_none_of X G SY,W.mg_none_of X G yT,W.mg_none_of X G GR,W.mg_of X G GU,λ_=>.inr (_,_,_,GS,U,U,E9 yY,yY))
 exact(W.fnOf "law" "law" (dz pQ) (cq pQ) (ax pQ) .none RQ Sh Rj Sx K4 Sj,λs v=>.of_eq U,λbase _ _=>Rv T)
theorem walk{l:W.OpenLaw}{q:Da}{loose:List Str}{XP:(Str->Option B)->Do->Prop}{Q:Cl->Do->Prop}{d:DefRec}{K:Params->BT}(hn:l.most=Z 63)(g:d.params.defaults=[])
  (V:∀(w:Cl)(h:Do),Q w h->(K w.params).In h)
  (F:∀(w:Cl)(mg:Str->Option B)(P:J)(h:Do),(K w.params).In h->h.Ns mainGlobals mg->mg d.name=Z (.ref P) ->
   ∃fd:Ch,(∀(s:ϋ)(u:B),BindsTo s fd ([u],[]) [("_law_script",u)])/\∀base:Do,(K w.params).In base->base.Ns mainGlobals mg->bf l.prog w (K w.params) mg base CX0 110 P fd [Zx] (so (K w.params))):
  W.WalkO q loose XP Q l.row.toRowW d [] (λf vs=>PySem.call f vs):=
 L2.LU (n:=63) (k:=110) (x:="_law_script") (CX:=λ_=>CX0) (sp:=λw=>so (K w.params)) hn ac g (U,ac,ac) V F (λ_ _ a ns hl hO hS=>(a,ns,U,U2 hO hS,hl,λ_=>rfl)) λ_ _ _ _ _ z=>z
end K31
structure PySem.W.Fast where(tw10047981526553947417 tw10200244562476810402 tw10338568814304622150 tw1035883739639865955 tw10383351136156944523 tw10534487620667521051 tw10543881957703173609 tw10588761729502361584 tw10595762131045192468 tw10759509548815526126 tw10805695296216651463 tw10921882722772032103 tw11093261011248089796 tw11106847480874966726 tw11124161247275481478 tw11151208070303303276 tw11180040348248959578 tw11223595998405390295 tw11289838568750441743 tw11321284133281349958 tw11331809984496604670 tw11348731925467159580 tw11421361209106202711 tw11557883558999738190 tw11589848648682396318 tw1184555829618625274 tw1193524858627442367 tw11944479332543687257 tw11945690506865976778 tw12048819083108455423 tw12177368180711900289 tw12187081553336115318 tw12320777775835533949 tw12354338395468444769 tw12399602240841015903 tw12545736236366666562 tw12564668188150831702 tw12664803151471534558 tw12787365662849933421 tw12928063463020461431 tw13069980044644189875 tw13432864352303728841 tw13476022063659086355 tw13541744808201021404 tw1358385400370947758 tw13754145568776533134 tw13819750757201395462 tw13865054639875455341 tw13906152994962937524 tw13998177411465862718 tw14048638075855987932 tw14074001258171471631 tw14083986916215433144 tw14167898153267191920 tw14180346019699850739 tw14269359030164859140 tw14274623032433503892 tw14314248304299865266 tw14446371126374998462 tw14529865031196205619 tw14546741178317101800 tw14574138967800937606 tw14585614881562540867 tw14608559602460937678 tw1468008373444658629 tw147515942098763755 tw14760236651357304534 tw14764034278487616098 tw14780346481881630274 tw14852644413119490144 tw15159817995520692945 tw15172031946459539049 tw15175820810446517996 tw15179296428343044095 tw15207485524729599327 tw15518795970870900429 tw15533153852686382077 tw1573390611659002580 tw15767656256233817990 tw15790148080378415799 tw15817882795683140909 tw15826583728176695293 tw15966461984125257643 tw16202045780887334677 tw16261249609710164434 tw16266768150606491064 tw16295174612906137043 tw16525014511046610618 tw16597162931366742919 tw1660588184460370141 tw1697487707010764418 tw16990136521114869380 tw1705008432182292202 tw1710065013840617531 tw17112917001606460567 tw17247856774450853940 tw17277778321266677791 tw17365924260891167705 tw17673842407656549294 tw17729131704311477017 tw1779306544371915429 tw17800887333092456166 tw17805542489551673040 tw17872544219931229602 tw18000652725707771861 tw18093461052492789809 tw18286702542728507813 tw18373653242855066758 tw18382854503679675407 tw18438473298363577473 tw18446611428031337587 tw1847849592206918215 tw1901163648607462981 tw1910446763542366301 tw1917874316920221520 tw1978441334718860532 tw2100868690395123262 tw2252442038663581278 tw2282400345144074227 tw2282549364934643868 tw2291553563382520155 tw231311634519256826 tw2357766198850937614 tw2391229582096971066 tw246963950722832130 tw2500028165791038029 tw261313912234469071 tw2642542673800910590 tw2739777663413777933 tw2816307420699650876 tw2853459253460577086 tw2872930298343536102 tw2943995438395711618 tw3093373799837794297 tw3122002267326601712 tw3778789563323999872 tw4199198258565212379 tw4277532606334849402 tw4382321151841513777 tw4572287457150010827 tw4591892342401256928 tw4672760663819734666 tw4700907032170154061 tw4878017482196718328 tw5206649335498297974 tw5223614461570950515 tw5272437223741255436 tw5297491015366171927 tw5365957344443286003 tw5412116574885171425 tw5425597427250155166 tw5472441453593516586 tw559299846980295820 tw5640879010156143262 tw5646575551114905480 tw5667172884203222373 tw5695369397527873232 tw5730969272226604328 tw579956033774217487 tw5889897000705302425 tw589652031171334334 tw596565736468890871 tw5980790876001622729 tw6014630528840949875 tw6087694314435737855 tw6402511433625795085 tw6424724224950600694 tw6478859315117305886 tw6654733435241478806 tw6663622568728882393 tw6679581228611673972 tw669365208420559666 tw6709040741413985599 tw6728211008865655295 tw6788684169897077688 tw6842570833021603414 tw6888123401119422810 tw6955437348574126397 tw6999120803235359890 tw7021561710667115225 tw7044113969759938652 tw7259699339531215403 tw7387628787439561811 tw7441719798112225636 tw7555884909856960697 tw7673234947621258735 tw769847906917873967 tw7776039870481018236 tw7817406806210206680 tw7848284066464380784 tw7884455040668692361 tw789166355582644390 tw7941785107143847935 tw7949158810009352107 tw7975159429011686335 tw7980908458495792938 tw7990253910029516548 tw8005959988424817062 tw802548189522796455 tw8157736135263815043 tw817697479389804924 tw8183099592669748524 tw818991721317765209 tw8214341213817257651 tw8222865097172683768 tw8705538925562042219 tw8739871563769414887 tw8841388827692483329 tw8859085315202397544 tw8905513239396508040 tw8943155936164096807 tw9066527476763395551 tw9177959826862108479 tw9228863294330082357 tw9277891254813141486 tw9378701889267640570 tw9393479240946306571 tw9464968993162412446 tw9611404457916830184 tw9618457832900618446 tw9625815814517502068 tw9632002353862519846 tw964981429380041113 tw9675164899697346892 tw9786523651664317101 tw9804979726074906345 tw9843500768335127677:Nat)
open PySem PySem.W PyProof.Rows
set_option maxRecDepth 100000 in
set_option maxHeartbeats 0 in
theorem PySem.Challenge.cw_pursewright_k31_asked_and_told_holds : PySem.Challenge.rw_pursewright_k31_asked_and_told.Holds := by
 w_on;o_law;k_head;(case hw=>w_witness2)
 k_fill
 refine K31.walk (l:=PySem.Challenge.rw_pursewright_k31_asked_and_told) rfl rfl (fun w h Y=>PySem.W.kIn_of Y) ?F
 case F =>
  intro w mg fa h KX G hmg;refine' K31.all_mk KX G hmg ..
  all_goals try first|refine' L2.DY.of ?_ ?_ ?_ ?_|refine' L2.DM.of ?_ ?_ ?_ ?_ ?_
  all_goals try delta L2.NI L2.LK L2.CI L2.KI L2.NB L2.bZ
  all_goals try first|k_is|kernel_rfl|repeat (first|exact .nil|refine .cons ⟨_,rfl⟩ ?_)