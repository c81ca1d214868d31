import PyProof.Rows.All
import Wide.All
import OpenK.AllK
import Wide.FinOn
import Lean
import PyProof.EqAt
import PyProof.EqKinds
import PyProof.TupleCall
import PyProof.InstStoreFacts
import PySem.Challenge.RW_pursewright_k20_pieces_done
set_option Elab.async false
set_option linter.all false
set_option maxRecDepth 100000
local macro_rules|`(tactic|symm)=>`(tactic|exact ⟨rfl,rfl,rfl,by decide +kernel,rfl,by decide +kernel,by decide +kernel⟩)
open PySem renaming wpAny_bind→dD,starEach→kh,wpAny_pure→kL,sizeLine→mu,wpAny_call_entry→Es,wpAny_holding→Fq,plainId_quiet→Rn,wpAny_Call_Name_kw→TH,codeAny_builtin→U7,wpAny_specialOf→VP,wpAny_updateSeq→V1,wpAny_isInstance→V4,wpAny_typeOf→V7,wpAny_mono→V8,wpAny_rule→Wb,wpAny_attempt→Wf,wpAny_newObj_type→Wh,wpAny_of_eq→WB,sizeLine_eq→Xc,PassesOwn→XW
open List renaming length_map→ej,getElem?_eq_getElem→eO,mem_singleton→g5,mem_cons_self→jf,mem_cons_of_mem→j0,getElem?_map→j5,getElem?_eq_some_iff→kf,mem_cons→kz,nodup_nil→k4,mem_of_getElem?→px,length_append→pL,size_toArray→pM,mem_append_right→p5,mem_append→p7,mem_append_left→qF,length_cons→rl,mem_map→tE,append_nil→tG,take_length→tI,nodup_cons→u3,getElem?_append_left→u4,getElem?_append_right→vr,take_add_one→wh,map_cons→xY,lookup_cons→x3,map_append→zY,length_take→z7,replicate→BQ,getElem_of_mem→BR,not_mem_nil→B9,find?_cons→Dy,getElem?_set_ne→E3,nodup_append→Fj,append_eq_nil_iff→Fl,range→IK,getElem?_set_self→JF,all_eq_true→NM,length_zip→NN,getElem?_zip_eq_some→NO,length_set→NP,map_map→Qo,length_eq_zero_iff→Rj,cons_ne_nil→Rk,append_assoc→Rl,of_mem_zip→UU,mem_of_find?_eq_some→VS,length_reverse→VT,getElem?_eq_none→VX,length→V3,sum_cons→V5,reverse_cons→V6,mem_of_mem_take→Wg,length_pos_iff→Wi,mem_map_of_mem→Wj,perm_append_comm_assoc→Wl,any_cons→Wm,length_drop→Wo,any_eq_true→Wq,getElem_mem→Wr,getD_eq_getElem?_getD→Ws,lookup→Wu,take_sublist→Wv,mem_range→Wx,getElem?_replicate→Wy,append_cancel_left→Wz,eq_nil_of_length_eq_zero→WA,length_nil→WE,getElem?_toArray→WJ,getElem?_of_mem→WM,map_congr_left→WQ,forIn_cons→WR,mem_filterMap→WS,append_ne_nil_of_right_ne_nil→WV,findIdx?_eq_some_iff_getElem→WW,pairwise_map→WY,flatten_cons→WZ,take_append_drop→W2,set_getElem_self→W3,ext_getElem→W4,sublist_nil→W6,mem_flatten→W8,map_take→W9,dropLast_concat→Xa,take_append_of_le_length→Xb,mem_filter→Xd,find?_some→Xf,filterMap_cons→Xg,all_map→Xj,nodup_iff_pairwise_ne→Xl,zip_cons_cons→Xm,find?_eq_none→Xn,map_singleton→Xo,mem_or_eq_of_mem_set→Xp,sublist_append_right→Xq,any_eq_false→Xr,all_cons→Xt,map_drop→Xu,set_eq_of_length_le→Xv,cons_append→Xz,length_pos_of_mem→XA,any_map→XC,take_of_length_le→XE,length_singleton→XJ,dropLast_eq_take→XN,eq_nil_or_concat→XO,length_filter_le→XQ,mem_of_getLast?→XU,take_succ_cons→XX,flatMap_append→XY,flatten_append→XZ,pairwise_cons→Ya,findIdx?_cons→Yb,getElem?_drop→Yd,ext_getElem?→Yh,findIdx?_map→Yk,zip→Yl,set_set→Ym,find?_append→Yn,flatMap_cons→Yo,nodup_range→Yq,zipIdx_cons→Yr,map_fst_zip→Ys,perm_middle→Yu,getElem_map→Yv,append_inj'→Yw
open PySem.Heap renaming get?_push_of_some→j3,lt_size→kS,get?_push_size→p6,get?_update_other→z6,size_push→Fs,get?_update_self→Fv,SameBut→WC,ExtBut→XR,get?_push_cases→XS
open Option renaming map_eq_some_iff→kg,isSome_iff_exists→VY,isSome_map→WK,bind_eq_some_iff→Xy,map_eq_none_iff→XF,isSome_some→X5,toList_some→Yc,getD_none→Yp,getD_some→Yt
open Nat renaming le_refl→m9,ne_of_lt→ui,le_trans→xZ,lt_of_lt_of_le→zZ,zero_le→JG,le_of_lt→QH,ne_of_gt→QX,lt_succ_self→Wn,sub_self→WD,le_max_left→WG,lt_irrefl→WH,lt_of_sub_eq_succ→WI,lt_succ_of_lt→WL,lt_of_le_of_lt→WT,le_of_lt_succ→W0,le_of_not_lt→W7,add_le_add_left→Xh,lt_trans→Xi,sub_succ→Xk,lt_succ_iff_lt_or_eq→Xw,min_le_right→Xx,min_eq_left→XG,not_lt_zero→XI,sub_succ_lt_self→XT,sub_le→X4,mod_lt→X6,mod_mod_of_dvd→X7,lt_of_le_of_ne→Ye,min_self→Yj,lt_min→Yx
open Bool renaming false_ne_true→qE,and_eq_true→tD,false_eq_true→WU,and_false→WX,eq_iff_iff→Xe,false_or→X0,and_true→X1,eq_false_iff→Yg
open Int renaming le_refl→NL,toNat_of_nonneg→Wa,le_trans→Wc,add_zero→Ww,zero_add→WO,mul_le_mul_of_nonneg_right→W5,toNat_natCast→Xs,natCast_mul→XH,natCast_nonneg→X3,toNat_le→Yf
open Array renaming getElem?_eq_getElem→RK,length_toList→V9,getElem?_eq_none→Wk,getElem?_toList→XM,forIn_toList→X9,size_append→Yi
open PySem.Obj renaming mapSeq→Vc,data_mapFields→X8
open PySem.Around renaming under_plainId→WN
open Option renaming some→Z,none→Y
open Bool renaming true→O,false→ϊ
open PySem renaming Value→B,Addr→J,Shared→ϋ
def U:a=a:=rfl
open Lean in
def lp:Nat->Syntax->MacroM (TSyntax `rcasesPat)
|n+1,s=>match s with
 |`(($a,$b,*))=>do let c<-(#[a]++b.getElems).mapM λx=>lp n x;`(rcasesPat|⟨$[$c:rcasesPat],*⟩)
 |`(⟨$a,*⟩)=>do let c<-a.getElems.mapM λx=>lp n x;`(rcasesPat|⟨$[$c:rcasesPat],*⟩)
 |`($x:ident)=>let y:=if x.getId==`U then mkIdent `rfl else x;`(rcasesPat|$y:ident)
 |_=>`(rcasesPat|_)
|_,_=>`(rcasesPat|_)
local macro_rules|`(tactic|let $p:term:=$e)=>do`(tactic|obtain $(<-lp 9 p):rcasesPat:=$e)
local macro_rules|`(($a,$b,*))=>`(⟨$a,$b,*⟩)
open PySem.W renaming Frag→BT
open PySem renaming FuncData→Ch,World→Cl,Program→Da,Around→Db,Heap→Do,Expr→Ev,Stmt→EQ
local macro_rules|`(tactic|let $x:ident:=$e)=>`(tactic|have $x:ident:=$e)|`(tactic|let $x:ident:$t :=$e)=>`(tactic|have $x:ident:$t :=$e)
local macro_rules|`(let $x:ident:=$e;$b)=>`(have $x:ident:=$e;$b)|`(let $x:ident:$t :=$e;$b)=>`(have $x:ident:$t :=$e;$b)
open Lean in
local macro_rules|`(tactic|left)=>`(tactic|intro $(mkIdent `gV):ident $(mkIdent `s):ident $(mkIdent `σ):ident $(mkIdent `H):ident $(mkIdent `Q):ident $(mkIdent `I):ident $(mkIdent `h):ident)
open Lean in
local macro_rules|`(tactic|right)=>`(tactic|intro $(mkIdent `gV):ident $(mkIdent `s):ident $(mkIdent `σ):ident $(mkIdent `H):ident $(mkIdent `D):ident $(mkIdent `I):ident $(mkIdent `h):ident)
noncomputable section
set_option bootstrap.genMatcherCode false
set_option genSizeOf false
set_option genInjectivity false
namespace L2
open PySem PySem.Spec PyProof.Rows
inductive P3{A' B' C':Type}(P:A'->B'->C'->Prop):Prop
 |mk(a b c:_)(_:P a b c)
inductive Q4{A' B' C' D':Type}(P:A'->B'->C'->D'->Prop):Prop
 |mk(a b c d:_)(_:P a b c d)
inductive Y5{A' B' C' D' E':Type}(P:A'->B'->C'->D'->E'->Prop):Prop
 |mk(a b c d e:_)(_:P a b c d e)
inductive Y6{A' B' C' D' E' F':Type}(P:A'->B'->C'->D'->E'->F'->Prop):Prop
 |mk(a b c d e f:_)(_:P a b c d e f)
inductive Y7{A' B' C' D' E' F' G':Type}(P:A'->B'->C'->D'->E'->F'->G'->Prop):Prop
 |mk(a b c d e f g:_)(_:P a b c d e f g)
inductive Y8{A' B' C' D' E' F' G' H':Type}(P:A'->B'->C'->D'->E'->F'->G'->H'->Prop):Prop
 |mk(a b c d e f g h:_)(_:P a b c d e f g h)
inductive E11{A' B' C' D' E' F' G' H' I' J' K':Type}(P:A'->B'->C'->D'->E'->F'->G'->H'->I'->J'->K'->Prop):Prop
 |mk(a b c d e f g h i j k:_)(_:P a b c d e f g h i j k)
abbrev Key:=Sum Int Str
def vf:Key->B->Bool
 |.inl k,v=>B.isInt k v
 |.inr x,v=>B.isStrOf x v
def U3(w:Cl):Key->Int
 |.inl k=>hashInt k
 |.inr x=>hashStr w x
theorem cm:∀{k:Key}{v:B},vf k v=O->(∃i t,k=Sum.inl i/\v=B.int i t)\/(∃x t,k=Sum.inr x/\v=B.str x t)
 |.inl i,v,h=>by
  let(t,e):=B.isInt_shape h;exact .inl (i,t,U,e)
 |.inr x,v,h=>by
  let(t,e):=B.isStrOf_shape h;exact .inr (x,t,U,e)
def EL(i:Int)(t:Tok):vf (.inl i) (.int i t)=true:=by simp[vf,B.isInt]
def EK(x:Str)(t:Tok):vf (.inr x) (.str x t)=true:=by simp[vf,B.isStrOf]
def Qg(a b:Int):decide ((Sum.inl a:Key)=Sum.inl b)=(a==b):=by
 by_cases e:a=b
 ·subst e;simp
 ·let h:¬(Sum.inl a:Key)=Sum.inl b:=λq=>e (Sum.inl.inj q)
  rw[decide_eq_false h];exact(beq_eq_false_iff_ne.mpr e).symm
def Qd(a b:Str):decide ((Sum.inr a:Key)=Sum.inr b)=decide (a=b):=by
 by_cases e:a=b
 ·simp
 ·let h:¬(Sum.inr a:Key)=Sum.inr b:=λq=>e (Sum.inr.inj q)
  rw[decide_eq_false h,decide_eq_false e]
def Qf(a:Int)(b:Str):decide ((Sum.inl a:Key)=Sum.inr b)=false:=decide_eq_false (λq=>nomatch q)
def Qe(a:Str)(b:Int):decide ((Sum.inr a:Key)=Sum.inl b)=false:=decide_eq_false (λq=>nomatch q)
def bE(prog:Da)(w:Cl):PySem.KeyKind prog w Key where
 is:=vf
 hash:=U3 w
 inj:=λv a b ha q=>by
  obtain⟨i,t,rfl,rfl⟩|⟨x,t,rfl,rfl⟩:=cm ha
  ·obtain⟨j,u,rfl,e⟩|⟨y,u,rfl,e⟩:=cm q
   ·injection e with g _;rw[g]
   ·exact nomatch e
  ·obtain⟨j,u,rfl,e⟩|⟨y,u,rfl,e⟩:=cm q
   ·exact nomatch e
   ·injection e with g _;rw[g]
 byValue:=λk v h=>by
  obtain⟨i,t,rfl,rfl⟩|⟨x,t,rfl,rfl⟩:=cm h <;> rfl
 pyHash:=λhv h=>by
  obtain⟨i,t,rfl,rfl⟩|⟨x,t,rfl,rfl⟩:=cm hv
  ·exact wpAny_pyHash_int h
  ·exact wpAny_pyHash_str h
 eqBool:=λz hv h=>by
  obtain⟨i,t,rfl,rfl⟩|⟨x,t,rfl,rfl⟩:=cm z
  ·obtain⟨j,u,rfl,rfl⟩|⟨y,u,rfl,rfl⟩:=cm hv
   ·rw[Qg]at h;exact wpAny_eqBool_int h
   ·rw[Qf]at h;exact SeqAt.EqAt.int_str i t y u _ _ _ _ h
  ·obtain⟨j,u,rfl,rfl⟩|⟨y,u,rfl,rfl⟩:=cm hv
   ·rw[Qe]at h;exact SeqAt.EqAt.str_int x t j u _ _ _ _ h
   ·rw[Qd]at h;exact wpAny_eqBool_str h
 «strs»:=λk x t v h=>by
  obtain⟨i,u,rfl,e⟩|⟨y,u,rfl,e⟩:=cm h
  ·exact nomatch e
  ·injection e with g _
   subst g;cases v <;> rfl
def zf(prog:Da)(w:Cl)(i:Int)(t:Tok):(bE prog w).is (.inl i) (.int i t)=true:=EL i t
def ze(prog:Da)(w:Cl)(x:Str)(t:Tok):(bE prog w).is (.inr x) (.str x t)=true:=EK x t
set_option genInjectivity true in
inductive V where
 |non|bl (b:Bool)|int (i:Int)|str (x:Str)|byt (b:Array UInt8)|flt (b:UInt64)|ref (a:J)|ty (n:String)
 deriving DecidableEq
def RelV:V->B->Prop
 |.non,u=>u=B.none
 |.bl b,u=>u=B.bool b
 |.int i,u=>∃t,u=B.int i t
 |.str x,u=>∃t,u=B.str x t
 |.byt b,u=>∃t,u=B.bytes b t
 |.flt b,u=>∃t,u=B.float b t
 |.ref a,u=>u=B.ref a
 |.ty n,u=>u=B.type n
abbrev Vals:List V->List B->Prop:=Paired RelV
theorem Vals.length(r:Vals xs us):xs.length=us.length:=Paired.length r
theorem Vals.get:∀{xs:List V}{us:List B}{i:Nat}{x:V},Vals xs us->xs[i]?=Z x->∃u,us[i]?=Z u/\RelV x u
 |_,_,_,_,.nil,e=>by simp at e
 |_,_,0,_,.cons r _,e=>by simp at e;subst e;exact(_,U,r)
 |_,_,i+1,x,.cons _ t,e=>by
  let(u,h1,h2):=Vals.get t (by simpa using e)
  exact(u,by simpa using h1,h2)
theorem Vals.set(r:RelV x u):∀{xs:List V}{us:List B}(i:Nat),Vals xs us->Vals (xs.set i x) (us.set i u)
 |_,_,_,.nil=>.nil
 |_,_,0,.cons _ t=>.cons r t
 |_,_,i+1,.cons q t=>.cons q (Vals.set r i t)
variable{us:List B}
def Vals.append(h:Vals xs us)(s:Vals ys ws):Vals (xs++ys) (us++ws):=by
 induction h with
 |nil=>exact s
 |cons r _ g=>exact .cons r g
theorem Vals.take:∀{xs:List V}{us:List B}(n:Nat),Vals xs us->Vals (xs.take n) (us.take n)
 |_,_,0,_=>.nil
 |_,_,_+1,.nil=>.nil
 |_,_,n+1,.cons r t=>.cons r (Vals.take n t)
theorem Vals.drop:∀{xs:List V}{us:List B}(n:Nat),Vals xs us->Vals (xs.drop n) (us.drop n)
 |_,_,0,r=>r
 |_,_,_+1,.nil=>.nil
 |_,_,n+1,.cons _ t=>Vals.drop n t
def iD:Option V->Option B->Prop
 |some v,Z u=>RelV v u
 |none,Y=>True
 |_,_=>False
def KV{κ:Type}:List (κ×V)->List (κ×B)->Prop:=Paired λ(p:κ×V)(q:κ×B)=>p.1=q.1/\RelV p.2 q.2
def kV:Key->V
 |.inl i=>.int i
 |.inr x=>.str x
inductive HO where
 |lst(xs:List V)
 |tup(xs:List V)
 |dK(kvs:List (Key×V))|dT (kvs:List (List Key×V))
 |set(S:Int->Bool)(n:Nat)
 |ins(C dx:J)(fs:List (Str×V))
 |own(x:J)
 |xd(fs:List (Str×V))
 |room(x:Int)
 |met(f x:J)
 |rng(lo hi:Int)
 |frz(o:Obj)(u:HO)
 |tbl(ps:Array B)
 |ext(φ:Do->Prop)
abbrev Hp:=J->Option HO
def upd(H:Hp)(a:J)(o:HO):Hp:=λb=>if b=a then Z o else H b
variable{H:Hp}{a:J}
def aw:upd H a o a=Z o:=by unfold upd;rw[if_pos rfl]
def aj(h:b≠a):upd H a o b=H b:=by unfold upd;rw[if_neg h]
def pP:upd (upd H a o) a u=upd H a u:=by
 funext b;unfold upd;split <;> rfl
def il{o u:HO}(h:H a=Z o)(h':H b=Z u)(d:o≠u):a≠b:=by
 intro e;subst e;rw[h]at h';exact d (Option.some.inj h')
def bh{o:HO}(h:H a=Z o)(h':H b=Y):a≠b:=by
 intro e;subst e;rw[h]at h';cases h'
def lO(h:Do)(a:J)(items:Array B):Prop:=IsTup h a items/\∃o,h.get? a=Z o/\o.dict=Y
theorem lO.new(h:Do)(items:Array B):lO (h.push {cls:=.type "tuple",data:=.seq items}) h.objs.size items:=(IsTup.new _ _,_,p6 _ U,U)
section
variable(P:Da)(w:Cl)
def c7(H:Hp)(h:Do)(a:J):HO->Prop
 |.lst xs=>xs.length<=mu/\∃(its:List B)(n:Nat),Vals xs its/\h.get? a=Z {cls:=.type "list",data:=.seq its.toArray n}
 |.tup xs=>xs.length<=mu/\∃its:List B,Vals xs its/\lO h a its.toArray
 |.dK kvs=>kvs.length<=mu/\(a==sysModules)=ϊ/\∃vs,KV kvs vs/\h.DictOf (bE P w) a vs
 |.dT kvs=>kvs.length<=mu/\(a==sysModules)=ϊ/\∃xs:List (List Key×J×B),
   Paired (λ(p:List Key×V)(q:List Key×J×B)=>p.1=q.1/\H q.2.1=Z (.tup (p.1.map kV))/\RelV p.2 q.2.2) kvs xs /\
   ∃o es g,h.get? a=Z o/\o.ExactDict/\o.data=.dict es g/\es.toList=xs.map (entryOfKey (tupleKind (bE P w)))/\(xs.map (·.1)).Nodup
 |.set S n=>h.SetOf (intKind P w) a S n
 |.ins C dx fs=>H dx=Z (.own a)/\fs.length<=1000/\dx≠a/\h.get? a=Z (W.instObj C dx) /\
   ∃mA,h.Ns1 dx mA/\(∀f,iD (fs.lookup f) (mA f))/\PySem.Within mA (fs.map (·.1))
 |.own _=>∃o,h.get? a=Z o
 |.xd fs=>∃mA,h.Ns1 a mA/\∀f,iD (fs.lookup f) (mA f)
 |.room x=>∃(its:List B)(n:Nat),Vals [.int x] its/\h.get? a=Z {cls:=.type "list",data:=.seq its.toArray n}
 |.rng lo hi=>∃t u v,h.get? a=Z {cls:=.type "range",data:=.fields #[.int lo t,.int hi u,.int 1 v]}
 |.frz o u=>h.get? a=Z o/\c7 H h a u
 |.tbl ps=>h.get? a=Z {cls:=.none,data:=.fields ps}
 |.met f x=>h.get? a=Z (W.methodObj (.ref f) (.ref x))
 |.ext φ=>φ h/\(∃o,h.get? a=Z o)/\∀h1 h2:Do,φ h1->(∀o,h1.get? a=Z o->h2.get? a=Z o)->φ h2
def HOk(H:Hp)(h:Do):Prop:=∀a o,H a=Z o->c7 P w H h a o
end
section
variable{P:Da}{w:Cl}{H':Hp}{h h':Do}{o:HO}
theorem c7.lt(x:c7 P w H h a o):a<h.objs.size:=by
 cases o with
 |lst xs=>let(_,_,_,_,e):=x;exact kS e
 |tup xs=>let(_,_,_,p):=x;exact p.1.lt
 |dK kvs=>let(_,_,_,_,o,_,_,e,_):=x;exact kS e
 |dT kvs=>let(_,_,_,_,o,_,_,e,_):=x;exact kS e
 |set S n=>let(o,_,_,_,e,_):=x;exact kS e
 |ins C dx fs=>let(_,_,_,e,_):=x;exact kS e
 |own y=>let(_,e):=x;exact kS e
 |xd fs=>let(_,(_,_,_,e,_),_):=x;exact kS e
 |room x'=>let(_,_,_,e):=x;exact kS e
 |rng lo hi=>let(_,_,_,e):=x;exact kS e
 |frz ob u=>let(e,_):=x;exact kS e
 |tbl ps=>exact kS (x)
 |met f y=>exact kS (x)
 |ext φ=>let(_,(_,e),_):=x;exact kS e
def Paired.S0{F G:α->β->Prop}(r:Paired F q g)(f:∀a b,F a b->G a b):Paired G q g:=by
 induction r with
 |nil=>exact .nil
 |cons r _ z=>exact .cons (f _ _ r) z
def c7.cx(x:c7 P w H h a o)(k:∀b u,(b=a\/H b=Z (.own a))->h.get? b=Z u->h'.get? b=Z u)
  (ho:∀b,H b=Z (.own a)->H' b=Z (.own a)) (V:∀b xs,H b=Z (.tup xs)->H' b=Z (.tup xs)):c7 P w H' h' a o:=by
 induction o with
 |lst xs=>let(z,its,n,r,e):=x;exact(z,its,n,r,k _ _ (.inl U) e)
 |tup xs=>let(z,its,r,(ob,e,c),o2,K,d2):=x;exact(z,its,r,(ob,k _ _ (.inl U) e,c),o2,k _ _ (.inl U) K,d2)
 |dK kvs=>let(z,y,vs,r,ob,es,g,e,c):=x;exact(z,y,vs,r,ob,es,g,k _ _ (.inl U) e,c)
 |dT kvs =>
  let(z,y,xs,r,ob,es,g,e,c):=x;exact(z,y,xs,Paired.S0 r λp q z=>(z.1,V _ _ z.2.1,z.2.2),ob,es,g,k _ _ (.inl U) e,c)
 |set S n=>let(ob,es,g,t,e,c):=x;exact(ob,es,g,t,k _ _ (.inl U) e,c)
 |ins C dx fs =>
  let(d,z,ne,e,mA,(od,es,g,K,c),r):=x;exact(ho _ d,z,ne,k _ _ (.inl U) e,mA,(od,es,g,k _ _ (.inr d) K,c),r)
 |own y=>let(ob,e):=x;exact(ob,k _ _ (.inl U) e)
 |xd fs=>let(mA,(od,es,g,e,c),r):=x;exact(mA,(od,es,g,k _ _ (.inl U) e,c),r)
 |room x'=>let(t,u,v,e):=x;exact(t,u,v,k _ _ (.inl U) e)
 |rng lo hi=>let(t,u,v,e):=x;exact(t,u,v,k _ _ (.inl U) e)
 |frz ob u Q=>let(e,q):=x;exact(k _ _ (.inl U) e,Q q)
 |tbl ps =>
  let e:=x;exact k a _ (.inl U) e
 |met f y =>
  let e:=x;exact k a _ (.inl U) e
 |ext φ=>let(p,(o,e),st):=x;exact(st _ _ p λo q=>k _ _ (.inl U) q,(o,k _ _ (.inl U) e),st)
theorem HOk.lt(x:HOk P w H h)(e:H a=Z o):a<h.objs.size:=(x a o e).lt
def HOk.fresh(x:HOk P w H h)(e:h.objs.size<=a):H a=none:=by
 cases q:H a with
 |none=>rfl
 |some u=>exact absurd (zZ (x.lt q) e) (WH _)
def HOk.kept(x:HOk P w H h)(k:∀b u,h.get? b=Z u->h'.get? b=Z u):HOk P w H h':=λa o e =>
 (x a o e).cx (λb u _ q=>k b u q) (λ_ q=>q) λ_ _ q=>q
def HOk.laid(x:HOk P w H h)(k:∀b u,h.get? b=Z u->h'.get? b=Z u)(hp:h.objs.size<=a)(new:c7 P w (upd H a o) h' a o):HOk P w (upd H a o) h':=λb u e=>by
 let hn:=x.fresh hp;by_cases g:b=a
 ·subst g;rw[aw]at e;cases e;exact new
 ·rw[aj g]at e;exact(x b u e).cx (λc v _ q=>k c v q) (λc q=>by rw[aj (bh q hn)];exact q) λc xs q=>by rw[aj (bh q hn)];exact q
end
def Rd(H:Hp)(a:J)(u:HO):Prop:=H a=Z u\/∃o,H a=Z (.frz o u)
def Rd.of(h:H a=Z u):Rd H a u:=.inl h
variable{P:Da}
def Rd.ok(r:Rd H a u)(x:HOk P w H h):c7 P w H h a u:=by
 obtain r |⟨o,r⟩:=r
 ·exact x a u r
 ·let(_,q):=x a _ r;exact q
def Mut:Option HO->Prop
 |some (.lst _)=>True
 |some (.dK _)=>True
 |some (.dT _)=>True
 |some (.set _ _)=>True
 |some (.ins _ _ _)=>True
 |some (.ext _)=>True
 |some (.room _)=>True
 |_=>False
section
variable{w:Cl}{h h':Do}{x e:J}{o':HO}
def HOk.write(ok:HOk P w H h)(K:Mut (H x))(he:e=x\/H e=Z (.own x))(k:∀b u,b≠e->h.get? b=Z u->h'.get? b=Z u)(av:∃u,h'.get? e=Z u)
  (new:c7 P w (upd H x o') h' x o'):HOk P w (upd H x o') h':=λb u q=>by
 let SW:∀c y,H c=Z (.own y)->c≠x:=λc y r z=>by subst z;rw[r]at K;exact K
 let UQ:∀c xs,H c=Z (.tup xs)->c≠x:=λc xs r z=>by subst z;rw[r]at K;exact K
 by_cases V:b=x
 ·subst V;rw[aw]at q;cases q;exact new
 ·rw[aj V]at q;by_cases g:b=e
  ·let q':H b=Z (.own x):=by
    obtain z|z:=he
    ·exact absurd (g.trans z) V
    ·rw[g];exact z
   rw[q]at q';cases q';let(v,hv):=av;exact(v,by rw[g];exact hv)
  ·refine(ok b u q).cx (λc v Q r=>k c v ?_ r) (λc r=>by rw[aj (SW c b r)];exact r) λc xs r=>by rw[aj (UQ c xs r)];exact r
   obtain rfl|Q:=Q
   ·exact g
   ·rintro rfl
    obtain z|z:=he
    ·exact SW c b Q z
    ·rw[Q]at z;cases z;exact V U
end
structure Un(fs ex:List J)(H H':Hp)(h h':Do):Prop where
 keep:∀b o,h.get? b=Z o->H b=Y->b ∉ fs->b ∉ ex->h'.get? b=Z o
 slot:∀b o,h.get? b=Z o->H b=Y->b∈fs->b ∉ ex->∃sl,h'.get? b=Z {o with slots:=sl}
 free:∀b o,h.get? b=Z o->H b=Y->b ∉ ex->H' b=Y
 there:∀b o,h.get? b=Z o->b ∉ ex->∃o',h'.get? b=Z o'
 qK:∀b xs,H b=Z (.tup xs)->H' b=Z (.tup xs)
 lC:∀b o u,H b=Z (.frz o u)->H' b=Z (.frz o u)
 qL:∀b ps,H b=Z (.tbl ps)->∃more,H' b=Z (.tbl (ps++more))
section
variable{fs ex:List J}{H1:Hp}{h h1 h':Do}{x e:J}{o:HO}
def Un.any(u:Un fs ex H H1 h h1)(q:h.get? b=Z ob)(n:H b=Y)(hx:b ∉ ex):∃sl,h1.get? b=Z {ob with slots:=sl}:=by
 by_cases g:b∈fs
 ·exact u.slot b ob q n g hx
 ·exact(ob.slots,u.keep b ob q n g hx)
def Un.kept(k:∀b u,h.get? b=Z u->h'.get? b=Z u):Un fs ex H H h h' :=
 (λb ob q _ _ _=>k b ob q,λb ob q _ _ _=>(ob.slots,k b ob q),λ_ _ _ n _=>n,λb ob q _=>(ob,k b ob q),λ_ _ q=>q,λ_ _ _ q=>q,λ_ ps q=>(#[],by rw[q];simp))
def Un.refl:Un fs ex H H h h:=Un.kept λ_ _ q=>q
def Un.laid(k:∀b u,h.get? b=Z u->h'.get? b=Z u)(hp:h.objs.size<=a)(hn:H a=Y):Un fs ex H (upd H a o) h h' where
 keep:=λb u q _ _ _=>k b u q
 slot:=λb u q _ _ _=>(u.slots,k b u q)
 free:=λb u q n _=>by rw[aj (ui (zZ (kS q) hp))];exact n
 there:=λb u q _=>(u,k b u q)
 qK:=λb xs q=>by rw[aj (bh q hn)];exact q
 lC:=λb u xs q=>by rw[aj (bh q hn)];exact q
 qL:=λb ps q=>(#[],by rw[aj (bh q hn),q];simp)
def Un.write(K:Mut (H x))(he:e=x\/H e=Z (.own x))(k:∀b u,b≠e->h.get? b=Z u->h'.get? b=Z u)(P:∃u,h'.get? e=Z u):Un fs ex H (upd H x o) h h':=by
 let hx:∀b,H b=Y->b≠x:=λb n z=>by subst z;rw[n]at K;exact K
 let Q:∀b,H b=Y->b≠e:=λb n z=>by
  subst z;obtain r|r:=he
  ·exact hx b n r
  ·rw[n]at r;cases r
 let hm:∀b u,H b=Z u->¬ Mut (Z u)->b≠x:=λb u q nm z=>by subst z;rw[q]at K;exact nm K
 refine(λb u q n _ _=>k b u (Q b n) q,λb u q n _ _=>(u.slots,k b u (Q b n) q),λb u q n _=>by rw[aj (hx b n)];exact n,λb u q _=>?_,
  λb xs q=>by rw[aj (hm b _ q λz=>z)];exact q,λb u xs q=>by rw[aj (hm b _ q λz=>z)];exact q,λb ps q=>(#[],by rw[aj (hm b _ q λz=>z),q];simp))
 by_cases g:b=e
 ·subst g;exact P
 ·exact(u,k b u g q)
end
def trk(h:Do)(H:Hp):List Addr:=(IK h.objs.size).filter λa=>(H a).isSome
def zy(h:Do)(H:Hp):Do:=W.hideAll h (trk h H)
theorem ER(h:Do)(H:Hp):(zy h H).objs.size=h.objs.size:=W.hideAll_size _ _
theorem IJ{b:J}{o:Obj}(e:h.get? b=Z o)(n:H b=Y):(zy h H).get? b=Z o :=
 W.hideAll_get _ e λhm=>by
  let q:=(Xd.mp hm).2;rw[n]at q;simp at q
theorem MA(e:(zy h H).get? b=Z o):h.get? b=Z o/\H b=none:=by
 let e':=W.of_hideAll (trk h H) e;refine(e',?_);cases q:H b with
 |none=>rfl
 |some x =>
  let hm:b∈trk h H:=Xd.mpr (Wx.mpr (kS e'),by simp[q])
  let z:(zy h H).get? b=none:=W.hideAll_none (trk h H) hm;rw[z]at e;cases e
structure Mod(K:BT)(mg:Str->Option B)(base:Do):Prop where
 kin:K.In base
 glob:base.Ns mainGlobals mg
 blt:∃mb,base.Ns builtinsNs mb/\∀x:Str,x ≠ "__name__"->mb x=bootBuiltins x
 nolimit:base.NoLimit
structure Cx where
 prog:Da
 w:Cl
 K:BT
 mg:Str->Option B
 base:Do
 A:Db
 N:List Str
 s₀:ϋ
 H₀:Hp
 env:Env
 outer:List Env
 stack:List Env
 ex:List J
 fn:Str->Bool
 calm:Bool
 pn:List (J×Obj)
 xe:B->ϋ->Prop
abbrev Zc(X:Cx){α:Type}:=@wpAny α (model X.prog X.w) X.A
def frs(l:List Env):List Addr:=l.filterMap (·.frame)
abbrev Cx.fs(X:Cx):List Addr:=frs X.outer
def Vis(sc:Scope)(x:Str):Prop:=sc.names.lookup x=Z .local\/sc.names.lookup x=Z .cell\/sc.names.lookup x=Z .free
def Loc(sc:Scope)(x:Str):Prop:=sc.names.lookup x=Z .local\/sc.names.lookup x=Z .cell
def Look(env:Env)(h:Do)(m:Str->Option B)(x:Str)(u:B):Prop :=
 (env.kindOf x=Z .local/\m x=Z u)\/((env.kindOf x=Z .cell\/env.kindOf x=Z .free)/\∃c,env.cells.lookup x=Z c/\h.IsCell c (Z u))
structure Cx.Ok(X:Cx):Prop where
 mod:Mod X.K X.mg X.base
 kind:X.env.scope.kind=.function
 glob:X.env.globals=mainGlobals
 blt:X.env.builtins=builtinsNs
 above:X.s₀.heap.objs.size<=X.env.locals
 inj:∀x y c,X.env.cells.lookup x=Z c->X.env.cells.lookup y=Z c->x=y
 has:∀x,(X.env.kindOf x=Z .cell\/X.env.kindOf x=Z .free)->∃c,X.env.cells.lookup x=Z c
 cab:∀x c,X.fn x=O->X.env.cells.lookup x=Z c->X.s₀.heap.objs.size<=c
 hd:X.calm=O->X.A.handled=Y
 frames:X.A.frames=Z X.stack
 stk:X.stack=X.outer\/(X.stack=X.env::X.outer/\X.env.frame=Z X.env.locals)
 exf:∀b∈X.ex,b≠X.env.locals/\∀x c,X.env.cells.lookup x=Z c->c≠b
 bs:∀b o,X.base.get? b=Z o->X.s₀.heap.get? b=Z o/\X.H₀ b=Y
 bsz:X.base.objs.size<=X.s₀.heap.objs.size
 H0:∀b o,X.base.get? b=Z o->b ∉ X.ex
 Nh:∀b∈X.ex,b ∉ X.fs
 pC:X.s₀.heap.FunFrames X.base X.outer
 frf:∀b∈X.fs,X.H₀ b=Y
structure Inv(X:Cx)(gV:List (J×Obj))(σ:List (Option V))(H:Hp)(s:ϋ):Prop where
 ok:X.Ok
 os:s.os=X.s₀.os
 bare:AllBare s.gens
 base:Un X.fs X.ex X.H₀ H X.s₀.heap s.heap
 loc:∃m,s.heap.Ns X.env.locals m/\∀(i:Nat)(x:Str)(v:V),X.N[i]?=Z x->σ[i]?=Z (Z v)->Vis X.env.scope x->∃u,RelV v u/\Look X.env s.heap m x u
 cell:∀x c,X.env.cells.lookup x=Z c->∃v,s.heap.IsCell c v
 free:H X.env.locals=Y
 gx:∀x c,X.env.cells.lookup x=Z c->H c=Y
 pin:∀p∈X.pn++gV,s.heap.get? p.1=Z p.2/\H p.1=Y/\p.1≠X.env.locals/\p.1 ∉ X.fs/\∀v,p.2.data ≠ .cell v
 hok:HOk X.prog X.w H s.heap
 len:σ.length=X.N.length
variable{ch:List J}{t':Nat}{it:J}{N:List Str}{j:Nat}{x:Str}{u:B}{s':ϋ}
section
variable{X:Cx}{gV:List (J×Obj)}{σ:List (Option V)}{H':Hp}{s:ϋ}{h':Do}
def Cx.Ok.UT(ok:X.Ok)(e:X.base.get? b=Z o):b ∉ X.fs:=λg=>by
 have:=(ok.pC.mem g).1
 rw[e]at this;cases this
theorem Inv.bs(I:Inv X gV σ H s):∀b o,X.base.get? b=Z o->s.heap.get? b=Z o/\H b=none:=λb o e =>
 (I.base.keep b o (I.ok.bs b o e).1 (I.ok.bs b o e).2 (I.ok.UT e) (I.ok.H0 b o e),I.base.free b o (I.ok.bs b o e).1 (I.ok.bs b o e).2 (I.ok.H0 b o e))
def Inv.bk(I:Inv X gV σ H s):∀b o,X.base.get? b=Z o->s.heap.get? b=Z o:=λb o e=>(I.bs b o e).1
theorem Inv.mod(I:Inv X gV σ H s):Mod X.K X.mg X.base:=I.ok.mod
def Inv.kIn(I:Inv X gV σ H s):X.K.In s.heap:=I.ok.mod.kin.keeps I.bk
theorem Inv.lt(I:Inv X gV σ H s):X.env.locals<s.heap.objs.size:=let(_,hn,_):=I.loc;hn.lt
def Inv.sz(I:Inv X gV σ H s):X.s₀.heap.objs.size<=s.heap.objs.size:=xZ I.ok.above (QH I.lt)
def Inv.SX(I:Inv X gV σ H s)(h:s.heap.objs.size<=a):a ∉ X.fs:=λg=>by
 let(_,o,ho,_):=I.ok.pC.mem g;exact absurd (zZ (kS ho) (xZ I.sz h)) (WH _)
def Inv.cne(I:Inv X gV σ H s):∀x c,X.env.cells.lookup x=Z c->c≠X.env.locals:=λx c e z=>by
 let(v,o,ho,hd):=I.cell x c e;let(m,(o',es,K,g,q,_),_):=I.loc;rw[z,g]at ho;cases ho;rw[q]at hd;cases hd
theorem Inv.pC(I:Inv X gV σ H s):s.heap.FunFrames X.base X.outer:=by
 let all:∀l,(∀b∈frs l,b∈X.fs)->X.s₀.heap.FunFrames X.base l->s.heap.FunFrames X.base l:=by
  intro l
  induction l with
  |nil=>intro _ _;trivial
  |cons env r K =>
   intro hs hl;let(P,(L,o,hf,hn,ho,hd),hr):=hl;let q:=hs L (by unfold frs;rw[Xg,hf];exact jf)
   let(sl,e):=I.base.slot L o ho (I.ok.frf L q) q λz=>I.ok.Nh L z q
   exact(P,(L,_,hf,hn,e,hd),K (λb g=>hs b (by unfold frs;rw[Xg,hf];exact j0 _ g)) hr)
 exact all X.outer (λ_ g=>g) I.ok.pC
theorem Inv.stack(I:Inv X gV σ H s):s.heap.FunFrames X.base X.stack:=by
 obtain e |⟨e,hf⟩:=I.ok.stk
 ·rw[e];exact I.pC
 ·rw[e];let(m,hn,_):=I.loc;exact .cons (by rw[I.ok.kind];decide) hf hn (Heap.get?_none_of_le (xZ I.ok.bsz I.ok.above)) I.pC
def Inv.vN(I:Inv X gV σ H s):∀b∈frs X.stack,b∈X.env.locals::X.fs:=λb g=>by
 obtain e |⟨e,hf⟩:=I.ok.stk
 ·rw[e]at g;exact j0 _ g
 ·rw[e]at g;unfold frs at g;rw[Xg,hf]at g;exact g
def Inv.B8(I:Inv X gV σ H s):∀b∈frs X.stack,H b=none:=λb g=>by
 obtain e|g:=kz.mp (I.vN b g)
 ·rw[e];exact I.free
 ·let(_,o,ho,_):=I.ok.pC.mem g;exact I.base.free b o ho (I.ok.frf b g) λz=>I.ok.Nh b z g
def Inv.step(I:Inv X gV σ H s)
  (K:∀b∈ch,(b∈X.ex\/X.s₀.heap.objs.size<=b)/\b≠X.env.locals/\(∀x c,X.env.cells.lookup x=Z c->c≠b)/\∀p∈X.pn++gV,p.1≠b)
  (keep:∀b o,b≠X.env.locals->b ∉ X.fs->b ∉ ch->s.heap.get? b=Z o->H b=Y->h'.get? b=Z o)
  (slot:∀b o,b≠X.env.locals->b∈X.fs->b ∉ ch->s.heap.get? b=Z o->H b=Y->∃sl,h'.get? b=Z {o with slots:=sl}) (free:∀b o,b ∉ ch->s.heap.get? b=Z o->H b=Y->H' b=Y)
  (there:∀b o,b ∉ ch->s.heap.get? b=Z o->∃o',h'.get? b=Z o')
  (qK:∀b xs,H b=Z (.tup xs)->H' b=Z (.tup xs)) (lC:∀b o u,H b=Z (.frz o u)->H' b=Z (.frz o u)) (qL:∀b ps,H b=Z (.tbl ps)->∃more,H' b=Z (.tbl (ps++more)))
  (ns:∀m,s.heap.Ns X.env.locals m->h'.Ns X.env.locals m) (hok:HOk X.prog X.w H' h') (hg:AllBare g'):
  Inv X gV σ H' {s with heap:=h',gens:=g',drawn:=d',toks:=t'}:=by
 let av:∀b o,X.s₀.heap.get? b=Z o->b≠X.env.locals:=λb o e=>ui (zZ (kS e) I.ok.above)
 let P:∀b o,X.s₀.heap.get? b=Z o->b ∉ X.ex->b ∉ ch:=λb o e hx V=>by
  obtain z|z:=(K b V).1
  ·exact hx z
  ·exact absurd (zZ (kS e) z) (WH _)
 let cellK:∀x c,X.env.cells.lookup x=Z c->∀v,s.heap.IsCell c v->h'.IsCell c v:=λx c e v (o,ho,hd)=>by
  let g:=λz=>(K c z).2.2.1 x c e U
  by_cases hc:c∈X.fs
  ·let(sl,q):=slot c o (I.cne x c e) hc g ho (I.gx x c e);exact(_,q,hd)
  ·exact(o,keep c o (I.cne x c e) hc g ho (I.gx x c e),hd)
 refine(I.ok,I.os,hg,(λb o e n V hx=>?_,λb o e n V hx=>?_,λb o e n hx=>?_,λb o e hx=>?_,λb xs e=>qK b xs (I.base.qK b xs e),λb o xs e=>lC b o xs (I.base.lC b o xs e),λb ps e=>?_),?_,λx c e=>?_,?_,λx c e=>?_,λp hp=>?_,hok,I.len)
 ·exact keep b o (av b o e) V (P b o e hx) (I.base.keep b o e n V hx) (I.base.free b o e n hx)
 ·let(sl,Q):=I.base.slot b o e n V hx;let(az,e2):=slot b _ (av b o e) V (P b o e hx) Q (I.base.free b o e n hx);exact(az,e2)
 ·let(o',Q):=I.base.there b o e hx;exact free b o' (P b o e hx) Q (I.base.free b o e n hx)
 ·let(o',Q):=I.base.there b o e hx;exact there b o' (P b o e hx) Q
 ·let(m1,Q):=I.base.qL b ps e;let(m2,e2):=qL b _ Q;exact(m1++m2,by rw[e2,Array.append_assoc])
 ·let(m,hn,hl):=I.loc;refine(m,ns m hn,λi x v Q e2 e3=>?_)
  let(u,r,l):=hl i x v Q e2 e3;refine(u,r,?_);obtain l |⟨k,c,e,z⟩:=l
  ·exact .inl l
  ·exact .inr (k,c,e,cellK x c e _ z)
 ·let(v,z):=I.cell x c e;exact(v,cellK x c e v z)
 ·let(m,(o,_,_,ho,_),_):=I.loc;exact free _ o (λz=>(K _ z).2.1 U) ho I.free
 ·let(v,o,ho,hd):=I.cell x c e;exact free c o (λz=>(K c z).2.2.1 x c e U) ho (I.gx x c e)
 ·let(e,n,ne,nf,d):=I.pin p hp;let g:=λz=>(K p.1 z).2.2.2 p hp U
  exact(keep p.1 p.2 ne nf g e n,free p.1 p.2 g e n,ne,nf,d)
def Inv.un(I:Inv X gV σ H s)(u:Un X.fs [] H H' s.heap h')(hok:HOk X.prog X.w H' h'):Inv X gV σ H' {s with heap:=h',toks:=t'}:=by
 let(m,(o,es,ep,ho,r),_):=id I.loc;let(sl,V):=u.any ho I.free (by simp)
 exact I.step (ch:=[]) (λ_ z=>nomatch z) (λb o _ q _ e n=>u.keep b o e n q (by simp)) (λb o _ q _ e n=>u.slot b o e n q (by simp)) (λb o _ e n=>u.free b o e n (by simp)) (λb o _ e=>u.there b o e (by simp)) u.qK u.lC u.qL (λm' hm=>by
  let(o',K,P,g,Q):=hm;rw[ho]at g;cases g;exact(_,K,P,V,Q)) hok I.bare
def Inv.call(I:Inv X gV σ H s)(u:Un (frs X.stack) ch H H' s.heap h')(hok:HOk X.prog X.w H' h')(hg:AllBare g')
  (K:∀b∈ch,(b∈X.ex\/X.s₀.heap.objs.size<=b)/\b≠X.env.locals/\(∀x c,X.env.cells.lookup x=Z c->c≠b)/\∀p∈X.pn++gV,p.1≠b):
  Inv X gV σ H' {s with heap:=h',gens:=g',drawn:=d',toks:=t'}:=by
 let(m,(o,es,ep,ho,r),_):=id I.loc;let(sl,P):=u.any ho I.free λz=>(K _ z).2.1 U
 exact I.step K (λb o P hb g e n=>u.keep b o e n (λz=>(kz.mp (I.vN b z)).elim P hb) g) (λb o _ _ g e n=>u.any e n g) (λb o g e n=>u.free b o e n g) (λb o g e=>u.there b o e g) u.qK u.lC u.qL (λm' hm=>by
  let(o',Q,V,q,r'):=hm;rw[ho]at q;cases q;exact(_,Q,V,P,r')) hok hg
def Inv.turned(I:Inv X gV σ H s)(k:∀b o,b≠it->s.heap.get? b=Z o->h'.get? b=Z o)(hn:H it=Y)(P:it≠X.env.locals)
  (h1:it∈X.ex\/X.s₀.heap.objs.size<=it) (h2:∀x c,X.env.cells.lookup x=Z c->c≠it) (h3:∀p∈X.pn++gV,p.1≠it):Inv X gV σ H {s with heap:=h',toks:=t'}:=by
 let K:∀b u,H b=Z u->b≠it:=λb u e z=>by rw[z,hn]at e;cases e
 refine I.step (ch:=[it]) (λb Q=>?_) (λb o _ _ g e _=>k b o (λz=>g (by simp[z])) e) (λb o _ _ g e _=>(o.slots,k b o (λz=>g (by simp[z])) e)) (λ_ _ _ _ n=>n)
  (λb o g e=>(o,k b o (λz=>g (by simp[z])) e)) (λ_ _ e=>e) (λ_ _ _ e=>e) (λb ps e=>(#[],by rw[e];simp)) (λm hm=>?_) (λb u e=>?_) I.bare
 ·let e:=by simpa using Q
  subst e;exact(h1,P,h2,h3)
 ·let(o,es,V,ho,r):=hm;exact(o,es,V,k _ o (Ne.symm P) ho,r)
 ·refine(I.hok b u e).cx (λc v g q=>k c v ?_ q) (λ_ q=>q) λ_ _ q=>q
  obtain z|z:=g
  ·rw[z];exact K b u e
  ·exact K c _ z
def Inv.tok(I:Inv X gV σ H s)(t:Nat):Inv X gV σ H {s with toks:=t}:=I.un Un.refl I.hok
theorem Inv.kept(I:Inv X gV σ H s)(k:∀b u,s.heap.get? b=Z u->h'.get? b=Z u):Inv X gV σ H {s with heap:=h',toks:=t'}:=I.un (Un.kept k) (I.hok.kept k)
theorem Inv.laid(I:Inv X gV σ H s)(k:∀b u,s.heap.get? b=Z u->h'.get? b=Z u)(hp:s.heap.objs.size<=a)(new:c7 X.prog X.w (upd H a o) h' a o):
  Inv X gV σ (upd H a o) {s with heap:=h',toks:=t'}:=I.un (Un.laid k hp (I.hok.fresh hp)) (I.hok.laid k hp new)
theorem Inv.write{x e:J}(I:Inv X gV σ H s)(q:Mut (H x))(he:e=x\/H e=Z (.own x))(k:∀b u,b≠e->s.heap.get? b=Z u->h'.get? b=Z u)(g:∃u,h'.get? e=Z u)
  (new:c7 X.prog X.w (upd H x o) h' x o):Inv X gV σ (upd H x o) {s with heap:=h',toks:=t'}:=I.un (Un.write q he k g) (I.hok.write q he k g new)
def Inv.mB(I:Inv X gV σ H s)(h:∀p∈pins',s.heap.get? p.1=Z p.2/\H p.1=Y/\p.1≠X.env.locals/\p.1 ∉ X.fs/\∀v,p.2.data ≠ .cell v):Inv X pins' σ H s :=
 (I.ok,I.os,I.bare,I.base,I.loc,I.cell,I.free,I.gx,λp hp=>(p7.mp hp).elim (λz=>I.pin p (qF _ z)) (h p),I.hok,I.len)
def y9(g:N.Nodup)(a:N[i]?=Z x)(b:N[j]?=Z x):i=j:=by
 let(h1,z):=kf.mp a;let(h2,q):=kf.mp b;exact(List.getElem_inj g).mp (z.trans q.symm)
abbrev AT(X:Cx)(x:Str):Prop:=X.fn x=true\/X.env.scope.names.lookup x=some .local
def DZ{A:Db}{E:B->ϋ->Prop}{i:Nat}{v:V}{Q:Unit->ϋ->Prop}(I:Inv X gV σ H s)(hN:X.N.Nodup)(hi:X.N[i]?=Z x)(hx:Loc X.env.scope x)(r:RelV v u)
  (h:∀s',Inv X gV (σ.set i (Z v)) H s'->(∃a,WC a s.heap s'.heap/\(a=X.env.locals\/X.env.cells.lookup x=Z a))->Q () s') (hf:AT X x:=by first|exact .inl rfl|exact .inr rfl|assumption):wpAny M A (storeName X.env x u) Q E s:=by
 let(m,hn,hl):=id I.loc;let Vr:(X.env.scope.kind == .class ||(X.env.scope.kind == .module&&X.env.locals != X.env.globals))=false:=by rw[I.ok.kind];rfl
 let av:i < σ.length:=by rw[I.len];exact(kf.mp hi).1
 let cne:=I.cne;let tracked:∀{a:J}{h':Do},(∃o,s.heap.get? a=Z o/\H a=Y)->WC a s.heap h'->HOk X.prog X.w H h':=λ{a h'} ha hs b ob e=>by
  let(_,_,jj):=ha;refine(I.hok b ob e).cx (λc w' K q=>(hs.2 c ?_).trans q) (λ_ q=>q) λ_ _ q=>q
  rintro rfl
  obtain rfl|K:=K
  ·rw[jj]at e;cases e
  ·rw[jj]at K;cases K
 obtain hk|hk:=hx
 ·refine wpAny_storeName_local hk hn (λh' aN hs=>?_) Vr
  let(oL,_,_,aM,_):=id hn;refine h _ (I.ok,I.os,I.bare,(λb o e n hb hx=>?_,λb o e n hb hx=>?_,I.base.free,λb o e hx=>?_,I.base.qK,I.base.lC,I.base.qL),(_,aN,λj y v' g P e3=>?_),λy c e=>?_,I.free,I.gx,λp hp=>?_,tracked (oL,aM,I.free) hs,by simpa using I.len) (_,hs,.inl U)
  ·exact(hs.2 b (ui (zZ (kS e) I.ok.above))).trans (I.base.keep b o e n hb hx)
  ·let(sl,g):=I.base.slot b o e n hb hx;exact(sl,(hs.2 b (ui (zZ (kS e) I.ok.above))).trans g)
  ·let(o',g):=I.base.there b o e hx;exact(o',(hs.2 b (ui (zZ (kS e) I.ok.above))).trans g)
  ·by_cases hj:j=i
   ·subst hj;rw[hi]at g;cases g;rw[JF av]at P;cases P;exact(u,r,.inl (hk,by simp))
   ·rw[E3 (Ne.symm hj)]at P;let(u',r',q):=hl j y v' g P e3;refine(u',r',?_);obtain⟨k,e⟩|⟨k,c,e,z⟩:=q
    ·refine .inl (k,?_)
     have:y≠x:=λe=>hj (y9 hN g (e▸hi))
     simp[this,e]
    ·exact .inr (k,c,e,z.sameBut hs (cne y c e))
  ·let(w',z):=I.cell y c e;exact(w',z.sameBut hs (cne y c e))
  ·let(e,n,ne,nf,d):=I.pin p hp;exact((hs.2 p.1 ne).trans e,n,ne,nf,d)
 ·let az:X.fn x=true:=by
   obtain z|z:=hf
   ·exact z
   ·rw[z]at hk;cases hk
  let(c,K):=I.ok.has x (.inl hk);let(w',z):=I.cell x c K;refine wpAny_storeName_cell I.ok.kind hk K z (λh' aK hs=>?_)
  let(oc,aD,Vf):=id z;refine h {s with heap:=h'} (I.ok,I.os,I.bare,(λb o e n hb hx=>?_,λb o e n hb hx=>?_,I.base.free,λb o e hx=>?_,I.base.qK,I.base.lC,I.base.qL),(m,hn.sameBut hs (Ne.symm (cne x c K)),λj y v' g P e3=>?_),λy c' e=>?_,I.free,I.gx,λp hp=>?_,tracked (oc,aD,I.gx x c K) hs,by simpa using I.len) (c,hs,.inr K)
  ·exact(hs.2 b (ui (zZ (kS e) (I.ok.cab x c az K)))).trans (I.base.keep b o e n hb hx)
  ·let(sl,g):=I.base.slot b o e n hb hx;exact(sl,(hs.2 b (ui (zZ (kS e) (I.ok.cab x c az K)))).trans g)
  ·let(o',g):=I.base.there b o e hx;exact(o',(hs.2 b (ui (zZ (kS e) (I.ok.cab x c az K)))).trans g)
  ·by_cases hj:j=i
   ·subst hj;rw[hi]at g;cases g;rw[JF av]at P;cases P;exact(u,r,.inr (.inl hk,c,K,aK))
   ·rw[E3 (Ne.symm hj)]at P;let(u',r',q):=hl j y v' g P e3;refine(u',r',?_);obtain q |⟨k,c',e,z'⟩:=q
    ·exact .inl q
    ·refine .inr (k,c',e,z'.sameBut hs ?_)
     rintro rfl
     exact hj (y9 hN g (I.ok.inj _ _ _ e K▸hi))
  ·by_cases aF:c'=c
   ·subst aF;exact(_,aK)
   ·let(w2,z2):=I.cell y c' e;exact(w2,z2.sameBut hs aF)
  ·let(e,n,ne,nf,d):=I.pin p hp;refine((hs.2 p.1 ?_).trans e,n,ne,nf,d);intro q;rw[q,aD]at e;let q':=Option.some.inj e;exact d w' (by rw[<- q'];exact Vf)
def ia{A:Db}{E:B->ϋ->Prop}{i:Nat}{v:V}{Q:Unit->ϋ->Prop}(I:Inv X gV σ H s)(g:X.N.Nodup)(hi:X.N[i]?=Z x)(hx:Loc X.env.scope x)(r:RelV v u)
  (h:∀s',Inv X gV (σ.set i (Z v)) H s'->Q () s') (hf:AT X x:=by first|exact .inl rfl|exact .inr rfl|assumption):wpAny M A (storeName X.env x u) Q E s :=
 DZ I g hi hx r (λs' q _=>h s' q) hf
def Inv.T5(I:Inv X gV σ H s)(ho:s'.os=s.os)(u:Un (frs X.stack) ch H H' s.heap s'.heap)(hok:HOk X.prog X.w H' s'.heap)(hg:AllBare s'.gens)
  (g:∀b∈ch,(b∈X.ex\/X.s₀.heap.objs.size<=b)/\b≠X.env.locals/\(∀x c,X.env.cells.lookup x=Z c->c≠b)/\∀p∈X.pn++gV,p.1≠b):Inv X gV σ H' s':=by
 let(h',g',q,t',o'):=s';let e:=ho;subst e;exact I.call u hok hg g
end
abbrev XK:=B->Option J->Hp->Prop
abbrev St:=List (Option V)
abbrev VK:=V->Hp->Prop
abbrev TE:=St->Hp->VK->Prop
abbrev TT:=St->Hp->(Bool->Hp->Prop)->Prop
abbrev TA:=St->Hp->(List V->Hp->Prop)->Prop
structure Ends where
 nx:St->Hp->Prop
 rt:VK
 bk:St->Hp->Prop:=λ_ _=>False
 ct:St->Hp->Prop:=λ_ _=>False
abbrev TS:=Ends->St->Hp->Prop
inductive EP(X:Cx)(gV:List (J×Obj))(σ:St)(Q:VK)(u:B)(s':ϋ):Prop
 |mk(v H')(h1:Inv X gV σ H' s')(h2:RelV v u)(h3:Q v H')
inductive TP(X:Cx)(gV:List (J×Obj))(σ:St)(Q:Bool->Hp->Prop)(b:Bool)(s':ϋ):Prop
 |mk(H')(h1:Inv X gV σ H' s')(h2:Q b H')
inductive AP(X:Cx)(gV:List (J×Obj))(σ:St)(Q:List V->Hp->Prop)(us:List B)(s':ϋ):Prop
 |mk(vs H')(h1:Inv X gV σ H' s')(h2:Vals vs us)(h3:Q vs H')
def SP(X:Cx)(gV:List (J×Obj))(D:Ends)(f:Flow)(s':ϋ):Prop :=
 match f with
 |.next=>∃g H',Inv X gV g H' s'/\D.nx g H'
 |.brk=>∃g H',Inv X gV g H' s'/\D.bk g H'
 |.cont=>∃g H',Inv X gV g H' s'/\D.ct g H'
 |.ret u=>∃v g H',Inv X gV g H' s'/\RelV v u/\D.rt v H'
def PE(X:Cx)(e:Ev)(t:TE):Prop :=
 ∀(gV:List (J×Obj))(s:ϋ)(σ:St)(H:Hp)(Q:VK),Inv X gV σ H s->t σ H Q->Zc X (eval e X.env) (EP X gV σ Q) X.xe s
def PT(X:Cx)(e:Ev)(t:TT):Prop :=
 ∀(gV:List (J×Obj))(s:ϋ)(σ:St)(H:Hp)(Q:Bool->Hp->Prop),Inv X gV σ H s->t σ H Q->Zc X (isTrue e X.env (eval e X.env)) (TP X gV σ Q) X.xe s
def PW(X:Cx)(e:Ev)(t:TT):Prop :=
 ∀(whole:Sem B)(gV:List (J×Obj))(s:ϋ)(σ:St)(H:Hp)(Q:Bool->Hp->Prop),Inv X gV σ H s->t σ H Q->Zc X (isTrue e X.env whole) (TP X gV σ Q) X.xe s
variable{X:Cx}{e:Ev}
def PW.pt(h:PW X e t):PT X e t:=h _
def PA(X:Cx)(es:List Ev)(t:TA):Prop :=
 ∀(pos:Pos)(gV:List (J×Obj))(s:ϋ)(σ:St)(H:Hp)(Q:List V->Hp->Prop),Inv X gV σ H s->t σ H Q->Zc X (spliced (backTo pos (kh es X.env))) (AP X gV σ Q) X.xe s
def PS(X:Cx)(st:EQ)(t:TS):Prop :=
 ∀(gV:List (J×Obj))(s:ϋ)(σ:St)(H:Hp)(D:Ends),Inv X gV σ H s->t D σ H->Zc X (exec st X.env) (SP X gV D) X.xe s
def PSs(X:Cx)(st:List EQ)(t:TS):Prop :=
 ∀(gV:List (J×Obj))(s:ϋ)(σ:St)(H:Hp)(D:Ends),Inv X gV σ H s->t D σ H->Zc X (execs st X.env) (SP X gV D) X.xe s
variable{M:Model}{A:Db}{E:B->ϋ->Prop}
def thn{t:Sem α}{Q Q':α->ϋ->Prop}(h:wpAny M A t Q E s)(g:∀a s,Q a s->Q' a s):wpAny M A t Q' E s:=V8 h g λ_ _ x=>x
variable{gV:List (J×Obj)}{Q:B->ϋ->Prop}{op:CmpOp}
section
inductive bB(i:Nat)(σ:St)(H:Hp)(Q:VK):Prop
 |mk(v)(h1:σ[i]?=Z (Z v))(h2:Q v H)
def tC(v:V):TE:=λ_ H Q=>Q v H
abbrev AS(x:Str):Prop:=(x ==("__debug__":Str))=false
def wO{pos:Pos}(P:X.N[i]?=Z x)(hv:Vis X.env.scope x)(hd:AS x:=by decide)(q:(x ==("__classdict__":Str))=false:=by decide):PE X (.Name x pos) (bB i):=by
 left;let(v,e,h):=h;let(m,hn,hl):=I.loc;let(u,r,l):=hl i x v P e hv;let fin:EP X gV σ Q u s:=(v,H,I,r,h);obtain⟨g,hm⟩|⟨g,c,z,K⟩:=l
 ·exact wpAny_Name (wpAny_loadName_local I.ok.kind g hn hm fin) hd
 ·obtain g|g:=g
  ·exact wpAny_Name (wpAny_loadName_cell I.ok.kind g z K fin) hd
  ·exact wpAny_Name (wpAny_loadName_free I.ok.kind g z K fin q) hd
def bA:PE X (.Constant (.int i) j pos) (tC (.int i)):=λ_ _ _ H _ I h=>wpAny_Constant_int (.int i,H,I.tok _,(_,U),h)
def SO:PE X (.Constant (.bool b) j pos) (tC (.bl b)):=λ_ _ _ H _ I h=>Constant_bool (.bl b,H,I,U,h)
def PL:PE X (.Constant .none j pos) (tC .non):=λ_ _ _ H _ I h=>Constant_none (.non,H,I,U,h)
def dq:PE X (.Constant (.str x) j pos) (tC (.str x)):=λ_ _ _ H _ I h=>Calls.Constant_str (.str x,H,I.tok _,(_,U),h)
def Gl(X:Cx)(x:Str):Prop:=X.env.kindOf x=Z .globalImplicit
def pY{E:B->ϋ->Prop}{s:ϋ}{σ:St}{pos:Pos}(I:Inv X gV σ H s)(hg:Gl X x)(hm:X.mg x=Z u)(h:Q u s)
  (hd:AS x:=by decide):Zc X (eval (.Name x pos) X.env) Q E s :=
 Calls.Name_function_global I.ok.kind hg (Calls.loadGlobal_global (by rw[I.ok.glob];exact I.mod.glob.keeps I.bk) hm h) hd
def dQ{E:B->ϋ->Prop}{s:ϋ}{σ:St}{pos:Pos}(I:Inv X gV σ H s)(hg:Gl X x)(hm:X.mg x=Y)(hv:bootBuiltins x=Z u)(h:Q u s)
  (hn:x ≠ "__name__":=by decide) (hd:AS x:=by decide):Zc X (eval (.Name x pos) X.env) Q E s:=by
 let(mb,h1,h2):=I.mod.blt;exact Calls.Name_function_global I.ok.kind hg (Calls.loadGlobal_builtin (by rw[I.ok.glob];exact I.mod.glob.keeps I.bk) hm (by rw[I.ok.blt];exact h1.keeps I.bk) ((h2 x hn).trans hv) h) hd
def LV(hg:Gl X x)(hm:X.mg x=Z u)(r:RelV v u)(hd:AS x:=by decide):PE X (.Name x pos) (tC v) :=
 λ_ _ _ H _ I h=>pY I hg hm (v,H,I,r,h) hd
def LZ{pos:Pos}(hg:Gl X x)(hm:X.mg x=Y)(hv:bootBuiltins x=Z u)(r:RelV v u)(hn:x ≠ "__name__":=by decide)(hd:AS x:=by decide):PE X (.Name x pos) (tC v) :=
 λ_ _ _ H _ I h=>dQ I hg hm hv (v,H,I,r,h) hn hd
variable{a b:Ev}{ta tb:TE}{pos:Pos}
def Ia(b:Ev)(h:op ≠ .In)(h2:op ≠ .NotIn):behindInMarks op b=false:=by
 let q:(op==CmpOp.In)=false:=by cases op <;> first|rfl|exact absurd U h
 let g:(op==CmpOp.NotIn)=false:=by cases op <;> first|rfl|exact absurd U h2
 cases b with
 |Set elts k pos =>
  show(k==0&&(op==CmpOp.In||op==CmpOp.NotIn)&&_)=ϊ
  rw[q,g]
  cases(k==0) <;> rfl
 |_=>rfl
variable{tA tB':TT}{rest:List Ev}
def OO(t u:TT):TT:=λσ H Q=>t σ H λc H1=>if c=O then u σ H1 Q else Q ϊ H1
def tOr(t u:TT):TT:=λσ H Q=>t σ H λc H1=>if c=O then Q O H1 else u σ H1 Q
def OJ(t:TT):TT:=λσ H Q=>t σ H λc H1=>Q (!c) H1
def Cu(ha:PT X a tA):PW X (.BoolOp .And [a] pos) tA:=by
 intro g gV s σ H Q I h;refine isTrue_and (thn (ha gV s σ H Q I h) λc s1 e=>?_)
 cases c with
 |true=>exact isTrue_and_nil e
 |false=>exact e
def Pn(ha:PT X a tA):PW X (.BoolOp .Or [a] pos) tA:=by
 intro g gV s σ H Q I h;refine isTrue_or (thn (ha gV s σ H Q I h) λc s1 e=>?_)
 cases c with
 |false=>exact isTrue_or_nil e
 |true=>exact e
def Ha(ha:PT X a tA)(P:PW X (.BoolOp .And (b::rest) pos) tB'):PW X (.BoolOp .And (a::b::rest) pos) (OO tA tB'):=by
 intro K gV s σ H Q I h;refine isTrue_and (thn (ha gV s σ H _ I h) λc s1 g=>?_)
 let(H1,z,q):=g;cases c with
 |true=>exact P K gV s1 σ H1 Q z q
 |false=>exact(H1,z,q)
def SG(ha:PT X a tA)(P:PW X (.BoolOp .Or (b::rest) pos) tB'):PW X (.BoolOp .Or (a::b::rest) pos) (tOr tA tB'):=by
 intro K gV s σ H Q I h;refine isTrue_or (thn (ha gV s σ H _ I h) λc s1 g=>?_)
 let(H1,z,q):=g;cases c with
 |true=>exact(H1,z,q)
 |false=>exact P K gV s1 σ H1 Q z q
def Pp(ha:PT X a tA):PT X (.UnaryOp .Not a pos) (OJ tA):=by
 left;refine isTrue_not (thn (ha gV s σ H (λc H1=>Q (!c) H1) I h) λc s' z=>?_)
 let(H',g,q):=z;exact(H',g,q)
def B2(ta tb:TE):TE:=λσ H Q=>ta σ H λx H1=>∃c,x=.bl c/\if c=O then tb σ H1 Q else Q (.bl ϊ) H1
def FJ(ta:TE):TE:=λσ H Q=>ta σ H λx H1=>∃c,x=.bl c/\Q (.bl (!c)) H1
def Hu{op}(h:PE X a t):PE X (.BoolOp op [a] pos) t:=λgV s σ H Q I hw=>BoolOp_one (h gV s σ H Q I hw)
def HB(ha:PE X a ta)(P:PE X (.BoolOp .And (b::rest) pos) tb):PE X (.BoolOp .And (a::b::rest) pos) (B2 ta tb):=by
 left;refine BoolOp_and (thn (ha gV s σ H _ I h) λv s1 q=>?_)
 let(x,H1,z,K,g):=q;let(c,U,g):=g;cases K;refine wpAny_truthy_bool ?_;cases c with
 |true=>exact P gV s1 σ H1 Q z g
 |false=>exact(.bl ϊ,H1,z,U,g)
def PJ(ha:PE X a ta):PE X (.UnaryOp .Not a pos) (FJ ta):=by
 left;refine UnaryOp_ (thn (ha gV s σ H _ I h) λv s1 q=>?_)
 let(x,H1,K,z,g):=q;let(c,U,g):=g;cases z;exact not_of (wpAny_truthy_bool (.bl (!c),H1,K,U,g))
def tIf(t:TT)(ta tb:TE):TE:=λσ H Q=>t σ H λc H1=>if c=O then ta σ H1 Q else tb σ H1 Q
def Hw(K:PT X c tA)(ha:PE X a ta)(P:PE X b tb):PE X (.IfExp c a b pos) (tIf tA ta tb):=by
 left;refine wpAny_IfExp (thn (K gV s σ H _ I h) λd s1 g=>?_)
 let(H1,z,q):=g;cases d with
 |true=>exact ha gV s1 σ H1 Q z q
 |false=>exact P gV s1 σ H1 Q z q
end
def SqL(K:BT)(H:Hp)(a:J)(xs:List V):Prop :=
 Rd H a (.lst xs) \/
  ∃(o:Obj)(its:Array B)(n:Nat),K.lookup a=Z o/\o.cls=.type "list" /\ o.dict=Y/\o.data=.seq its n/\its.size<=mu/\Vals xs its.toList
def SqT(K:BT)(H:Hp)(a:J)(xs:List V):Prop :=
 Rd H a (.tup xs) \/
  ∃(o:Obj)(its:Array B)(n:Nat),K.lookup a=Z o/\o.cls=.type "tuple" /\ o.data=.seq its n/\its.size<=mu/\Vals xs its.toList
def VJ:B->Option V
 |.none=>Z .non
 |.bool b=>Z (.bl b)
 |.int i _=>Z (.int i)
 |.str x _=>Z (.str x)
 |.bytes b _=>Z (.byt b)
 |.float b _=>Z (.flt b)
 |.ref a=>Z (.ref a)
 |.type n=>Z (.ty n)
 |_=>Y
def RelV.abs{x:V}(r:RelV x u):VJ u=Z x:=by
 cases x with
 |non=>cases r;rfl
 |bl _=>cases r;rfl
 |int _=>let(t,U):=r;rfl
 |str _=>let(t,U):=r;rfl
 |byt _=>let(t,U):=r;rfl
 |flt _=>let(t,U):=r;rfl
 |ref _=>cases r;rfl
 |ty _=>cases r;rfl
theorem RelV.inj{x y:V}(r:RelV x u)(q:RelV y u):x=y:=Option.some.inj (r.abs.symm.trans q.abs)
theorem Vals.inj:∀{xs ys:List V}{us:List B},Vals xs us->Vals ys us->xs=ys:=by
 intro xs ys us h
 induction h generalizing ys with
 |nil=>intro h';cases h';rfl
 |cons r t q=>intro h';cases h' with|cons g t'=>rw[r.inj g,q t']
section
variable{σ:St}{s:ϋ}{xs ys:List V}
theorem SqL.of{K:BT}(h:H a=Z (.lst xs)):SqL K H a xs:=.inl (.inl h)
theorem SqT.of{K:BT}(h:H a=Z (.tup xs)):SqT K H a xs:=.inl (.inl h)
def Inv.list(I:Inv X gV σ H s)(h:SqL X.K H a xs):∃its:List B,Vals xs its/\PlainL s.heap a its.toArray/\xs.length<=mu:=by
 obtain h |⟨o,its,n,g,q,hd,hs,P,r⟩:=h
 ·let(z,its,n,r,e):=h.ok I.hok;exact(its,r,(_,n,e,U,U,U),z)
 ·refine(its.toList,r,(o,n,I.kIn a o g,q,hd,by simpa using hs),?_)
  let e:=r.length;simp only[V9]at e
  lia
def Inv.tuple(I:Inv X gV σ H s)(h:SqT X.K H a xs):∃its:List B,Vals xs its/\IsTup s.heap a its.toArray/\xs.length<=mu:=by
 obtain h |⟨o,its,n,g,q,hs,P,r⟩:=h
 ·let(z,its,r,p):=h.ok I.hok;exact(its,r,p.1,z)
 ·refine(its.toList,r,(o,I.kIn a o g,q,n,by simpa using hs),?_)
  let e:=r.length;simp only[V9]at e;omega
def Inv.zm(I:Inv X gV σ H s)(h:SqL X.K H a xs)(h':SqL X.K H a ys):xs=ys:=by
 let(its,r,(o,n,e,_,_,d),_):=I.list h;let(its',q,(o',n',e',_,_,g),_):=I.list h';rw[e]at e';cases e';rw[d]at g;injection g with d1 _
 have:=by simpa using congrArg Array.toList d1
 subst this;exact r.inj q
def Inv.uJ(I:Inv X gV σ H s)(h:SqT X.K H a xs)(h':SqT X.K H a ys):xs=ys:=by
 let(its,r,(o,e,_,n,d),_):=I.tuple h;let(its',q,(o',e',_,n',g),_):=I.tuple h';rw[e]at e';cases e';rw[d]at g;injection g with d1 _
 have:=by simpa using congrArg Array.toList d1
 subst this;exact r.inj q
end
abbrev Cx.tQ(X:Cx)(E:B->ϋ->Prop):Cx:={X with xe:=E}
abbrev Cx.nox(X:Cx):Cx:=X.tQ λ_ _=>False
theorem Cx.Ok.tQ(ok:X.Ok)(E:B->ϋ->Prop):(X.tQ E).Ok :=
 (ok.mod,ok.kind,ok.glob,ok.blt,ok.above,ok.inj,ok.has,ok.cab,ok.hd,ok.frames,ok.stk,ok.exf,ok.bs,ok.bsz,ok.H0,ok.Nh,ok.pC,ok.frf)
def Cx.Ok.jw(ok:(X.tQ E).Ok):X.Ok :=
 (ok.mod,ok.kind,ok.glob,ok.blt,ok.above,ok.inj,ok.has,ok.cab,ok.hd,ok.frames,ok.stk,ok.exf,ok.bs,ok.bsz,ok.H0,ok.Nh,ok.pC,ok.frf)
section
variable{σ:St}{s:ϋ}
theorem Inv.tQ(I:Inv X gV σ H s)(E:B->ϋ->Prop):Inv (X.tQ E) gV σ H s:=(I.ok.tQ E,I.os,I.bare,I.base,I.loc,I.cell,I.free,I.gx,I.pin,I.hok,I.len)
theorem Inv.jw(I:Inv (X.tQ E) gV σ H s):Inv X gV σ H s:=(I.ok.jw,I.os,I.bare,I.base,I.loc,I.cell,I.free,I.gx,I.pin,I.hok,I.len)
theorem SP.jw(h:SP (X.tQ E) gV D f s'):SP X gV D f s':=by
 cases f with
 |next=>let(g,H',I,q):=h;exact(g,H',I.jw,q)
 |brk=>let(g,H',I,q):=h;exact(g,H',I.jw,q)
 |cont=>let(g,H',I,q):=h;exact(g,H',I.jw,q)
 |ret u=>let(v,g,H',I,r,q):=h;exact(v,g,H',I.jw,r,q)
theorem PSs.nox{st:List EQ}(h:PSs X.nox st t):PSs X st t:=λgV s σ H D I hw =>
 V8 (h gV s σ H D (I.tQ _) hw) (λ_ _ q=>q.jw) λ_ _ z=>False.elim z
end
section
variable{st:EQ}{rest:List EQ}{t u:TS}{te:TE}{pos:Pos}
def FK:TS:=λD σ H=>D.nx σ H
def OH(t u:TS):TS:=λD σ H=>t {D with nx:=u D} σ H
def wC:PSs X [] FK:=λ_ _ σ H _ I h=>wpAny_execs_nil (σ,H,I,h)
def bY(h1:PS X st t)(h2:PSs X rest u):PSs X (st::rest) (OH t u):=by
 right;refine wpAny_execs_cons (thn (h1 gV s σ H {D with nx:=u D} I h) λf s1 q=>?_)
 cases f with
 |next =>
  let(g,H',z,q):=q;exact h2 gV s1 g H' D z q
 |ret v=>exact q
 |brk=>exact q
 |cont=>exact q
def gH(h1:PS X st t):PSs X [st] t:=by
 right;refine wpAny_execs_cons (thn (h1 gV s σ H D I h) λf s1 q=>?_)
 cases f with
 |next=>exact wpAny_execs_nil q
 |ret v=>exact q
 |brk=>exact q
 |cont=>exact q
def Inv.quiet{σ:St}(I:Inv X gV σ H s):interactive X.env=false:=by simp[interactive,I.ok.kind]
def fO(te:TE):TS:=λD σ H=>te σ H λ_ H1=>D.nx σ H1
def fi(he:PE X e te)(hs:swapsWith e Y pos.line X.env=pure false:=by rfl):PS X (.Expr e pos) (fO te):=by
 right;exact wpAny_Expr_any (thn (he gV s σ H _ I h) λv s1 (x,H1,q,z,g)=>(σ,H1,q,g)) I.quiet hs
def FI(te:TE):TS:=λD σ H=>te σ H D.rt
def k7(he:PE X e te):PS X (.Return (Z e) pos) (FI te):=by
 right;exact wpAny_Return_some (thn (he gV s σ H _ I h) λv s1 (x,H1,z,g,q)=>(x,σ,H1,z,g,q))
def NS:TS:=λD _ H=>D.rt .non H
def LB:PS X (.Return Y pos) NS:=λ_ _ σ H _ I h=>wpAny_Return_none (.non,σ,H,I,U,h)
def OL(c:TT)(t u:TS):TS:=λD σ H=>c σ H λb H1=>if b=O then t D σ H1 else u D σ H1
def He{a b:List EQ}(K:PT X c tc)(ha:PSs X a t)(P:PSs X b u):PS X (.If c a b pos) (OL tc t u):=by
 right;refine wpAny_If (thn (K gV s σ H _ I h) λd s1 g=>?_)
 let(H1,z,q):=g;cases d with
 |true=>exact ha gV s1 σ H1 D z q
 |false=>exact P gV s1 σ H1 D z q
end
abbrev TG:=V->St->Hp->(St->Hp->Prop)->Prop
abbrev TGs:=List V->St->Hp->(St->Hp->Prop)->Prop
def PG(X:Cx)(target:Ev)(t:TG):Prop :=
 ∀(gV:List (J×Obj))(s:ϋ)(σ:St)(H:Hp)(v:V)(u:B)(Q:St->Hp->Prop),Inv X gV σ H s->RelV v u->t v σ H Q ->
  Zc X (assign target X.env u) (λ_ s'=>∃g H',Inv X gV g H' s'/\Q g H') X.xe s
def PGs(X:Cx)(ts:List Ev)(t:TGs):Prop :=
 ∀(gV:List (J×Obj))(s:ϋ)(σ:St)(H:Hp)(vs:List V)(us:List B)(Q:St->Hp->Prop),Inv X gV σ H s->Vals vs us->t vs σ H Q ->
  Zc X (assignInOrder ((assignEach ts X.env).map (·.2)) us) (λ_ s'=>∃g H',Inv X gV g H' s'/\Q g H') X.xe s
abbrev Rc:=V->V->V->Hp->(Hp->Prop)->Prop
def Rg(X:Cx)(t:Rc):Prop :=
 ∀(gV:List (J×Obj))(s:ϋ)(σ:St)(H:Hp)(o i v:V)(g iv u:B)(Q:Hp->Prop),Inv X gV σ H s->RelV o g->RelV i iv->RelV v u->t o i v H Q ->
  Zc X (setItem g iv u) (λ_ s'=>∃H',Inv X gV σ H' s'/\Q H') X.xe s
abbrev TIp:=V->V->Hp->VK->Prop
def PIp(X:Cx)(op:Operator)(t:TIp):Prop :=
 ∀(gV:List (J×Obj))(s:ϋ)(σ:St)(H:Hp)(x y:V)(v u:B)(Q:VK),Inv X gV σ H s->RelV x v->RelV y u->t x y H Q ->
  Zc X (inplaceOp op v u) (EP X gV σ Q) X.xe s
variable{es:List Ev}{n:Nat}{o:Ev}{to:TE}{tg:Ev}{te:TE}{pos':Pos}{b:Ev}{py:Pos}
section
variable{pos:Pos}
def eY(i:Nat):TG:=λv σ H Q=>Q (σ.set i (Z v)) H
def mE(g:X.N.Nodup)(hi:X.N[i]?=Z x)(hx:Loc X.env.scope x)(hf:AT X x:=by first|exact .inl rfl|exact .inr rfl|assumption):PG X (.Name x pos) (eY i):=by
 intro gV s σ H v u Q I r h;exact wpAny_assign_Name (ia I g hi hx r (λs' q=>(_,H,q,h)) hf)
def QK:TGs:=λvs σ H Q=>vs=[]/\Q σ H
def C4(t:TG)(u:TGs):TGs:=λvs σ H Q=>∃v r,vs=v::r/\t v σ H λg H'=>u r g H' Q
def fj:PGs X [] QK:=by
 intro gV s σ H vs us Q I r h;let(e,h):=h;subst e;exact assignInOrder_nil (σ,H,I,h)
def aW{u:TGs}(h1:PG X e t)(h2:PGs X es u)
  (hs:(assignEach (e::es) X.env).map (·.2)=assign e X.env ::(assignEach es X.env).map (·.2):=by rfl):PGs X (e::es) (C4 t u):=by
 intro gV s σ H vs us Q I r h;let(v,V,K,h):=h;subst K;cases r with
 |cons r q =>
  rw[hs];exact assignInOrder_cons (thn (h1 gV s σ H _ _ _ I r h) λ_ s1 (g,H1,P,z)=>(h2 gV s1 g H1 _ _ Q P q z))
inductive Nb(K:BT)(n:Nat)(t:TGs)(v:V)(σ:St)(H:Hp)(Q:(St->Hp->Prop)):Prop
 |mk(a xs)(h1:v=.ref a)(h2:SqT K H a xs)(h3:xs.length=n)(h4:t xs σ H Q)
def PH{k:Nat}(z:X.calm=O)(h:PGs X es t)
  (hn:(assignEach es X.env).length=n:=by rfl) (g:(assignEach es X.env).findIdx? (·.1)=none:=by rfl):PG X (.Tuple es k pos) (Nb X.K n t):=by
 intro gV s σ H v u Q I r hw;let(a,xs,P,hq,hl,hw):=hw;subst P;cases r;let(its,rv,q,hz):=I.tuple hq;refine assign_Tuple_tuple (I.ok.hd z) q (by simp[hn,<- hl,rv.length]) g λh' hx=>?_
 let V:=I.kept (t':=s.toks) λb o e=>hx b o (ui (kS e)) e
 exact h gV _ σ H xs _ Q V (by simpa using rv) hw
def IU(to ti:TE)(t:Rc):TG:=λv σ H Q=>to σ H λo H1=>ti σ H1 λi H2=>t o i v H2 λg=>Q σ g
def Hr(ho:PE X o to)(hi:PE X i ti)(hs:Rg X t)
  (ha:∀v,assign (.Subscript o i pos) X.env v=(do
   let g <- holding [v] (eval o X.env)
   let iv <- holding [v,g] (eval i X.env)
   standAt pos
   holding [v,g,iv] (setItem g iv v)
   release [v,g,iv] []):=by intro _;rfl):PG X (.Subscript o i pos) (IU to ti t):=by
 intro gV s σ H v u Q I r h;exact dD (Fq (thn (ho gV s σ H _ I h) λg s1 (x,H1,I1,z,V)=>(dD (Fq (thn (hi gV s1 σ H1 _ I1 V) λiv s2 (y,H2,I2,q,P)=>(dD (wpAny_standAt (dD (Fq (thn (hs gV s2 σ H2 x y v g iv u _ I2 z q r P) λ_ s3 (H3,I3,K)=>(wpAny_release (σ,H3,I3,K))))))))))))
def iG(te:TE)(g:TG):TS:=λD σ H=>te σ H λx H1=>g x σ H1 D.nx
def wF(he:PE X e te)(hg:PG X tg g)(hs:swapsWithSole [tg] e pos.line X.env=pure false:=by rfl)(hw:swappedStores [tg] e X.env=pure none:=by rfl)
  (h1:(assignEach [tg] X.env).map (·.2)=[assign tg X.env]:=by rfl):PS X (.Assign [tg] e pos) (iG te g):=by
 right;refine wpAny_Assign_stores (thn (he gV s σ H _ I h) λv s1 z=>?_) hs hw
 let(x,H1,Q,K,P):=z;rw[h1];exact thn (hg gV s1 σ H1 x v _ Q K P) λ_ s2 q=>q
def gZ(z:X.N.Nodup)(hi:X.N[i]?=Z x)(hx:Loc X.env.scope x)(he:PE X e te)(hs:swapsWith e (Z (.Name x pos')) pos.line X.env=pure false:=by rfl)(hf:AT X x:=by first|exact .inl rfl|exact .inr rfl|assumption):
  PS X (.Assign [.Name x pos'] e pos) (iG te (eY i)):=by
 right;exact wpAny_Assign_Name (thn (he gV s σ H _ I h) λv s1 (y,H1,P,g,q)=>(ia P z hi hx g (λs2 K=>(_,H1,K,q)) hf)) hs
def OI(i j:Nat)(ta:TA):TS:=λD σ H=>ta σ H λvs H1=>∃v w,vs=[v,w]/\D.nx ((σ.set i (Z v)).set j (Z w)) H1
abbrev BC(X:Cx)(x:Str):Prop:=X.env.scope.names.lookup x=some .local
def Pq{a:Ev}{P pt:Pos}(hc:X.calm=O)(hN:X.N.Nodup)(hi:X.N[i]?=Z x)(hj:X.N[j]?=Z y)(V:i≠j)
  (hx:BC X x) (hy:BC X y) (ha:PA X [a,b] ta)
  (hw:swappedStores [.Tuple [.Name x P,.Name y py] kt pt] (.Tuple [a,b] k2 g) X.env=pure (Z [x,y]))
  (hs:swapsWithSole [.Tuple [.Name x P,.Name y py] kt pt] (.Tuple [a,b] k2 g) pos.line X.env=pure false:=by rfl):
  PS X (.Assign [.Tuple [.Name x P,.Name y py] kt pt] (.Tuple [a,b] k2 g) pos) (OI i j ta):=by
 right;refine dD (wpAny_standAt ?_);refine dD (kL ?_);refine dD (Tuple_ (thn (ha _ gV s σ H _ I h) λus s1 av=>?_))
 let(vs,H1,I1,r1,K):=av;let(v,w,e1,K):=K;subst e1;obtain⟨u1,u2,rfl,rv,z⟩:∃u1 u2,us=[u1,u2]/\RelV v u1/\RelV w u2:=by
  cases r1 with
  |cons p q =>
   cases q with
   |cons p' q' =>
    cases q';exact(_,_,U,p,p')
 refine Wh ?_ (by show 2<=mu;decide)
 let I2:Inv X gV σ H1 {s1 with heap:=s1.heap.push {cls:=.type "tuple",data:=.seq [u1,u2].toArray}}:=I1.kept λb o e=>j3 _ e
 rw[hw];refine dD (kL ?_);refine dD (Wb (dD (unpackItems_tuple (items:=#[u1,u2]) (I.ok.hd hc) (IsTup.new s1.heap _) λh' Q=>?_)))
 let I3:=I2.kept (t':=s1.toks) λb o e=>Q b o (ui (kS e)) e
 refine dD (assignInOrder_cons (wpAny_bindName (ia I3 hN hj (.inl hy) z (λs2 I4=>(assignInOrder_cons (wpAny_bindName (ia I4 hN hi (.inl hx) rv (λs3 I5=>assignInOrder_nil (kL ?_)) (.inr hx))))) (.inr hy))))
 rw[List.set_comm _ _ (Ne.symm V)]at I5;exact(_,H1,I5,K)
def RI(i:Nat)(te:TE)(ti:TIp):TS:=λD σ H=>∃x,σ[i]?=Z (Z x)/\te σ H λy H1=>ti x y H1 λz H2=>D.nx (σ.set i (Z z)) H2
def Pt{op:Operator}(hN:X.N.Nodup)(hi:X.N[i]?=Z x)(hx:Loc X.env.scope x)(he:PE X e te)(ho:PIp X op ti)(hf:AT X x:=by first|exact .inl rfl|exact .inr rfl|assumption):
  PS X (.AugAssign (.Name x pos') op e pos) (RI i te ti):=by
 right;let(v,e1,h):=h;let(m,hn,hl):=I.loc;let K:Vis X.env.scope x:=by obtain k|k:=hx;exact .inl k;exact .inr (.inl k)
 let(u,r,l):=hl i x v hi e1 K;refine wpAny_AugAssign_Name ?_;let go:Zc X (eval e X.env) (λw s₂=>Zc X (inplaceOp op u w) (λr q=>Zc X (storeName X.env x r) (λ_=>SP X gV D .next) X.xe q) X.xe s₂) X.xe s:=by
  exact thn (he gV s σ H _ I h) λw s1 (y,H1,I1,Q,q1)=>(thn (ho gV s1 σ H1 v y u w _ I1 r Q q1) λz s2 (zv,H2,I2,P,V)=>(ia I2 hN hi hx P (λs3 I3=>(_,H2,I3,V)) hf))
 obtain⟨g,hm⟩|⟨g,c,hc,gu⟩:=l
 ·exact wpAny_loadName_local I.ok.kind g hn hm go
 ·obtain g|g:=g
  ·exact wpAny_loadName_cell I.ok.kind g hc gu go
  ·obtain k|k:=hx
   ·have:X.env.scope.names.lookup x=Z .free:=g
    rw[k]at this;cases this
   ·have:X.env.scope.names.lookup x=Z .free:=g
    rw[k]at this;cases this
inductive ipI(f:Int->Int->Int)(x:V)(y:V)(H:Hp)(Q:VK):Prop
 |mk(i j)(h1:x=.int i)(h2:y=.int j)(h3:Q (.int (f i j)) H)
def Qn:PIp X .Add (ipI λi j=>i+j):=by
 intro gV s σ H x y v u Q I z g h;let(i,j,P,K,q):=h;subst P;subst K;let(t,U):=z;let(t',U):=g;exact iadd_int (.int _,H,I.tok _,(_,U),q)
end
variable{body:List EQ}
section
variable{pos:Pos}
def Aq(c:TT)(tb:TS):TS:=λD σ H=>∃W:Nat->St->Hp->Prop,(∃m,W m σ H)/\∀m σ H,W m σ H ->
 c σ H λb H1=>if b=O then ∃N:St->Hp->Prop,(∀g H',N g H'->∃m',m'<m/\W m' g H')/\tb {D with nx:=N,ct:=N,bk:=D.nx} σ H1 else D.nx σ H1
def yN(hp:XW (model X.prog X.w) X.A X.env X.xe)(hc:PT X c tc)(hb:PSs X body tb):PS X (.While c body [] pos) (Aq tc tb):=by
 right;let(W,(m0,w0),turn):=h;refine wpAny_While (codeAny_whileLoop (λn s'=>∃z H',Inv X gV z H' s'/\W n z H') ?_ m0 (σ,H,I,w0))
 rintro n s1 ⟨q,H1,I1,w1⟩
 refine wpAny_passesOwn hp (thn (hc gV s1 q H1 _ I1 (turn n q H1 w1)) λb s2 av=>?_)
 let(H2,I2,Q):=av;cases b with
 |true =>
  let(N,hN,Q):=Q;refine wpAny_passesOwn hp (thn (hb gV s2 q H2 _ I2 Q) λf s3 P=>?_)
  cases f with
  |next =>
   let(g,K,I3,n3):=P;let(m',hm,V):=hN g K n3;exact(m',hm,g,K,I3,V)
  |cont =>
   let(g,K,I3,n3):=P;let(m',hm,V):=hN g K n3;exact(m',hm,g,K,I3,V)
  |brk=>exact P
  |ret v=>exact P
 |false =>
  exact wpAny_execs_nil (q,H2,I2,Q)
end
structure It where
 go:Nat->Hp->Prop
 yld:Nat->Hp->V->Hp->Prop
 stop:Nat->Hp->Prop
def tJ(X:Cx)(gV:List (J×Obj))(H:Hp)(b:J):Prop :=
 H b=Y/\b≠X.env.locals/\b ∉ X.fs/\(b∈X.ex\/X.s₀.heap.objs.size<=b)/\(∀x c,X.env.cells.lookup x=Z c->c≠b)/\∀p∈X.pn++gV,p.1≠b
variable{H':Hp}
def Inv.IV{σ:St}{s:ϋ}{b:J}(I:Inv X gV σ H s)(g:s.heap.objs.size<=b)(hn:H' b=Y):tJ X gV H' b:=by
 refine(hn,QX (zZ I.lt g),I.SX g,.inr (xZ I.sz g),λx c e z=>?_,λp hp z=>?_)
 ·let(v,q):=I.cell x c e;exact absurd (zZ q.lt (by rw[z];exact g)) (WH _)
 ·exact absurd (zZ (kS (I.pin p hp).1) (by rw[z];exact g)) (WH _)
structure Turn(P:Da)(w:Cl)(K:BT)(tg:Ev)(YB:It)(fp:List J)(it:J)(tn:Nat->Do->Prop):Prop where
 mem:it∈fp
 obj:∀i h,tn i h->∀b∈fp,∃o,h.get? b=Z o/\∀v,o.data ≠ .cell v
 keep:∀i h h',tn i h->(∀b∈fp,∀o,h.get? b=Z o->h'.get? b=Z o)->tn i h'
 item:∀(X:Cx),X.prog=P->X.w=w->X.K=K->X.calm=O->∀(i:Nat)(gV:List (J×Obj))(s:ϋ)(σ:St)(H:Hp)(E:B->ϋ->Prop),Inv X gV σ H s->(∀b∈fp,tJ X gV H b)->tn i s.heap->YB.go i H ->
  wpAny (model P w) X.A (pyNext (.ref it)) (λr s1=>∃u,r=Z u /\
   wpAny (model P w) X.A (letOwnedTupleGo tg (.ref it) u) (λ_ s2=>∃x H',Inv X gV σ H' s2/\RelV x u/\YB.yld i H x H'/\tn (i+1) s2.heap/\∀b∈fp,H' b=Y) E s1) E s
 done:∀(X:Cx),X.prog=P->X.w=w->X.K=K->X.calm=O->∀(i:Nat)(gV:List (J×Obj))(s:ϋ)(σ:St)(H:Hp)(E:B->ϋ->Prop),Inv X gV σ H s->(∀b∈fp,tJ X gV H b)->tn i s.heap->YB.stop i H ->
  wpAny (model P w) X.A (pyNext (.ref it)) (λr s1=>r=Y/\Inv X gV σ H s1) E s
 self:∀(A:Db)(i:Nat)(s:ϋ)(Q:B->ϋ->Prop)(E:B->ϋ->Prop),tn i s.heap->Q (.ref it) s->wpAny (model P w) A (pyIter (.ref it)) Q E s
abbrev TI:=St->Hp->(It->Hp->Prop)->Prop
def PIE(X:Cx)(gV:List (J×Obj))(σ:St)(tg:Ev)(R:It->Hp->Prop)(g:B)(s2:ϋ):Prop :=
 ∃(it:J)(fp:List J)(tn:Nat->Do->Prop)(YB:It)(H':Hp),g=.ref it/\Inv X gV σ H' s2/\Turn X.prog X.w X.K tg YB fp it tn/\tn 0 s2.heap/\(∀b∈fp,tJ X gV H' b)/\R YB H'
def PI(X:Cx)(tg iter:Ev)(wi:TI):Prop :=
 ∀(gV:List (J×Obj))(s:ϋ)(σ:St)(H:Hp)(R:It->Hp->Prop),Inv X gV σ H s->wi σ H R ->
  Zc X (eval iter X.env) (λv s1=>Zc X (pyIter v) (PIE X gV σ tg R) X.xe s1) X.xe s
def IQ{o:Obj}{n:String}{vs:Array B}{Q:Unit->ϋ->Prop}(ho:s.heap.get? it=Z o)(q:o.cls=.type n)(hd:o.data=.fields vs)
  (hn:["enumerate","zip","dict_itemiterator","dict_reverseitemiterator","odict_iterator","itertools.zip_longest","itertools.pairwise"].contains n=ϊ) (g:Q () s):wpAny M A (letOwnedTupleGo tg (.ref it) u) Q E s:=by
 cases tg <;> first
  |exact kL g
  | (cases u <;> first
    |exact kL g
    | (refine dD (wpAny_load ho ?_)
       rw[q,hd];show wpAny M A (if(["enumerate","zip","dict_itemiterator","dict_reverseitemiterator","odict_iterator","itertools.zip_longest","itertools.pairwise"].contains n&&vs[0]? == Z (rawInt _))=O then _ else _) Q E s
       rw[if_neg (by intro h;rw[hn]at h;cases h)]
       exact kL g))
def Itl(K:BT)(a:J):It :=
 (λi H=>∃xs x,SqL K H a xs/\xs[i]?=Z x,λi H x H'=>H'=H/\∀xs,SqL K H a xs->xs[i]?=Z x,λi H=>∃xs,SqL K H a xs/\xs.length<=i)
def Itt(K:BT)(a:J):It :=
 (λi H=>∃xs x,SqT K H a xs/\xs[i]?=Z x,λi H x H'=>H'=H/\∀xs,SqT K H a xs->xs[i]?=Z x,λi H=>∃xs,SqT K H a xs/\xs.length<=i)
def Itr(lo:Int)(n:Nat):It:=(λi _=>i<n,λi H x H'=>H'=H/\x=.int (lo+i),λi _=>n<=i)
theorem DT{K:BT}(a it:J):Turn P w K tg (Itl K a) [it] it (λi h=>h.IsListIter it a i) where
 mem:=by simp
 obj:=λi h st b g=>by
  let e:=by simpa using g
  subst e;let(o,e,c,d):=st;exact(o,e,λv z=>by rw[d]at z;cases z)
 keep:=λi h h' st k=>st.at λo e=>k it (by simp) o e
 item:=by
  intro X Q hw V hc i gV s σ H E I hf st hg;subst Q hw V;let(xs,x,hq,hx):=hg;let(its,rv,p,hz):=I.list hq;let(u,hu,ru):=rv.get hx;let(f0,f1,f2,f3,f4,f5):=hf it (by simp)
  refine wpAny_pyNext_list_item st p.isList (by simpa using hu) λh' q sb=>?_
  let I1:=I.turned (t':=s.toks) (λb o g e=>(sb.2 b g).trans e) f0 f1 f3 f4 f5
  let(o,e,c,d):=id q;exact(u,U,IQ e c d (by decide) (x,H,I1,ru,(U,λys hy=>by rw[I.zm hy hq];exact hx),q,λb g=>(hf b g).1))
 done:=by
  intro X Q hw V hc i gV s σ H E I hf st hg;subst Q hw V;let(xs,hq,hx):=hg;let(its,rv,p,hz):=I.list hq;let(f0,f1,f2,f3,f4,f5):=hf it (by simp)
  let hl:=rv.length;exact wpAny_pyNext_list_end (I.ok.hd hc) st p.isList (by simp;lia) λh' eb=>(U,I.turned (λb o g e=>eb b o g e) f0 f1 f3 f4 f5)
 self:=λ_ _ _ _ _ st h=>wpAny_pyIter_listiter st h
theorem Ak{K:BT}(a it:J):Turn P w K tg (Itt K a) [it] it (λi h=>h.IsTupleIter it a i) where
 mem:=by simp
 obj:=λi h st b g=>by
  let e:=by simpa using g
  subst e;let(o,e,c,d):=st;exact(o,e,λv z=>by rw[d]at z;cases z)
 keep:=λi h h' st k=>st.at λo e=>k it (by simp) o e
 item:=by
  intro X Q hw V hc i gV s σ H E I hf st hg;subst Q hw V;let(xs,x,hq,hx):=hg;let(its,rv,p,hz):=I.tuple hq;let(u,hu,ru):=rv.get hx;let(f0,f1,f2,f3,f4,f5):=hf it (by simp)
  refine wpAny_pyNext_tuple_item st (p) (by simpa using hu) λh' q sb=>?_
  let I1:=I.turned (t':=s.toks) (λb o g e=>(sb.2 b g).trans e) f0 f1 f3 f4 f5
  let(o,e,c,d):=id q;exact(u,U,IQ e c d (by decide) (x,H,I1,ru,(U,λys hy=>by rw[I.uJ hy hq];exact hx),q,λb g=>(hf b g).1))
 done:=by
  intro X Q hw V hc i gV s σ H E I hf st hg;subst Q hw V;let(xs,hq,hx):=hg;let(its,rv,p,hz):=I.tuple hq;let(f0,f1,f2,f3,f4,f5):=hf it (by simp)
  let hl:=rv.length;exact wpAny_pyNext_tuple_end (I.ok.hd hc) st (p) (by simp;omega) λh' eb=>(U,I.turned (λb o g e=>eb b o g e) f0 f1 f3 f4 f5)
 self:=λ_ _ _ _ _ st h=>wpAny_pyIter_tupleiter st h
theorem Am{K:BT}(it:J)(lo:Int)(n:Nat):Turn P w K tg (Itr lo n) [it] it (λi h=>IsRangeIter h it (lo+(i:Nat)*1) ((n:Int) - (i:Nat)) 1) where
 mem:=by simp
 obj:=λi h st b g=>by
  let e:=by simpa using g
  subst e;exact(_,st,λv z=>by
   let z':=z;cases z')
 keep:=λi h h' st k=>k it (by simp) _ st
 item:=by
  intro X hP hw hK Q i gV s σ H E I hf st hg;subst hP hw hK;let(f0,f1,f2,f3,f4,V):=hf it (by simp)
  let W:=Walks.range (prog:=X.prog) (w:=X.w) (I.ok.hd Q) it lo 1 n;refine W.item i s _ _ hg st λv h' tk hv q kk=>?_
  let(t,U):=hv;let I1:Inv X gV σ H {s with heap:=h',toks:=tk}:=I.turned (λb o g e=>kk b o (by simpa using g) e) f0 f1 f3 f4 V
  refine(_,U,IQ q U U (by decide) (.int (lo+i),H,I1,(t,?_),(U,U),q,λb g=>(hf b g).1))
  rw[Int.mul_one]
 done:=by
  intro X hP hw hK Q i gV s σ H E I hf st hg;let(f0,f1,f2,f3,f4,V):=hf it (by simp)
  exact wpAny_pyNext_range_end (I.ok.hd Q) st (by have:n<=i:=hg;lia) λh' eb=>(U,I.turned (λb o g e=>eb b o g e) f0 f1 f3 f4 V)
 self:=λ_ _ _ _ _ st h=>wpAny_pyIter_rangeiter st h
variable{lo:Int}{fp:List J}{iter:Ev}
section
def vj(K:BT)(tl:TE):TI:=λσ H R=>tl σ H λx H1=>∃a,x=.ref a/\(∃xs,SqL K H1 a xs)/\R (Itl K a) H1
def IC(K:BT)(tl:TE):TI:=λσ H R=>tl σ H λx H1=>∃a,x=.ref a/\(∃xs,SqT K H1 a xs)/\R (Itt K a) H1
def mD(hl:PE X l tl):PI X tg l (vj X.K tl):=by
 intro gV s σ H R I h;refine thn (hl gV s σ H _ I h) λv s1 z=>?_
 let(x,H1,g,P,Q):=z;let(a,e,(xs,hq),q):=Q;subst e;cases P;let(its,rv,p,hz):=g.list hq;refine wpAny_pyIter_list p.isList ?_;refine(s1.heap.objs.size,[s1.heap.objs.size],_,_,H1,U,g.kept λb o e=>j3 _ e,DT a _,(_,p6 _ U,U,U),λb V=>?_,q)
 let e:=by simpa using V
 subst e;exact g.IV (m9 _) (g.hok.fresh (m9 _))
def PF(hl:PE X l tl):PI X tg l (IC X.K tl):=by
 intro gV s σ H R I h;refine thn (hl gV s σ H _ I h) λv s1 z=>?_
 let(x,H1,g,P,Q):=z;let(a,e,(xs,hq),q):=Q;subst e;cases P;let(its,rv,p,hz):=g.tuple hq;refine wpAny_pyIter_tuple (p) ?_;refine(s1.heap.objs.size,[s1.heap.objs.size],_,_,H1,U,g.kept λb o e=>j3 _ e,Ak a _,(_,p6 _ U,U,U),λb V=>?_,q)
 let e:=by simpa using V
 subst e;exact g.IV (m9 _) (g.hok.fresh (m9 _))
def Gw{σ:St}{s:ϋ}{R:It->Hp->Prop}{hi:Int}{t u v:Tok}{tk:Nat}(I:Inv X gV σ H s)(h1:-(2 ^ 62)<=lo)(h2:lo<2 ^ 62)(h3:-(2 ^ 62)<=hi)(h4:hi<2 ^ 62)
  (q:R (Itr lo (hi - lo).toNat) H):Zc X (pyIter (.ref s.heap.objs.size)) (PIE X gV σ tg R) E {s with heap:=s.heap.push {cls:=.type "range",data:=.fields #[.int lo t,.int hi u,.int 1 v]},toks:=tk}:=by
 refine wpAny_pyIter_range (IsRange.new ..) (small_one h1 h2 h3 h4) ?_;let g:Inv X gV σ H {s with heap:=s.heap.push {cls:=.type "range",data:=.fields #[.int lo t,.int hi u,.int 1 v]},toks:=tk}:=I.kept λb o e=>j3 _ e
 refine((s.heap.push {cls:=.type "range",data:=.fields #[.int lo t,.int hi u,.int 1 v]}).objs.size,[(s.heap.push {cls:=.type "range",data:=.fields #[.int lo t,.int hi u,.int 1 v]}).objs.size],_,_,H,U,
  g.kept λb o e=>j3 _ e,Am _ lo (hi - lo).toNat,?_,λb z=>?_,q)
 ·let P:lo+((0:Nat))*1=lo:=by simp
  let K:(((hi - lo).toNat)) - ((0:Nat))=Builtin.Range.rangeSize lo hi 1:=by rw[rangeSize_one];split <;> lia
  rw[P,K];exact p6 _ U
 ·let e:b=(s.heap.push {cls:=.type "range",data:=.fields #[.int lo t,.int hi u,.int 1 v]}).objs.size:=by simpa using z
  subst e;exact g.IV (m9 _) (g.hok.fresh (m9 _))
def ID(ta:TA):TI:=λσ H R=>ta σ H λvs H1=>∃j:Int,vs=[.int j] /\ -(2 ^ 62)<=j/\j<2 ^ 62/\R (Itr 0 j.toNat) H1
abbrev AD(X:Cx)(e:Ev):Prop:=kh [e] X.env=[(false,eval e X.env)]
def u6{a:Ev}(hg:Gl X "range")(hm:X.mg "range"=Y)(ha:PA X [a] ta)(hs:AD X a:=by rfl):PI X tg (.Call (.Name "range" p) [a] [] pos) (ID ta):=by
 intro gV s σ H R I h;refine Call_ (dQ I hg hm boot_range (PyProof.Rows.callWith_type1 (thn (ha pos gV s σ H _ I h) λus s1 (vs,H1,Q,K,g)=>?_) hs U))
 let(j,e,g,P,q):=g;subst e;cases K with
 |cons r z =>
  cases z;let(t,U):=r;exact call_range_1 (Gw Q (by lia) (by lia) g P (by simpa using q))
def OM(wi:TI)(g:TG)(tb:TS):TS:=λD σ H=>wi σ H λYB H1=>∃W:Nat->Nat->St->Hp->Prop,(∃m,W 0 m σ H1)/\∀i m σ H,W i m σ H ->
 (YB.stop i H/\D.nx σ H)\/(YB.go i H/\∃N:St->Hp->Prop,(∀q H',N q H'->∃m',m'<m/\W (i+1) m' q H')/\∀x H',YB.yld i H x H'->g x σ H' λz H2=>tb {D with nx:=N,ct:=N,bk:=D.nx} z H2)
def rN(fp:List J)(h:Do):List (J×Obj):=fp.filterMap λb=>(h.get? b).map λo=>(b,o)
def gj{b:J}{o:Obj}(g:b∈fp)(e:h.get? b=Z o):(b,o)∈rN fp h:=WS.mpr (b,g,by rw[e];rfl)
def Ey(hp:p∈rN fp h):p.1∈fp/\h.get? p.1=Z p.2:=by
 let(b,g,e):=WS.mp hp;cases q:h.get? b with
 |none=>rw[q]at e;cases e
 |some o =>
  rw[q]at e;let e':=Option.some.inj e;subst e';exact(g,q)
def Inv.pinned{σ:St}(I:Inv X gV σ H s)(hf:∀b∈fp,tJ X gV H b)(ho:∀b∈fp,∃o,s.heap.get? b=Z o/\∀v,o.data ≠ .cell v):Inv X (gV++rN fp s.heap) σ H s :=
 I.mB λp hp=>(p7.mp hp).elim (λz=>I.pin p (p5 _ z)) λz=>by
  let(g,e):=Ey z;let(f0,f1,f2,_):=hf p.1 g;let(o,e',d):=ho p.1 g;rw[e]at e';cases e';exact(e,f0,f1,f2,d)
def Inv.lR{σ:St}(I:Inv X (gV++pl) σ H s):Inv X gV σ H s:=I.mB λp hp=>I.pin p (p5 _ (qF _ hp))
def A4(hp:XW (model X.prog X.w) X.A X.env X.xe)(hc:X.calm=O)(hi:PI X tg iter wi)(hg:PG X tg g)(P:PSs X body tb)
  (hs:∀x,foldedSetIterable iter X.env x=pure x:=by intro _;rfl):PS X (.For tg iter body [] pos) (OM wi g tb):=by
 right;refine wpAny_For (thn (hi gV s σ H _ I h) λv s1 h1=>thn h1 λaP s2 h2=>?_) hs
 let(it,fp,tn,YB,H2,e,I2,T,aK,f2,W,(m0,w0),turn):=h2;subst e;let OQ:∀{H':Hp},(∀b∈fp,H' b=Y)->∀b∈fp,tJ X gV H' b:=λhn b P=>(hn b P,(f2 b P).2)
 refine codeAny_forLoop_any (λn s'=>∃i K H',Inv X gV K H' s'/\tn i s'.heap/\(∀b∈fp,H' b=Y)/\W i n K H') ?_ m0 (0,σ,H2,I2,aK,λb P=>(f2 b P).1,w0)
 rintro n s3 ⟨i,z,H3,I3,az,aD,w3⟩
 obtain⟨stop,qn⟩|⟨go,N,hN,step⟩:=turn i n z H3 w3
 ·refine wpAny_passesOwn hp (thn (T.done X U U U hc i gV s3 z H3 X.xe I3 (OQ aD) az stop) λr s4 Q=>?_)
  let(hr,I4):=Q;subst hr;exact wpAny_execs_nil (z,H3,I4,qn)
 ·refine wpAny_passesOwn hp (thn (T.item X U U U hc i gV s3 z H3 X.xe I3 (OQ aD) az go) λr s4 Q=>?_)
  let(u,hr,h4):=Q;subst hr;refine wpAny_passesOwn hp (thn h4 λ_ s5 Q=>?_)
  let(x,H5,I5,r5,y5,av,aM):=Q;let aN:=I5.pinned (OQ aM) (T.obj _ _ av);refine wpAny_passesOwn hp (thn (hg _ s5 z H5 x u _ aN r5 (step x H5 y5)) λ_ s6 (aF,H6,I6,q6)=>(wpAny_passesOwn hp (thn (P _ s6 aF H6 _ I6 q6) λf s7 q7=>?_)))
  let again:∀{q:St}{H7:Hp},Inv X (gV++rN fp s5.heap) q H7 s7->N q H7->∃m,m<n/\∃i K H',Inv X gV K H' s7/\tn i s7.heap/\(∀b∈fp,H' b=Y)/\W i m K H':=λ{q H7} V n7=>by
   let(m',hm,w7):=hN q H7 n7;refine(m',hm,i+1,q,H7,V.lR,T.keep _ _ _ av λb P o e=>(V.pin (b,o) (p5 _ (p5 _ (gj P e)))).1,λb P=>?_,w7)
   let(o,e,d):=T.obj _ _ av b P;exact(V.pin (b,o) (p5 _ (p5 _ (gj P e)))).2.1
  cases f with
  |next=>let(q,H7,V,n7):=q7;exact again V n7
  |cont=>let(q,H7,V,n7):=q7;exact again V n7
  |brk=>let(q,H7,V,q7):=q7;exact(q,H7,V.lR,q7)
  |ret v=>let(x7,q,H7,V,r7,q7):=q7;exact(x7,q,H7,V.lR,r7,q7)
end
variable{D:Ends}
theorem IW{K:BT}{xs:List V}{g:TG}{tb:TS}{σ:St}(Pv:Nat->St->Hp->Prop)(h0:Pv 0 σ H)(hl:∀i σ H,i<=xs.length->Pv i σ H->SqL K H a xs)
  (hs:∀i x σ H,xs[i]?=Z x->Pv i σ H->g x σ H λz H2=>tb {D with nx:=Pv (i+1),ct:=Pv (i+1),bk:=D.nx} z H2) (hd:∀σ H,Pv xs.length σ H->D.nx σ H):
  ∃W:Nat->Nat->St->Hp->Prop,(∃m,W 0 m σ H)/\∀i m σ H,W i m σ H ->
   ((Itl K a).stop i H/\D.nx σ H)\/((Itl K a).go i H/\∃N:St->Hp->Prop,(∀P H',N P H'->∃m',m'<m/\W (i+1) m' P H')/\∀x H',(Itl K a).yld i H x H'->g x σ H' λz H2=>tb {D with nx:=N,ct:=N,bk:=D.nx} z H2):=by
 refine(λi m σ H=>m=xs.length - i/\i<=xs.length/\Pv i σ H,(xs.length,by simp,JG _,h0),?_)
 rintro i m σ H ⟨rfl,hi,p⟩
 let q:=hl i σ H hi p;by_cases Q:i<xs.length
 ·refine .inr ((xs,xs[i],q,by simp[Q]),Pv (i+1),λP H' p'=>(xs.length - (i+1),by omega,U,Q,p'),λx H' y=>?_)
  let(e,y):=y;subst e;exact hs i x σ _ (y xs q) p
 ·let e:i=xs.length:=by lia
  subst e;exact .inl ((xs,q,m9 _),hd σ H p)
abbrev R2:=V->V->Hp->VK->Prop
def OpR(X:Cx)(f:B->B->Sem B)(r:R2):Prop :=
 ∀(gV:List (J×Obj))(s:ϋ)(σ:St)(H:Hp)(x y:V)(v u:B)(Q:VK),Inv X gV σ H s->RelV x v->RelV y u->r x y H Q ->
  Zc X (f v u) (EP X gV σ Q) X.xe s
def UnR(X:Cx)(f:B->Sem B)(r:V->Hp->VK->Prop):Prop :=
 ∀(gV:List (J×Obj))(s:ϋ)(σ:St)(H:Hp)(x:V)(v:B)(Q:VK),Inv X gV σ H s->RelV x v->r x H Q ->
  Zc X (f v) (EP X gV σ Q) X.xe s
def cE(X:Cx)(f:B)(r:List V->Hp->VK->Prop):Prop :=
 ∀(gV:List (J×Obj))(s:ϋ)(σ:St)(H:Hp)(xs:List V)(us:List B)(Q:VK),Inv X gV σ H s->Vals xs us->r xs H Q ->
  Zc X (call f us) (EP X gV σ Q) X.xe s
def VM(X:Cx)(r:V->Hp->(Bool->Hp->Prop)->Prop):Prop :=
 ∀(gV:List (J×Obj))(s:ϋ)(σ:St)(H:Hp)(x:V)(v:B)(Q:Bool->Hp->Prop),Inv X gV σ H s->RelV x v->r x H Q ->
  Zc X (truthy v) (TP X gV σ Q) X.xe s
def tOp(r:R2)(ta tb:TE):TE:=λσ H Q=>ta σ H λx H1=>tb σ H1 λy H2=>r x y H2 Q
def tUn(r:V->Hp->VK->Prop)(ta:TE):TE:=λσ H Q=>ta σ H λx H1=>r x H1 Q
inductive rI(C:Int->Int->Prop)(g:Int->Int->V)(x:V)(y:V)(H:Hp)(Q:VK):Prop
 |mk(i j)(h1:x=.int i)(h2:y=.int j)(h3:C i j)(h4:Q (g i j) H)
inductive rI0(g:Int->Int->V)(x:V)(y:V)(H:Hp)(Q:VK):Prop
 |mk(i j)(h1:x=.int i)(h2:y=.int j)(h3:Q (g i j) H)
inductive rU(g:Int->V)(x:V)(H:Hp)(Q:VK):Prop
 |mk(i)(h1:x=.int i)(h2:Q (g i) H)
section
variable{a:Ev}{ta tb:TE}{pos:Pos}
def QU(ha:PE X a ta)(hb:PE X b tb){σ:St}{R:V->V->Hp->Prop}(I:Inv X gV σ H s)
  (h:ta σ H λx H1=>tb σ H1 λy H2=>R x y H2) {f:B->B->Sem B}
  (hf:∀v u s2 x y H2,Inv X gV σ H2 s2->RelV x v->RelV y u->R x y H2->Zc X (f v u) Q X.xe s2):
  Zc X (eval a X.env) (λv g=>Zc X (eval b X.env) (λu s₂=>Zc X (f v u) Q X.xe s₂) X.xe g) X.xe s:=by
 exact thn (ha gV s σ H _ I h) λv s1 (x,H1,I1,z,P)=>(thn (hb gV s1 σ H1 _ I1 P) λu s2 (y,H2,I2,q,K)=>(hf v u s2 x y H2 I2 z q K))
def cL{op:Operator}(ho:OpR X (binaryOp op) r)(ha:PE X a ta)(K:PE X b tb):PE X (.BinOp a op b pos) (tOp r ta tb):=by
 left;exact wpAny_BinOp (QU ha K I h λv u s2 x y H2 P z g q=>ho gV s2 σ H2 x y v u Q P z g q)
def Hs{op:UnaryOp}(ho:UnR X (unaryOp op) r)(ha:PE X a ta):PE X (.UnaryOp op a pos) (tUn r ta):=by
 left;exact UnaryOp_ (thn (ha gV s σ H _ I h) λv s1 (x,H1,z,g,q)=>ho gV s1 σ H1 x v Q z g q)
def opI{C:Int->Int->Prop}{g:Int->Int->Int}
  (rule:∀(i j:Int)(t u:Tok)(s:ϋ)(Q:B->ϋ->Prop)(E:B->ϋ->Prop),C i j->Q (.int (g i j) s.toks) {s with toks:=s.toks+1}->Zc X (f (.int i t) (.int j u)) Q E s):
  OpR X f (rI C λi j=>.int (g i j)):=by
 intro gV s σ H x y v u Q I K z h;let(i,j,U,U,P,q):=h;let(t,U):=K;let(t',U):=z;exact rule i j t t' s _ _ P (.int (g i j),H,I.tok _,(_,U),q)
def SU{g:Int->Int->Int}
  (rule:∀(i j:Int)(t u:Tok)(s:ϋ)(Q:B->ϋ->Prop)(E:B->ϋ->Prop),Q (.int (g i j) s.toks) {s with toks:=s.toks+1}->Zc X (f (.int i t) (.int j u)) Q E s):
  OpR X f (rI0 λi j=>.int (g i j)):=by
 intro gV s σ H x y v u Q I K z h;let(i,j,U,U,q):=h;let(t,U):=K;let(t',U):=z;exact rule i j t t' s _ _ (.int (g i j),H,I.tok _,(_,U),q)
def Ms{g:Int->Int->Bool}
  (rule:∀(i j:Int)(t u:Tok)(s:ϋ)(Q:B->ϋ->Prop)(E:B->ϋ->Prop),Q (.bool (g i j)) s->Zc X (f (.int i t) (.int j u)) Q E s):
  OpR X f (rI0 λi j=>.bl (g i j)):=by
 intro gV s σ H x y v u Q I K z h;let(i,j,U,U,q):=h;let(t,U):=K;let(t',U):=z;exact rule i j t t' s _ _ (.bl (g i j),H,I,U,q)
def Rr(i j:Int):Prop:=0<=j/\j<=1000000/\i.natAbs<2 ^ 64
def JT(i j:Int):Prop:=(-(2 ^ 64)<i/\i<2 ^ 64)\/(-(2 ^ 64)<j/\j<2 ^ 64)
def JT.ok{i j:Int}(h:JT i j):IntMulOk i j:=by
 obtain⟨h1,h2⟩|⟨h1,h2⟩:=h
 ·exact .of_left (intBits_le_64 h1 h2)
 ·exact .of_right (intBits_le_64 h1 h2)
def nQ:OpR X (binaryOp .Add) (rI0 λi j=>.int (i+j)):=SU λ_ _ _ _ _ _ _ q=>add_int q
def Bg:OpR X (binaryOp .Sub) (rI0 λi j=>.int (i - j)):=SU λ_ _ _ _ _ _ _ q=>sub_int q
def lj:OpR X (binaryOp .Mult) (rI JT λi j=>.int (i*j)):=opI λ_ _ _ _ _ _ _ g q=>mul_int q g.ok
def iU:OpR X (binaryOp .Mod) (rI (λ_ j=>0<j) λi j=>.int (i % j)):=opI λi j _ _ _ _ _ g q=>by
 exact mod_int' (by lia) (by rw[Int.fmod_eq_emod_of_nonneg i (by lia)];exact q)
def HJ:OpR X (binaryOp .Pow) (rI Rr λi j=>.int (i ^ j.toNat)):=opI λ_ _ _ _ _ _ _ g q=>pow_int_small g.1 g.2.1 g.2.2 q
def unI{g:Int->Int}
  (rule:∀(i:Int)(t:Tok)(s:ϋ)(Q:B->ϋ->Prop)(E:B->ϋ->Prop),Q (.int (g i) s.toks) {s with toks:=s.toks+1}->Zc X (f (.int i t)) Q E s):
  UnR X f (rU λi=>.int (g i)):=by
 intro gV s σ H x v Q I z h;let(i,U,q):=h;let(t,U):=z;exact rule i t s _ _ (.int (g i),H,I.tok _,(_,U),q)
def Aj:UnR X (unaryOp .USub) (rU λi=>.int (-i)):=unI λ_ _ _ _ _ q=>neg_int q
end
def Ky:V->V->Bool
 |.non,.non=>O|.non,.int _=>O|.int _,.non=>O|.non,.bl _=>O|.bl _,.non=>O|.non,.str _=>O|.str _,.non=>O
 |.int _,.int _=>O|.bl _,.bl _=>O|.str _,.str _=>O|.byt _,.byt _=>O
 |.int _,.str _=>O|.str _,.int _=>O|.bl _,.str _=>O|.str _,.bl _=>O
 |_,_=>ϊ
def rEq:R2:=λx y H Q=>Ky x y=O/\Q (.bl (decide (x=y))) H
def rNe:R2:=λx y H Q=>Ky x y=O/\Q (.bl (!decide (x=y))) H
def C8{i j:Int}:decide (V.int i=V.int j)=(i==j):=by
 rw[Xe];simp
def Jf{i j:Bool}:decide (V.bl i=V.bl j)=(i==j):=by
 rw[Xe];simp
def C7{i j:Str}:decide (V.str i=V.str j)=(i==j):=by
 rw[Xe];simp
def C9{i j:Array UInt8}:decide (V.byt i=V.byt j)=(i.toList==j.toList):=by
 rw[Xe];cases i;cases j;simp
variable{its:List B}{y:V}
section
variable{a c:Ev}{ta tb:TE}{pos:Pos}
def bq{σ:St}{s:ϋ}{Q:VK}{k k':Bool}(I:Inv X gV σ H s)(q:Q (.bl k) H)(e:k=k'):EP X gV σ Q (.bool k') s:=by
 subst e;exact(.bl k,H,I,U,q)
theorem Od:OpR X (compareOp .Eq) rEq:=by
 intro gV s σ H x y v u Q I z g h;let(hs,q):=h;cases x with
 |non =>
  cases z;cases y with
  |non=>cases g;exact PySem.EqNone.eq_none_none (bq I q (by simp))
  |bl j=>cases g;exact PySem.EqNone.eq_none_bool (bq I q (by simp))
  |int j=>let(t',U):=g;exact PySem.EqNone.eq_none_int (bq I q (by simp))
  |str j=>let(t',U):=g;exact PySem.EqNone.eq_none_str (bq I q (by simp))
  |_=>exact absurd (show ϊ=O from hs) qE
 |bl i =>
  cases z;cases y with
  |non=>cases g;exact PySem.EqNone.eq_bool_none (bq I q (by simp))
  |bl j=>cases g;exact eq_bool (bq I q Jf)
  |str j=>let(t',U):=g;exact PySem.EqMixed.eq_bool_str (bq I q (by simp))
  |_=>exact absurd (show ϊ=O from hs) qE
 |int i =>
  let(t,U):=z;cases y with
  |non=>cases g;exact PySem.EqNone.eq_int_none (bq I q (by simp))
  |int j=>let(t',U):=g;exact eq_int (bq I q C8)
  |str j=>let(t',U):=g;exact PySem.EqMixed.eq_int_str (bq I q (by simp))
  |_=>exact absurd (show ϊ=O from hs) qE
 |str i =>
  let(t,U):=z;cases y with
  |non=>cases g;exact PySem.EqNone.eq_str_none (bq I q (by simp))
  |bl j=>cases g;exact PySem.EqMixed.eq_str_bool (bq I q (by simp))
  |int j=>let(t',U):=g;exact PySem.EqMixed.eq_str_int (bq I q (by simp))
  |str j=>let(t',U):=g;exact eq_str (bq I q C7)
  |_=>exact absurd (show ϊ=O from hs) qE
 |byt i =>
  let(t,U):=z;cases y with
  |byt j=>let(t',U):=g;exact W.eq_bytes (bq I q C9)
  |_=>exact absurd (show ϊ=O from hs) qE
 |_=>cases y <;> exact absurd (show ϊ=O from hs) qE
theorem HK:OpR X (compareOp .NotEq) rNe:=by
 intro gV s σ H x y v u Q I z g h;let(hs,q):=h;cases x with
 |non =>
  cases z;cases y with
  |non=>cases g;exact PySem.EqNone.ne_none_none (bq I q (by simp))
  |bl j=>cases g;exact PySem.EqNone.ne_none_bool (bq I q (by simp))
  |int j=>let(t',U):=g;exact PySem.EqNone.ne_none_int (bq I q (by simp))
  |str j=>let(t',U):=g;exact PySem.EqNone.ne_none_str (bq I q (by simp))
  |_=>exact absurd (show ϊ=O from hs) qE
 |bl i =>
  cases z;cases y with
  |non=>cases g;exact PySem.EqNone.ne_bool_none (bq I q (by simp))
  |bl j=>cases g;exact ne_bool (bq I q (congrArg not Jf))
  |str j=>let(t',U):=g;exact PySem.EqMixed.ne_bool_str (bq I q (by simp))
  |_=>exact absurd (show ϊ=O from hs) qE
 |int i =>
  let(t,U):=z;cases y with
  |non=>cases g;exact PySem.EqNone.ne_int_none (bq I q (by simp))
  |int j=>let(t',U):=g;exact ne_int (bq I q (congrArg not C8))
  |str j=>let(t',U):=g;exact PySem.EqMixed.ne_int_str (bq I q (by simp))
  |_=>exact absurd (show ϊ=O from hs) qE
 |str i =>
  let(t,U):=z;cases y with
  |non=>cases g;exact PySem.EqNone.ne_str_none (bq I q (by simp))
  |bl j=>cases g;exact PySem.EqMixed.ne_str_bool (bq I q (by simp))
  |int j=>let(t',U):=g;exact PySem.EqMixed.ne_str_int (bq I q (by simp))
  |str j=>let(t',U):=g;exact ne_str (bq I q (congrArg not C7))
  |_=>exact absurd (show ϊ=O from hs) qE
 |byt i =>
  let(t,U):=z;cases y with
  |byt j=>let(t',U):=g;exact W.ne_bytes (bq I q (congrArg not C9))
  |_=>exact absurd (show ϊ=O from hs) qE
 |_=>cases y <;> exact absurd (show ϊ=O from hs) qE
def SQ:OpR X (compareOp .Lt) (rI0 λi j=>.bl (decide (i<j))):=Ms λ_ _ _ _ _ _ _ q=>lt_int q
def SR:OpR X (compareOp .LtE) (rI0 λi j=>.bl (decide (i<=j))):=Ms λ_ _ _ _ _ _ _ q=>le_int q
def CH:OpR X (compareOp .Gt) (rI0 λi j=>.bl (decide (j<i))):=Ms λ_ _ _ _ _ _ _ q=>gt_int q
def SS:OpR X (compareOp .GtE) (rI0 λi j=>.bl (decide (j<=i))):=Ms λ_ _ _ _ _ _ _ q=>ge_int q
def Er:OpR X (compareOp .In) (λx y H Q=>∃i j,x=.str i/\y=.str j/\Q (.bl (!(Builtin.Str.occurrences j i 0 j.length 1).isEmpty)) H):=by
 intro gV s σ H x y v u Q I z g h;let(i,j,U,U,q):=h;let(t,U):=z;let(t',U):=g;exact in_str (bq I q U)
def rY:OpR X (compareOp .Is) (λx y H Q=>y=.non/\Q (.bl (decide (x=.non))) H):=by
 intro gV s σ H x y v u Q I z g h;let(U,q):=h;cases g;refine is_none_gen (bq I q ?_);cases x <;>(let(t,U):=z;rfl)
def pX:OpR X (compareOp .IsNot) (λx y H Q=>y=.non/\Q (.bl (!decide (x=.non))) H):=by
 intro gV s σ H x y v u Q I z g h;let(U,q):=h;cases g;refine isnot_none_gen (bq I q ?_);cases x <;>(let(t,U):=z;rfl)
def wV:OpR X (compareOp .NotIn) (λx y H Q=>∃i j,x=.str i/\y=.str j/\Q (.bl (!(!(Builtin.Str.occurrences j i 0 j.length 1).isEmpty))) H):=by
 intro gV s σ H x y v u Q I z g h;let(i,j,U,U,q):=h;let(t,U):=z;let(t',U):=g;exact notIn_str (bq I q U)
def OpR.or{r K:R2}(h:OpR X f r)(h':OpR X f K):OpR X f (λx y H Q=>r x y H Q\/K x y H Q):=by
 intro gV s σ H x y v u Q I z g q;obtain q|q:=q
 ·exact h gV s σ H x y v u Q I z g q
 ·exact h' gV s σ H x y v u Q I z g q
def bz(b:Ev)(h:op ≠ .In:=by decide)(h2:op ≠ .NotIn:=by decide):behindInMarks op b=false:=Ia b h h2
def CG(ho:OpR X (compareOp op) r)(ha:PE X a ta)(K:PE X b tb)(hm:behindInMarks op b=ϊ):PE X (.Compare a [op] [b] pos) (tOp r ta tb):=by
 left;exact wpAny_Compare1 (QU ha K I h λv u s2 x y H2 P z g q=>ho gV s2 σ H2 x y v u Q P z g q) hm
def B0(t:TE):TT:=λσ H Q=>t σ H λx H'=>∃k,x=.bl k/\Q k H'
def mx(ho:OpR X (compareOp op) r)(ha:PE X a ta)(hb:PE X b tb)(hm:behindInMarks op b=ϊ):PT X (.Compare a [op] [b] pos) (B0 (tOp r ta tb)):=by
 left;refine wpAny_isTrue_Compare1 (thn (ha gV s σ H _ I h) λv s1 (x,H1,I1,K,q1)=>thn (hb gV s1 σ H1 _ I1 q1) λu s2 (y,H2,I2,q,V) =>
  thn (ho gV s2 σ H2 x y v u _ I2 K q V) λc s3 (z,H3,I3,g,k,e,P)=>?_) hm
 subst e;cases g;exact wpAny_truthy_bool (H3,I3,P)
def NG(K:BT)(x:V)(H:Hp)(k:Bool):Prop :=
 match x with
 |.non=>k=ϊ
 |.bl b=>k=b
 |.int i=>k=(i != 0)
 |.str y=>y.length<=mu/\k=((y.length:Int) != 0)
 |.byt y=>y.size<=mu/\k=((y.size:Int) != 0)
 |.ref p=>(∃xs,SqL K H p xs/\k = !xs.isEmpty)\/(∃xs,SqT K H p xs/\k = !xs.isEmpty)\/∃kvs,H p=Z (.dK kvs)/\k = !kvs.isEmpty
 |_=>False
def Bw{kvs:List (κ×V)}{vs:List (κ×B)}(r:KV kvs vs):(!vs.isEmpty) = !kvs.isEmpty:=by
 cases r <;> rfl
def sC(r:Vals xs its):(!its.toArray.isEmpty) = !xs.isEmpty:=by
 cases r <;> simp
def iY:(mu:Nat)<2 ^ 63:=by decide
theorem OE:VM X (λx H Q=>∃k,NG X.K x H k/\Q k H):=by
 intro gV s σ H x v Q I g h;let(k,e,q):=h;let hl:=iY;let hs:mu=16777216:=Xc;cases x with
 |non =>
  cases g;let e':k=false:=e;subst e';exact truthy_none (H,I,q)
 |bl b =>
  cases g;let e':k=b:=e;subst e';exact wpAny_truthy_bool (H,I,q)
 |int i =>
  let(t,U):=g;let e':k=(i != 0):=e;subst e';exact PySem.P.truthy_int (H,I,q)
 |str y =>
  let(t,U):=g;let(V,e'):=e;subst e';exact PySem.P.truthy_str (by omega) (H,I.tok _,q)
 |byt y =>
  let(t,U):=g;let(V,e'):=e;subst e';exact W.truthy_bytes (by omega) (H,I.tok _,q)
 |ref p =>
  cases g;let e':=e;obtain⟨xs,hx,e'⟩|⟨xs,hx,e'⟩|⟨kvs,hx,e'⟩:=e'
  ·subst e';let(its,r,pl,z):=I.list hx;let hlen:=r.length;exact wpAny_truthy_list pl.isList (by simp only[pM];omega) (H,I.tok _,by rw[sC r];exact q)
  ·subst e';let(its,r,pl,z):=I.tuple hx;let hlen:=r.length;exact truthy_tuple pl (by simp only[pM];omega) (H,I.tok _,by rw[sC r];exact q)
  ·subst e';let(z,hS,vs,r,m):=I.hok p _ hx;let hlen:kvs.length=vs.length:=Paired.length r;exact wpAny_truthy_dict hS m (by omega) (H,I.tok _,by rw[Bw r];exact q)
 |_=>exact(show False from e).elim
def Hc(ha:PE X a ta)(he:∀whole,isTrue a X.env whole=(do let v <- whole;standAt a.pos;holding [v] (truthy v))):
  PT X a (λσ H Q=>ta σ H λx H'=>∃k,NG X.K x H' k/\Q k H'):=by
 left;exact isTrue_plain (thn (ha gV s σ H _ I h) λv s1 (x,H1,z,g,q)=>OE gV s1 σ H1 x v Q z g q) (he _)
def Bj:OpR X (binaryOp .Add) (λx y H Q=>∃i j,x=.str i/\y=.str j/\i.length+j.length<=mu/\Q (.str (i++j)) H):=by
 intro gV s σ H x y v u Q I z g h;let(i,j,U,U,K,q):=h;let(t,U):=z;let(t',U):=g;exact add_str (λt' tk=>(.str (i++j),H,I.tok _,(_,U),q)) K
def vals1{x:V}(r:Vals [x] us):∃u,us=[u]/\RelV x u:=by
 cases r with
 |cons q g=>cases g;exact(_,U,q)
def vals2{x:V}(r:Vals [x,y] us):∃u g,us=[u,g]/\RelV x u/\RelV y g:=by
 cases r with
 |cons P K =>
  cases K with
  |cons z q=>cases q;exact(_,_,U,P,z)
def iC(g:X.calm=O):cE X (.builtin "max") (λxs H Q=>∃i j,xs=[.int i,.int j]/\Q (.int (if j > i then j else i)) H):=by
 intro gV s σ H xs us Q I r h;let(i,j,U,q):=h;let(u,z,U,(t,U),(t',U)):=vals2 r;refine max_two_ints (I.ok.hd g) λh' tk k=>(_,H,I.kept k,?_,q)
 by_cases hj:j > i
 ·rw[if_pos hj,if_pos hj];exact(_,U)
 ·rw[if_neg hj,if_neg hj];exact(_,U)
def E5(g:X.calm=O):cE X (.builtin "min") (λxs H Q=>∃i j,xs=[.int i,.int j]/\Q (.int (if j<i then j else i)) H):=by
 intro gV s σ H xs us Q I r h;let(i,j,U,q):=h;let(u,z,U,(t,U),(t',U)):=vals2 r;refine min_two_ints (I.ok.hd g) λh' tk k=>(_,H,I.kept k,?_,q)
 by_cases hj:j<i
 ·rw[if_pos hj,if_pos hj];exact(_,U)
 ·rw[if_neg hj,if_neg hj];exact(_,U)
def oj:cE X (.type "int") (λxs H Q=>(∃i,xs=[.int i]/\Q (.int i) H)\/∃k,xs=[.bl k]/\Q (.int (if k then 1 else 0)) H):=by
 intro gV s σ H xs us Q I r h;obtain⟨i,rfl,q⟩|⟨k,rfl,q⟩:=h
 ·let(u,U,t,U):=vals1 r;exact call_int_int (.int i,H,I,(_,U),q)
 ·let(u,U,g):=vals1 r;cases g;exact call_int_bool (.int (if k then 1 else 0),H,I.tok _,(_,U),q)
end
structure BN(h:Do)(x dx C:J)(mA:Str->Option B):Prop where
 obj:h.get? x=Z (W.instObj C dx)
 ns:h.Ns1 dx mA
 ne:dx≠x
variable{dx:J}{mA:Str->Option B}
theorem EH{h:Do}(n:h.Ns1 dx mA):∃od,h.get? dx=Z od/\∀name,W.lookIn name od=Z (mA name):=by
 let(o,es,V,ho,hd,K,_,hm):=n;refine(o,ho,λname=>?_)
 let e:=hm name;unfold nsFind findBy at e;rw[<- Array.find?_toList]at e;unfold W.lookIn;rw[hd];dsimp only
 split
 ·rename_i y q;rw[q]at e;exact congrArg Z e
 ·rename_i q;rw[q]at e;let a:es.toList.any (·.refKey)=false:=by
   rw[Xr];intro y g;let(z,t,Q):=K y (Array.mem_toList_iff.mp g);simp[DictEntry.refKey,Q]
  let P:¬ es.toList.any (·.refKey)=true:=by rw[a];exact qE
  rw[if_neg P];exact congrArg Z e
variable{C:J}
theorem BN.look{x:J}(I:BN h x dx C mA):∃od,W.InstAt h x (W.instObj C dx) C (Z od)/\∀name,W.lookIn name od=Z (mA name) :=
 let(od,ho,hl):=EH I.ns
 (od,(I.obj,U,U,ho),hl)
variable{R:Result->ϋ->Prop}{kw:List (Str×B)}
section
variable{prog:Da}{w:Cl}{s:ϋ}{K:BT}{x f:J}{name:Str}{v:B}
theorem get_map(X:K.In s.heap)(I:BN s.heap x dx C mA)(hg:W.plainGet K C name=O)(q:W.hasDictIn K C=O)
  (ha:W.findIn K (.ref C) name=Z Y) (hv:mA name=Z v) (g:W.handedIn v=O) (h:Q v {s with toks:=s.toks+1}):
  wpAny (model prog w) A (getAttr (.ref x) name expr) Q E s:=by
 let(od,YB,hl):=I.look;exact W.get_value X YB (W.plainGet_of hg).1 (W.findObj_own q ha U (by rw[hl,hv])) g h
theorem IS{Q:B×List B->ϋ->Prop}(X:K.In s.heap)(I:BN s.heap x dx C mA)(hg:W.plainGet K C name=O)
  (hf:W.findIn K (.ref C) name=Z (Z (.ref f))) (g:W.isFn K (.ref f)=O) (hv:mA name=Y) (h:Q (.ref f,[.ref x]) s):
  wpAny (model prog w) A (getMethod (.ref x) name pl) Q E s:=by
 let(od,YB,hl):=I.look;exact W.method_fn X YB (W.plainGet_of hg).1 (W.plainGet_of hg).2 hf (beq_iff_eq.mp g) (by show(W.lookIn name od).map (·.isSome)=Z ϊ;rw[hl,hv];rfl) h
theorem Kx{Q:Unit->ϋ->Prop}(X:K.In s.heap)(I:BN s.heap x dx C mA)
  (hs:W.findIn K (.ref C) "__setattr__"=Z (Z (.builtin "object.__setattr__"))) (hp:W.plainOver K C=O) (ht:W.takerIn K C name=Z Y) (hh:W.hasDictIn K C=O)
  (hw:PySem.Within mA ns) (hsz:ns.length<=mu)
  (h:∀h',BN h' x dx C (λy=>if y=name then Z v else mA y)->WC dx s.heap h'->Q () {s with heap:=h',toks:=s.toks+2}):
  wpAny (model prog w) A (setAttr (.ref x) name v) Q E s:=by
 let(od,YB,hl):=I.look;refine W.set_plain X YB hs (W.osa_open X YB hp ht λb=>?_)
 let(cd,hc,V):=W.any_some hh;let hx:=I.obj;refine dD (kL (dD (dD (wpAny_loadPart hx (dD (W.Looks.here (W.looks_clsIn X hc) ?_))))));rw[V];refine kL (dD (kL (dD ?_)));refine wpAny_nsSet1 I.ns λh' q g=>?_
 let(oD,az,aD,z,P,av):=q.count (PySem.Within.cons name v hw);exact dD (wpAny_lookBehind z (by rw[P];exact pastItsLine_dict (xZ av (by rw[rl];omega))) (kL (h _ ((g.2 _ (Ne.symm I.ne)).trans I.obj,q,I.ne) g)))
theorem Ii(X:K.In s.heap)(hm:W.makesIn K C=O)
  (hi:W.findIn K (.ref C) "__init__"=Z (Z (.ref f))) (hf:W.typeIn K (.ref f)=Z (.type "function"))
  (h:codeAny (model prog w) (A.under (.builtin "type.__call__" (.ref C::vs,kw))) (.call (.ref f) (.ref (s.heap.objs.size+1)::vs,kw)) (W.InitBack (s.heap.objs.size+1) R)
   {s with heap:=(s.heap.push W.emptyDict).push (W.instObj C s.heap.objs.size)}):
  codeAny (model prog w) A (.call (.ref C) (vs,kw)) R s:=by
 exact W.make_core (W.makes_of X hm) (W.looks_findIn X hi) (λself=>W.bind_fn X self hf) (.inl U) h
end
def eU(f:Str)(v:V):List (Str×V)->List (Str×V)
 |[]=>[(f,v)]
 | (g,x)::r=>if g=f then(g,v)::r else(g,x)::eU f v r
theorem oH(f g:Str)(v:V):∀fs:List (Str×V),(eU f v fs).lookup g=if g=f then Z v else fs.lookup g
 |[]=>by
  show Wu g [(f,v)]=_;by_cases h:g=f
  ·let q:=beq_iff_eq.mpr h;simp only[Wu,q,if_pos h]
  ·let q:=beq_eq_false_iff_ne.mpr h;simp only[Wu,q,if_neg h]
 | (k,x)::r=>by
  let K:=oH f g v r;rw[show eU f v ((k,x)::r)=(if k=f then(k,v)::r else(k,x)::eU f v r)from rfl]
  by_cases z:k=f
  ·rw[if_pos z];by_cases h:g=k
   ·let q:=beq_iff_eq.mpr h;simp only[Wu,q,if_pos (h.trans z)]
   ·let q:=beq_eq_false_iff_ne.mpr h;simp only[Wu,q,if_neg (λe:g=f=>h (e.trans z.symm))]
  ·rw[if_neg z];by_cases h:g=k
   ·let q:=beq_iff_eq.mpr h;simp only[Wu,q,if_neg (λe=>z (h.symm.trans e))]
   ·let q:=beq_eq_false_iff_ne.mpr h;simp only[Wu,q];exact K
theorem nV(f:Str)(v:V):∀fs:List (Str×V),f∈(eU f v fs).map (·.1)/\∀g,g∈fs.map (·.1)->g∈(eU f v fs).map (·.1)
 |[]=>(by simp[eU],λg h=>by simp at h)
 | (k,x)::r=>by
  let(i1,i2):=nV f v r;rw[show eU f v ((k,x)::r)=(if k=f then(k,v)::r else(k,x)::eU f v r)from rfl]
  by_cases q:k=f
  ·rw[if_pos q];subst q;exact(by simp,λg h=>by simpa using h)
  ·rw[if_neg q];refine(?_,λg h=>?_)
   ·exact j0 _ i1
   ·obtain e|e:=kz.mp h
    ·exact kz.mpr (.inl e)
    ·exact j0 _ (i2 g e)
theorem oI(f:Str)(v:V):∀fs:List (Str×V),(eU f v fs).length<=fs.length+1
 |[]=>by simp[eU]
 | (k,x)::r=>by
  let q:=oI f v r;rw[show eU f v ((k,x)::r)=(if k=f then(k,v)::r else(k,x)::eU f v r)from rfl]
  by_cases g:k=f
  ·rw[if_pos g,rl,rl];lia
  ·rw[if_neg g,rl,rl];lia
def iD.some_of{o:Option B}(r:iD (Z v) o):∃u,o=Z u/\RelV v u:=by
 cases o with
 |none=>exact(r).elim
 |some u=>exact(u,U,r)
def iD.none_of{o:Option B}(r:iD Y o):o=none:=by
 cases o with
 |none=>rfl
 |some u=>exact(r).elim
theorem ES(r:RelV v u):W.handedIn u=true:=by
 cases v with
 |non=>cases(r);rfl
 |bl b=>cases(r);rfl
 |int i=>let(t,e):=(r);cases e;rfl
 |str x=>let(t,e):=(r);cases e;rfl
 |byt b=>let(t,e):=(r);cases e;rfl
 |flt b=>let(t,e):=(r);cases e;rfl
 |ref a=>cases(r);rfl
 |ty n=>cases(r);rfl
section
variable{w:Cl}{h:Do}{fs:List (Str×V)}
def p8(hok:HOk P w H h)(e:H a=Z (.ins C dx fs)):∃mA,BN h a dx C mA/\(∀f,iD (fs.lookup f) (mA f))/\PySem.Within mA (fs.map (·.1))/\fs.length<=1000/\H dx=Z (.own a):=by
 let(d,z,ne,ob,mA,n,r,q):=(hok a _ e);exact(mA,(ob,n,ne),r,q,z,d)
end
structure Cls(K:BT)(C:J):Prop where
 pg:W.plainGet K C Str.empty=O
 hd:W.hasDictIn K C=O
 po:W.plainOver K C=O
 sa:W.findIn K (.ref C) "__setattr__"=Z (Z (.builtin "object.__setattr__"))
theorem Cls.get{K:BT}(c:Cls K C)(f:Str):W.plainGet K C f=true:=c.pg
def bf(K:BT)(C:J)(f:Str):Prop:=W.findIn K (.ref C) f=Z Y
theorem bf.RF{K:BT}(n:bf K C f):W.takerIn K C f=Z none:=by
 unfold W.takerIn;rw[n];rfl
structure Meth(K:BT)(C:J)(m:Str)(f:J):Prop where
 at_:W.findIn K (.ref C) m=Z (Z (.ref f))
 fn:W.isFn K (.ref f)=O
 kp:W.keepIn K (.ref f)=O
variable{prog:Da}
section
variable{σ:St}{s:ϋ}{fs:List (Str×V)}{f:Str}{v:V}
def lB{b:Bool}(I:Inv X gV σ H s)(e:H a=Z (.ins C dx fs))(c:Cls X.K C)(n:bf X.K C f)(l:fs.lookup f=Z v)
  (h:∀u s',Inv X gV σ H s'->RelV v u->Q u s'):wpAny (model X.prog X.w) A (getAttr (.ref a) f b) Q E s:=by
 let(mA,Yy,r,_,_,_):=p8 I.hok e;let(u,g,ru):=iD.some_of (by rw[<- l];exact r f)
 exact get_map I.kIn Yy (c.get f) c.hd n g (ES ru) (h u _ (I.tok _) ru)
def sH{pl:Sem Bool}{Q:B×List B->ϋ->Prop}(I:Inv X gV σ H s)(e:H a=Z (.ins C dx fs))(c:Cls X.K C)(k:Meth X.K C m g)(l:fs.lookup m=Y)
  (h:Q (.ref g,[.ref a]) s):wpAny (model X.prog X.w) A (getMethod (.ref a) m pl) Q E s:=by
 let(mA,Yy,r,_,_,_):=p8 I.hok e;let hn:=iD.none_of (by rw[<- l];exact r m)
 exact IS I.kIn Yy (c.get m) k.at_ k.fn hn h
def qV{Q:Unit->ϋ->Prop}(I:Inv X gV σ H s)(e:H a=Z (.ins C dx fs))(c:Cls X.K C)(n:bf X.K C f)(hl:fs.length<1000)(V:RelV y u)
  (h:∀s',Inv X gV σ (upd H a (.ins C dx (eU f y fs))) s'->Q () s'):wpAny (model X.prog X.w) A (setAttr (.ref a) f u) Q E s:=by
 let(mA,Yy,r,wi,_,ho):=p8 I.hok e;let hz:(fs.map (·.1)).length<=mu:=by rw[ej,Xc];lia
 refine Kx I.kIn Yy c.sa c.po n.RF c.hd wi hz λh' P sb=>h _ ?_
 let hd:∃o,h'.get? dx=Z o:=let(o,_,_,e',_):=P.ns;(o,e')
 refine I.write (x:=a) (e:=dx) (by rw[e];exact True.intro) (.inr ho) (λb q hb z=>(sb.2 b hb).trans z) hd (by rw[aj Yy.ne];exact ho,?_,Yy.ne,P.obj,_,P.ns,λg=>?_,λg hg=>?_)
 ·have:=oI f y fs;lia
 ·rw[oH];by_cases q:g=f
  ·rw[if_pos q,if_pos q];exact V
  ·rw[if_neg q,if_neg q];exact r g
 ·by_cases q:g=f
  ·rw[q];exact(nV f y fs).1
  ·refine(nV f y fs).2 g (wi g λz=>hg ?_)
   show(if g=f then Z u else mA g)=Y
   rw[if_neg q];exact z
theorem Inv.made(I:Inv X gV σ H s):Inv X gV σ (upd (upd H s.heap.objs.size (.own (s.heap.objs.size+1))) (s.heap.objs.size+1) (.ins C s.heap.objs.size []))
  {s with heap:=(s.heap.push W.emptyDict).push (W.instObj C s.heap.objs.size)}:=by
 let g:(s.heap.push W.emptyDict).get? s.heap.objs.size=Z W.emptyDict:=p6 s.heap U;let P:=by
  have:=p6 (s.heap.push W.emptyDict) (o:=W.instObj C s.heap.objs.size) U
  rwa [Fs]at this
 let K:(s.heap.push W.emptyDict).Ns s.heap.objs.size (λ_=>Y):=(W.emptyDict,#[],_,g,U,(λe he=>absurd he (by simp)),λ_=>rfl)
 let Q:=I.laid (o:=.own (s.heap.objs.size+1)) (t':=s.toks) (λb u q=>j3 _ q) (m9 _) (_,g)
 refine Q.laid (λb u q=>j3 _ q) (Nat.le_of_eq (Fs _ _)) ?_
 let ne:s.heap.objs.size≠s.heap.objs.size+1:=ui (Wn _);refine(by rw[aj ne,aw],JG _,ne,P,λ_=>Y,(Heap.Ns1.of_empty K).at λo q=>j3 _ q,λ_=>True.intro,λy z=>absurd U z)
def Dw(q:attributeBase e f env (eval e env)=eval e env)
  (h:wpAny (model prog w) A (eval e env) (λo g=>wpAny (model prog w) A (getAttr o f O) Q E g) E s):wpAny (model prog w) A (eval (.Attribute e f pos) env) Q E s :=
 Attribute_any_ h (by rw[arm_eval_Attribute,q])
end
def ON(K:BT)(ta:TE)(f:Str):TE:=λσ H Q=>ta σ H λx H1=>∃a C dx fs v,x=.ref a/\H1 a=Z (.ins C dx fs)/\Cls K C/\bf K C f/\fs.lookup f=Z v/\Q v H1
def RM(K:BT)(ta tv:TE)(f:Str):TS:=λD σ H=>tv σ H λy H1=>ta σ H1 λx H2=>∃a C dx fs,x=.ref a/\H2 a=Z (.ins C dx fs)/\Cls K C/\bf K C f/\fs.length<1000 /\
 D.nx σ (upd H2 a (.ins C dx (eU f y fs)))
def Rh(X:Cx)(op:Operator)(rd:V->V->Hp->VK->Prop):Prop :=
 ∀(gV:List (J×Obj))(s:ϋ)(σ:St)(H:Hp)(x y:V)(u v:B)(Q:VK),Inv X gV σ H s->RelV x u->RelV y v->rd x y H Q->Zc X (inplaceOp op u v) (EP X gV σ Q) X.xe s
def Cg(K:BT)(ta tv:TE)(rd:V->V->Hp->VK->Prop)(f:Str):TS:=λD σ H=>ta σ H λx H1=>∃a C dx fs v,x=.ref a/\H1 a=Z (.ins C dx fs)/\Cls K C/\bf K C f/\fs.lookup f=Z v /\
 tv σ H1 λy H2=>rd v y H2 λz P=>∃q g,P a=Z (.ins C q g)/\g.length<1000/\D.nx σ (upd P a (.ins C q (eU f z g)))
section
variable{value:Ev}{f:Str}{pos FF:Pos}{ta tv:TE}
def Hy(he:PE X e ta)(P:attributeBase e f X.env (eval e X.env)=eval e X.env):PE X (.Attribute e f pos) (ON X.K ta f):=by
 left;refine Dw P (thn (he gV s σ H _ I h) λu s1 g=>?_)
 let(x,H1,I1,z,a,C,dx,fs,v,ex,V,c,n,l,q):=g;subst ex;obtain rfl:=z;exact lB I1 V c n l λu' s2 I2 ru=>(v,H1,I2,ru,q)
def wD(ha:PE X o ta)(hv:PE X value tv)(hs:swapsWith value (Z (.Attribute o f pos')) pos.line X.env=pure ϊ):PS X (.Assign [.Attribute o f pos'] value pos) (RM X.K ta tv f):=by
 right;refine plainObj_wpAny_Assign_Attribute (thn (hv gV s σ H _ I h) λu s1 (y,H1,I1,z,q)=>thn (ha gV s1 σ H1 _ I1 q) λov s2 g=>?_) hs
 let(x,H2,I2,P,a,C,dx,fs,ex,V,c,n,l,Q):=g;subst ex;obtain rfl:=P;exact qV I2 V c n l z λs3 I3=>(σ,_,I3,Q)
def Ei{op:Operator}(ha:PE X o ta)(hv:PE X value tv)(g:Rh X op rd):PS X (.AugAssign (.Attribute o f FF) op value pos) (Cg X.K ta tv rd f):=by
 right;refine wpAny_AugAssign_AttributeAny (thn (ha gV s σ H _ I h) λov s1 P=>?_)
 let(x,H1,I1,rx,a,C,dx,fs,v,ex,ea,c,n,l,q):=P;subst ex;obtain rfl:=rx;exact lB I1 ea c n l λu s2 I2 ru=>thn (hv gV s2 σ H1 _ I2 q) λw3 s3 (y,H2,I3,ry,q3)=>thn (g gV s3 σ H2 v y u w3 _ I3 ru ry q3) λw4 s4 (z,H3,I4,rz,az,av,Q,l',q4)=>(qV I4 Q c n l' rz λs5 I5=>(σ,_,I5,q4))
inductive O5(x:V)(y:V)(H:Hp)(Q:VK):Prop
 |mk(i j)(h1:x=.int i)(h2:y=.int j)(h3:Q (.int (i+j)) H)
def Bx:Rh X .Add O5:=by
 rintro gV s σ H x y u v Q I z g ⟨i,j,rfl,rfl,q⟩
 let(t,U):=(z);let(t',U):=(g);exact PyProof.Rows.iadd_int (.int (i+j),H,I.tok _,(_,U),q)
end
section
variable{σ:St}{s:ϋ}{c:B}{b:Bool}
inductive kI(K:BT)(H:Hp):V->B->Prop where
 |non:kI K H .non (.type "NoneType")
 |bl(x:Bool):kI K H (.bl x) (.type "bool")
 |int(i:Int):kI K H (.int i) (.type "int")
 |str(x:Str):kI K H (.str x) (.type "str")
 |flt(x:UInt64):kI K H (.flt x) (.type "float")
 |lst{a:J}{xs:List V}(e:H a=Z (.lst xs)):kI K H (.ref a) (.type "list")
 |frz{a:J}{o:Obj}{xs:List V}(e:H a=Z (.frz o (.lst xs))):kI K H (.ref a) (.type "list")
 |tup{a:J}{xs:List V}(e:H a=Z (.tup xs)):kI K H (.ref a) (.type "tuple")
 |dK{a:J}{kvs:List (Key×V)}(e:H a=Z (.dK kvs)):kI K H (.ref a) (.type "dict")
 |dT{a:J}{kvs:List (List Key×V)}(e:H a=Z (.dT kvs)):kI K H (.ref a) (.type "dict")
 |ins{a C dx:J}{fs:List (Str×V)}(e:H a=Z (.ins C dx fs))(cl:Cls K C)(ha:W.findIn K (.ref C) "__class__"=Z (Z (.builtin "object.__class__")))
   (hn:W.specialIn K (.builtin "object.__class__") "__get__"=Z (Z (.builtin "getset_descriptor.__get__"))) (htk:W.takesIn K (.builtin "object.__class__")=Z O)
   (hm:W.mroIn K C (.type "object")=Z O):kI K H (.ref a) (.ref C)
theorem EN{x:V}{t:B}(I:Inv X gV σ H s)(g:RelV x u)(ty:kI X.K H x t)(e:W.kitOne X.K t c=Z b)(h:∀tk,Q (.bool b) {s with toks:=tk}):
  wpAny (model X.prog X.w) A (call (.builtin "isinstance") [u,c]) Q E s:=by
 cases ty with
 |non=>cases(g);exact W.kia_one W.kitx_none I.kIn True.intro e (λz=>nomatch z) h
 |bl y=>cases(g);exact W.kia_one W.kitx_bool I.kIn True.intro e (λz=>nomatch z) h
 |int i=>let(t,q):=(g);cases q;exact W.kia_one W.kitx_int I.kIn True.intro e (λz=>nomatch z) h
 |str y=>let(t,q):=(g);cases q;exact W.kia_one W.kitx_str I.kIn True.intro e (λz=>nomatch z) h
 |flt y=>let(t,q):=(g);cases q;exact W.kia_one W.kitx_float I.kIn True.intro e (λz=>nomatch z) h
 |@lst a xs P =>
  cases(g)
  let(_,_,n,_,h1):=(I.hok a _ P);exact W.kia_one W.kitx_list I.kIn (_,h1,U) e (λz=>nomatch z) h
 |@frz a ob xs P =>
  cases(g)
  let(_,_,_,n,_,h1):=(I.hok a _ P);exact W.kia_one W.kitx_list I.kIn (_,h1,U) e (λz=>nomatch z) h
 |@tup a xs P =>
  cases(g)
  let(_,_,_,p):=(I.hok a _ P);let(o,h1,h2,_):=p.1;exact W.kia_one W.kitx_tuple I.kIn (o,h1,h2) e (λz=>nomatch z) h
 |@dK a kvs P =>
  cases(g)
  let(_,_,vs,_,p):=(I.hok a _ P);let(o,es,ep,h1,h2,_):=p;exact W.kia_one W.kitx_dict I.kIn (o,h1,h2.1) e (λz=>nomatch z) h
 |@dT a kvs P =>
  cases(g)
  let(_,_,xs,_,o,es,ep,h1,h2,_):=(I.hok a _ P);exact W.kia_one W.kitx_dict I.kIn (o,h1,h2.1) e (λz=>nomatch z) h
 |@ins a C dx fs P cl ha hn htk hm =>
  cases(g)
  let(mA,Yy,_):=p8 I.hok P;let(od,YB,_):=Yy.look;exact W.kia_one (W.kitx_own (cl.get _) cl.hd ha hn htk hm) I.kIn YB e (λz=>nomatch z) h
end
structure cu(k:Nat)(A:Db):Prop where
 hd:A.handled=Y
 dp:A.depth+3*k+5<recursionLimit
 un:A.units+16*k+200<cLine
def cu.mono(r:cu k A)(h:j<=k):cu j A:=(r.hd,by have:=r.dp;lia,by have:=r.un;lia)
def cu.bw(r:cu k A)(h:j<=k:=by first|decide|lia):cu j A:=r.mono h
theorem cu.deeper(r:cu (k+1) A)(env:Env):cu k (A.deeper env) :=
 (r.hd,by have:=r.dp;show A.depth+1+3*k+5<_;lia,by have:=r.un;show A.units+3+16*k+200<_;lia)
def Bu:(A.under (.builtin "type.__call__" (.ref C::us,kw))).depth=A.depth+1:=by
 rfl
def Bt:(A.under (.builtin "type.__call__" (.ref C::us,kw))).units=A.units+1:=by
 rfl
def cu.make(r:cu (k+1) A)(C:J)(us:List B)(kw:List (Str×B)):cu k (A.under (.builtin "type.__call__" (.ref C::us,kw))) :=
 (r.hd,by have:=r.dp;rw[Bu];lia,by have:=r.un;rw[Bt];lia)
theorem cu.depth(r:cu k A):A.depth<recursionLimit:=by have:=r.dp;lia
theorem cu.units(r:cu k A):A.units+64<cLine:=by have:=r.un;lia
def f6:TA:=λ_ H Q=>Q [] H
def dh(ta:TE)(g:TA):TA:=λσ H Q=>ta σ H λx H1=>g σ H1 λxs H2=>Q (x::xs) H2
section
variable{t:TA}{pos:Pos}
def eh:PA X [] f6:=λ_ _ _ _ H Q I h=>Calls.spliced_nil ([],H,I,.nil,h)
abbrev AC(X:Cx)(e:Ev)(f:List Ev):Prop:=kh (e::f) X.env=(false,eval e X.env)::kh f X.env
def bN(ha:PE X e te)(hr:PA X es t)(hs:AC X e es:=by rfl):PA X (e::es) (dh te t):=by
 intro pos gV s σ H Q I h;rw[hs];show wpAny _ _ (spliced ((ϊ,eval e X.env)::backTo pos (kh es X.env))) _ _ s;exact Calls.spliced_cons (thn (ha gV s σ H _ I h) λu s1 (x,H1,V,q,K)=>(thn (hr pos gV s1 σ H1 _ V K) λus s2 (xs,H2,P,g,z)=>(x::xs,H2,P,.cons q g,z)))
def OG(t:TA):TE:=λσ H Q=>t σ H λxs H1=>xs.length<=mu/\∀p,H1 p=Y->Q (.ref p) (upd H1 p (.tup xs))
def RG(t:TA):TE:=λσ H Q=>t σ H λxs H1=>xs.length<=mu/\∀p,H1 p=Y->Q (.ref p) (upd H1 p (.lst xs))
def Ht{K}(h:PA X es t):PE X (.Tuple es K pos) (OG t):=by
 intro gV s σ H Q I hq;refine wpAny_Tuple_spliced (thn (h pos gV s σ H _ I hq) λus s1 (xs,H1,g,r,z,q)=>(by rw[<- r.length];exact z,?_))
 let hf:=g.hok.fresh (m9 _);refine(.ref s1.heap.objs.size,upd H1 s1.heap.objs.size (.tup xs),g.laid (λb u e=>j3 _ e) (m9 _) ?_,U,q _ hf)
 exact(z,us,r,((_,p6 _ U,U,_,U),_,p6 _ U,U))
def PN(h:PA X es t):PE X (.List es pos) (RG t):=by
 intro gV s σ H Q I hq;refine wpAny_List_spliced (thn (h pos gV s σ H _ I hq) λus s1 (xs,H1,g,r,z,q)=>(by rw[<- r.length];exact z,?_))
 let hf:=g.hok.fresh (m9 _);refine(.ref s1.heap.objs.size,upd H1 s1.heap.objs.size (.lst xs),g.laid (λb u e=>j3 _ e) (m9 _) ?_,U,q _ hf)
 exact(z,us,0,r,p6 _ U)
end
abbrev Sp:=List V->Hp->VK->XK->Prop
abbrev CXT:=List Env->Hp->ϋ->XK->B->ϋ->Prop
structure BS(P:Da)(w:Cl)(K:BT)(mg:Str->Option B)(base:Do)(A:Db)(outer:List Env)(s:ϋ)(H:Hp):Prop where
 frames:A.frames=Z outer
 mod:Mod K mg base
 bs:∀b o,base.get? b=Z o->s.heap.get? b=Z o/\H b=Y
 bsz:base.objs.size<=s.heap.objs.size
 pC:s.heap.FunFrames base outer
 frf:∀b∈frs outer,H b=Y
 hok:HOk P w H s.heap
 bare:AllBare s.gens
def CE(outer:List Env)(P:Da)(w:Cl)(H:Hp)(s:ϋ)(Q:VK)(u:B)(s':ϋ):Prop :=
 ∃v H',s'.os=s.os/\AllBare s'.gens/\Un (frs outer) [] H H' s.heap s'.heap/\HOk P w H' s'.heap/\RelV v u/\Q v H'
def CR(CX:CXT)(outer:List Env)(P:Da)(w:Cl)(H:Hp)(s:ϋ)(Q:VK)(E:XK)(r:Result)(s':ϋ):Prop :=
 match r with
 |.ok (.ret u)=>CE outer P w H s Q u s'
 |.ok _=>False
 |.error e=>CX outer H s E e s'
structure bb(P:Da)(w:Cl)(K:BT)(mg:Str->Option B)(base:Do)(CX:CXT)(k:Nat)(f:J)(fd:Ch)(ps:List Str)(sp:Sp):Prop where
 len:∀vs H Q E,sp vs H Q E->vs.length=ps.length
 run:∀(A:Db)(outer:List Env)(s:ϋ)(H:Hp)(args:Args)(us:List B)(vs:List V)(Q:VK)(E:XK),cu k A->BS P w K mg base A outer s H->BindsTo s fd args (ps.zip us)->Vals vs us->sp vs H Q E ->
  codeAny (model P w) A (.call (.ref f) args) (CR CX outer P w H s Q E) s
variable{mg:Str->Option B}{base:Do}{CX:CXT}{fd:Ch}{sp:Sp}
theorem bb.imp{K:BT}(F:bb P w K mg base CX k f fd ps sp)
  (h:∀vs H Q E,g vs H Q E->sp vs H Q E):bb P w K mg base CX k f fd ps g :=
 (λvs H Q E q=>F.len vs H Q E (h _ _ _ _ q),λA outer s H args us vs Q E hr he z hv hs=>F.run A outer s H args us vs Q E hr he z hv (h _ _ _ _ hs))
theorem BS.make{K:BT}(e:BS P w K mg base A outer s H)(C:J)(us:List B)(kw:List (Str×B)):
  BS P w K mg base (A.under (.builtin "type.__call__" (.ref C::us,kw))) outer s H:=(by exact e.frames,e.mod,e.bs,e.bsz,e.pC,e.frf,e.hok,e.bare)
section
variable{σ:St}{s:ϋ}
def Inv.TV(I:Inv X gV σ H s):BS X.prog X.w X.K X.mg X.base X.A X.stack s H :=
 (I.ok.frames,I.ok.mod,I.bs,xZ I.ok.bsz I.sz,I.stack,I.B8,I.hok,I.bare)
def Inv.after{Q:VK}(I:Inv X gV σ H s)(h:CE X.stack X.prog X.w H s Q u s'):EP X gV σ Q u s':=by
 let(v,H',os,bare,un,hok,r,q):=h;let(P,g,d,t,K):=s';obtain rfl:=os;exact(v,H',I.call un hok bare (λb z=>absurd z (by simp)),r,q)
end
def qO(sp:Sp)(dvs:List V)(E:XK)(t:TA):TE:=λσ H Q=>t σ H λvs H1=>sp (vs++dvs) H1 Q E
def lT(C:J)(m:Str)(sp:Sp)(dvs:List V)(E:XK)(ta:TE)(t:TA):TE:=λσ H Q=>ta σ H λx H1=>∃a dx fs,x=.ref a/\H1 a=Z (.ins C dx fs)/\fs.lookup m=Y /\
 t σ H1 λvs H2=>sp (x ::(vs++dvs)) H2 Q E
def FN(C:J)(sp:Sp)(dvs:List V)(E:XK)(t:TA):TE:=λσ H Q=>t σ H λvs H1=>∀x dx,H1 x=Y->H1 dx=Y->dx≠x ->
 sp (.ref x ::(vs++dvs)) (upd (upd H1 dx (.own x)) x (.ins C dx [])) (λv H2=>v=.non/\Q (.ref x) H2) E
def Binds(K:BT)(fd:Ch)(ps:List Str)(ds:List B):Prop :=
 ∀(s:ϋ)(us:List B),K.In s.heap->(us++ds).length=ps.length->BindsTo s fd (us,[]) (ps.zip (us++ds))
theorem Binds.all{K:BT}(h:∀us:List B,us.length=ps.length->bindArgs fd (us,[])=pure (ps.zip us)):Binds K fd ps []:=λs us _ hl=>by
 rw[tG]at hl ⊢;exact .of_eq (h us hl)
def Passes(CX:CXT)(X:Cx)(E:XK):Prop:=∀(gV:List (J×Obj))(σ:St)(H:Hp)(s:ϋ)(e:B)(s':ϋ),Inv X gV σ H s->CX X.stack H s E e s'->X.xe e s'
section
variable{k:Nat}{f:J}{ps:List Str}{dvs:List V}{ds:List B}{E:XK}{m:Str}{p pos apos:Pos}{ta:TE}{t:TA}
theorem AN{σ:St}{Q:VK}(F:bb X.prog X.w X.K X.mg X.base CX k f fd ps sp)(hr:cu k X.A)(q:Binds X.K fd ps ds)(hd:Vals dvs ds)(hx:Passes CX X E)
  (I:Inv X gV σ H s) (r:Vals vs us) (h:sp (vs++dvs) H Q E):Zc X (call (.ref f) us) (EP X gV σ Q) X.xe s:=by
 let g:=r.append hd;let hl:(us++ds).length=ps.length:=by rw[<- g.length];exact F.len _ _ _ _ h
 refine wpAny_call (codeAny_mono (F.run X.A X.stack s H (us,[]) (us++ds) (vs++dvs) Q E hr I.TV (q s us I.kIn hl) g h) λr s' hq=>?_)
 cases r with
 |error e=>exact hx gV σ H s e s' I hq
 |ok fl =>
  cases fl with
  |ret u=>exact I.after hq
  |next=>exact False.elim hq
  |brk=>exact False.elim hq
  |cont=>exact False.elim hq
abbrev AM(X:Cx)(p:Pos)(e:List Ev):Prop:=(backTo p (kh e X.env)).any (·.1)=false
theorem wR(F:bb X.prog X.w X.K X.mg X.base CX k f fd ps sp)(hr:cu k X.A)(hg:Gl X x)(hm:X.mg x=Z (.ref f))(V:W.keepIn X.K (.ref f)=O)(hb:Binds X.K fd ps ds)(hd:Vals dvs ds)(hx:Passes CX X E)
  (ha:PA X (e::es) t) (z:AS x:=by decide) (he:AC X e es:=by rfl) (g:AM X pos es:=by rfl):
  PE X (.Call (.Name x p) (e::es) [] pos) (qO sp dvs E t):=by
 left;exact TH (pY I hg hm (W.callWith_K (h₀:=X.base) I.ok.mod.kin V (thn (ha pos gV s σ H _ I h) λus s1 (vs,H1,P,r,q)=>(P.kIn,(AN F hr hb hd hx P r q))) he g) z)
theorem CB{pl:Sem Bool}(he:PE X o ta)(c:Cls X.K C)(hm:Meth X.K C m f)(F:bb X.prog X.w X.K X.mg X.base CX k f fd ps sp)(hr:cu k X.A)(hb:Binds X.K fd ps ds)(hd:Vals dvs ds)(hx:Passes CX X E)(ha:PA X (e::es) t)
  (g:AC X e es:=by rfl) (z:AM X pos es:=by rfl)
  (ht:eval (.Call (.Attribute o m apos) (e::es) [] pos) X.env=(do
   let V <- eval o X.env
   standAt apos.atName
   let(f,first) <- holding [V] (getMethod V m pl)
   callWith pos f first (backTo pos (kh (e::es) X.env)) (backToKw pos (keywordEach [] X.env))):=by rfl):
  PE X (.Call (.Attribute o m apos) (e::es) [] pos) (lT C m sp dvs E ta t):=by
 left;refine W.methodCall_KW (thn (he gV s σ H _ I h) λu s1 P=>?_) ht
 let(x,H1,I1,rx,a,dx,fs,ex,ea,l,q):=P;subst ex;obtain rfl:=rx;refine sH I1 ea c hm l ?_;refine W.callWith_K I.ok.mod.kin hm.kp (thn (ha pos gV s1 σ H1 _ I1 q) λus s2 (vs,H2,I2,r,q2)=>(I2.kIn,?_)) g z
 exact AN (vs:=.ref a::vs) F hr hb hd hx I2 (.cons U r) q2
theorem rT(he:PE X o ta)(c:Cls X.K C)(hm:Meth X.K C m f)(F:bb X.prog X.w X.K X.mg X.base CX k f fd ps sp)(hr:cu k X.A)(hb:Binds X.K fd ps ds)(hd:Vals dvs ds)(hx:Passes CX X E)
  (ht:eval (.Call (.Attribute o m apos) [] [] pos) X.env=(do
   let P <- eval o X.env
   standAt apos.atName
   let(f,first) <- holding [P] (getMethod P m pl)
   callWith pos f first (backTo pos (kh [] X.env)) (backToKw pos (keywordEach [] X.env))):=by rfl):
  PE X (.Call (.Attribute o m apos) [] [] pos) (lT C m sp dvs E ta f6):=by
 left;refine W.methodCall_KW (thn (he gV s σ H _ I h) λu s1 g=>?_) ht
 let(x,H1,z,V,a,dx,fs,ex,ea,l,q):=g;subst ex;obtain rfl:=V;refine sH z ea c hm l ?_;exact W.callWith_K0 z.kIn hm.kp (AN (vs:=[.ref a]) F hr hb hd hx z (.cons U .nil) q)
structure Mk(K:BT)(C f:J):Prop where
 makes:W.makesIn K C=O
 init:W.findIn K (.ref C) "__init__"=Z (Z (.ref f))
 fn:W.isFn K (.ref f)=O
 kp:W.keepIn K (.ref C)=O
theorem yu{σ:St}{s:ϋ}{Q:VK}{vs:List V}(M:Mk X.K C f)(F:bb X.prog X.w X.K X.mg X.base CX k f fd ps sp)(hr:cu (k+1) X.A)(hb:Binds X.K fd ps ds)(hd:Vals dvs ds)
  (hx:Passes CX X E) (I:Inv X gV σ H s) (r:Vals vs us)
  (h:∀x dx,H x=Y->H dx=Y->dx≠x->sp (.ref x ::(vs++dvs)) (upd (upd H dx (.own x)) x (.ins C dx [])) (λv H2=>v=.non/\Q (.ref x) H2) E):
  Zc X (call (.ref C) us) (EP X gV σ Q) X.xe s:=by
 let hq:=h (s.heap.objs.size+1) s.heap.objs.size (I.hok.fresh (Nat.le_succ _)) (I.hok.fresh (m9 _)) (ui (Wn _));let q:=Inv.made (C:=C) I;let z:Vals (V.ref (s.heap.objs.size+1) ::(vs++dvs)) (B.ref (s.heap.objs.size+1) ::(us++ds)):=.cons U (r.append hd);let hl:=by
  let e:=z.length;rw[F.len _ _ _ _ hq]at e;exact e.symm
 refine wpAny_call (Ii I.kIn M.makes M.init (beq_iff_eq.mp M.fn) (codeAny_mono (F.run _ X.stack _ _ (B.ref (s.heap.objs.size+1)::us,[]) (B.ref (s.heap.objs.size+1) ::(us++ds)) _ _ E (hr.make C us [])
  (q.TV.make C us []) (hb _ (B.ref (s.heap.objs.size+1)::us) q.kIn hl) z hq) λr s' g=>?_))
 cases r with
 |error e=>exact hx gV σ _ _ e s' q g
 |ok fl =>
  cases fl with
  |ret u =>
   let(v,H',I3,rv,ev,P):=q.after g;subst ev;exact(rv,(V.ref (s.heap.objs.size+1),H',I3,U,P))
  |next=>exact False.elim g
  |brk=>exact False.elim g
  |cont=>exact False.elim g
theorem LU(M:Mk X.K C f)(F:bb X.prog X.w X.K X.mg X.base CX k f fd ps sp)(hr:cu (k+1) X.A)(hg:Gl X x)(hm:X.mg x=Z (.ref C))(V:Binds X.K fd ps ds)(hd:Vals dvs ds)(hx:Passes CX X E)
  (ha:PA X (e::es) t) (z:AS x:=by decide) (he:AC X e es:=by rfl) (g:AM X pos es:=by rfl):
  PE X (.Call (.Name x p) (e::es) [] pos) (FN C sp dvs E t):=by
 left;exact TH (pY I hg hm (W.callWith_K (h₀:=X.base) I.ok.mod.kin M.kp (thn (ha pos gV s σ H _ I h) λus s1 (vs,H1,P,r,q)=>(P.kIn,(yu M F hr V hd hx P r q))) he g) z)
end
def PK(X:Cx)(kws:List Keyword)(t:TA):Prop :=
 ∀(pos:Pos)(gV:List (J×Obj))(s:ϋ)(σ:St)(H:Hp)(Q:List V->Hp->Prop),Inv X gV σ H s->t σ H Q->Zc X (evalAll ((backToKw pos (keywordEach kws X.env)).map (·.2))) (AP X gV σ Q) X.xe s
section
variable{pos MU:Pos}{kws:List Keyword}{t:TA}{nm:Option Str}
def PC:PK X [] f6:=λ_ _ _ _ H Q I h=>wpAny_evalAll_nil ([],H,I,.nil,h)
def LO(ha:PE X e te)(hr:PK X kws t):PK X ((nm,e,MU)::kws) (dh te t):=by
 intro pos gV s σ H Q I h;show wpAny _ _ (evalAll ((do let v <- eval e X.env;standAt pos;pure v) ::(backToKw pos (keywordEach kws X.env)).map (·.2))) _ _ s
 exact wpAny_evalAll_cons (dD (thn (ha gV s σ H _ I h) λu s1 (x,H1,V,q,K)=>dD (wpAny_standAt (kL (thn (hr pos gV s1 σ H1 _ V K) λus s2 (xs,H2,P,g,z)=>(x::xs,H2,P,.cons q g,z))))))
end
structure aB(N P:List Str)(sc:Scope):Prop where
 kind:sc.kind=.function
 co:sc.isCoroutine=ϊ
 gen:sc.isGenerator=ϊ
 nd:N.Nodup
 pre:N.take P.length=P
 par:∀x∈P,sc.names.lookup x=Z .local\/sc.names.lookup x=Z .cell
 PZ:∀y∈sc.names,y.2 ≠ .free
theorem vw{kindOf:Str->Option NameKind}:∀{binds:List (Str×B)}{m:Str->Option B},(∀v,(x,v) ∉ binds)->bindL kindOf binds m x=m x
 |[],_,_=>rfl
 | (n,v)::r,m,h=>by
  unfold bindL;rw[vw λw hw=>h w (j0 _ hw)]
  split
  ·have:x≠n:=by rintro rfl;exact h v jf
   simp[this]
  ·rfl
theorem vy{kindOf:Str->Option NameKind}:∀{binds:List (Str×B)}{m:Str->Option B},(∀v,(x,v) ∉ binds)->bindC kindOf binds m x=m x
 |[],_,_=>rfl
 | (n,v)::r,m,h=>by
  unfold bindC;rw[vy λw hw=>h w (j0 _ hw)]
  split
  ·rfl
  ·have:x≠n:=by rintro rfl;exact h v jf
   simp[this]
theorem vx{kindOf:Str->Option NameKind}{x:Str}{v:B}:∀{P:List Str}{vs:List B}{i:Nat}{m:Str->Option B},P.Nodup->P[i]?=Z x->vs[i]?=Z v->kindOf x=Z .local ->
  bindL kindOf (P.zip vs) m x=Z v
 |[],_,_,_,_,h,_,_=>by simp at h
 |_::_,[],_,_,_,_,h,_=>by simp at h
 |p::P,w::vs,0,m,nd,h1,h2,g=>by
  simp at h1 h2;subst h1;subst h2;show bindL kindOf ((p,w)::P.zip vs) m p=_;unfold bindL;rw[vw λv hv=>(u3.mp nd).1 (UU hv).1,if_pos g]
  simp
 |p::P,w::vs,i+1,m,nd,h1,h2,g=>by
  unfold bindL;exact vx (u3.mp nd).2 (by simpa using h1) (by simpa using h2) g
theorem vz{kindOf:Str->Option NameKind}{x:Str}{v:B}:∀{P:List Str}{vs:List B}{i:Nat}{m:Str->Option B},P.Nodup->P[i]?=Z x->vs[i]?=Z v->kindOf x≠Z .local ->
  bindC kindOf (P.zip vs) m x=Z v
 |[],_,_,_,_,h,_,_=>by simp at h
 |_::_,[],_,_,_,_,h,_=>by simp at h
 |p::P,w::vs,0,m,nd,h1,h2,g=>by
  simp at h1 h2;subst h1;subst h2;show bindC kindOf ((p,w)::P.zip vs) m p=_;unfold bindC;rw[vy λv hv=>(u3.mp nd).1 (UU hv).1,if_neg g]
  simp
 |p::P,w::vs,i+1,m,nd,h1,h2,g=>by
  unfold bindC;exact vz (u3.mp nd).2 (by simpa using h1) (by simpa using h2) g
def start(N:List Str)(vs:List V):St:=vs.map Z++BQ (N.length - vs.length) Y
def sO(CX:CXT)(P:Da)(w:Cl)(K:BT)(mg:Str->Option B)(base:Do)(N:List Str)(qual:Str)(scope:Scope)(f:J)(cd:B)(A:Db)(outer:List Env)(s:ϋ)(H:Hp)(E:XK):Cx where
 prog:=P
 w:=w
 K:=K
 mg:=mg
 base:=base
 A:=A.deeper (envOfC qual scope s.heap.objs.size f cd)
 N:=N
 s₀:=s
 H₀:=H
 env:=envOfC qual scope s.heap.objs.size f cd
 outer:=outer
 stack:=envOfC qual scope s.heap.objs.size f cd::outer
 ex:=[]
 calm:=O
 fn:=λ_=>O
 pn:=[]
 xe:=λe s'=>wpAny (model P w) (A.deeper (envOfC qual scope s.heap.objs.size f cd)) (leaving (envOfC qual scope s.heap.objs.size f cd) e) (λ_ g=>CX outer H s E e g) (λe' g=>CX outer H s E e' g) s'
variable{sc:Scope}
theorem zP(h:sc.names.lookup x=Z .cell):∃c,(cellsFrom n sc.names []).lookup x=Z c:=by
 let q:=W.cellsFrom_some sc.names n [] (.inl h);exact VY.mp q
variable{qual:Str}{scope:Scope}
theorem EO{K:BT}{E:XK}
  (S:aB N ps scope) (hd:A.handled=Y) (g:BS P w K mg base A outer s H) (hl:vs.length=ps.length) (r:Vals vs us)
  (x:InCallC s s.heap.objs.size (bindL (envOfC qual scope s.heap.objs.size f cd).kindOf (ps.zip us) λ_=>Y) (cellsFrom (s.heap.objs.size+1) scope.names []) (bindC (envOfC qual scope s.heap.objs.size f cd).kindOf (ps.zip us) λ_=>Y) s1):
  Inv (sO CX P w K mg base N qual scope f cd A outer s H E) [] (start N vs) H s1:=by
 let az:ps.length<=N.length:=by have:=congrArg V3 S.pre;rw[z7]at this;lia
 let(h1,tk,U,hk):=x.done;let Q:∀b,b ∉ (sO CX P w K mg base N qual scope f cd A outer s H E).ex:=λb z=>absurd (show b∈([])from z) (by simp)
 refine((g.mod,S.kind,U,U,m9 _,λy z c h1 h2=>?_,λy hy=>?_,λy c _ h=>?_,λ_=>hd,Around.frames_deeper g.frames,.inr (U,U),λb z=>absurd z (Q b),g.bs,g.bsz,λb _ _=>Q b,λb z=>absurd z (Q b),g.pC,g.frf),
  rfl,g.bare,Un.kept hk,(_,x.toInCall.ns,λi y v h1 h2 h3=>?_),λy c h=>(_,x.cell y c h),g.hok.fresh (m9 _),λy c h=>?_,λp hp=>absurd (show p∈([])from hp) (by simp),g.hok.kept hk,?_)
 ·exact name_of_addr x.apart (PySem.mem_of_lookup h1) (PySem.mem_of_lookup h2)
 ·obtain hy|hy:=hy
  ·exact zP hy
  ·exact absurd U (S.PZ _ (PySem.mem_of_lookup hy))
 ·exact QH (x.above y c (PySem.mem_of_lookup h))
 ·let hi:i<vs.length:=by
   unfold start at h2;by_cases hi:i<vs.length
   ·exact hi
   ·rw[vr (by simpa using hi)]at h2
    rw[Wy]at h2
    split at h2 <;> cases h2
  let ha:vs[i]?=Z v:=by
   unfold start at h2;rw[u4 (by simpa using hi),j5]at h2
   cases e:vs[i]? with
   |none=>rw[e]at h2;cases h2
   |some a=>rw[e]at h2;cases h2;rfl
  let(u,hu,rv):=r.get ha;let hp:ps[i]?=Z y:=by
   rw[<- S.pre,List.getElem?_take_of_lt (by lia)];exact h1
  let av:ps.Nodup:=by rw[<- S.pre];exact S.nd.sublist (Wv _ _)
  refine(u,rv,?_);obtain k|k:=S.par y (px hp)
  ·exact .inl (k,vx av hp hu k)
  ·let(c,e):=zP k;refine .inr (.inl k,c,e,?_);let q:=x.cell y c e;rw[vz av hp hu (by show scope.names.lookup y≠_;rw[k];decide)]at q
   exact q
 ·exact g.hok.fresh (QH (x.above y c (PySem.mem_of_lookup h)))
 ·unfold start;show _=N.length;rw[pL,ej,List.length_replicate]
  lia
variable{name:Str}{pm:B}{ct:B}{oc:B}{an:Option J}{od:Option J}
theorem TU{K:BT}{dV kV doc cdv:B}
  (lk:K.lookup f=Z (oc,od,.func (W.fnOf name qual params body scope dV kV doc pm an cdv ct),osl)) (av:W.codeIn K cdv qual=O) (S:aB N ps scope)
  (len:∀vs H Q E,sp vs H Q E->vs.length=ps.length)
  (jN:∀(A:Db)(outer:List Env)(s:ϋ)(H:Hp)(vs:List V)(Q:VK)(E:XK),cu k (A.deeper (envOfC qual scope s.heap.objs.size f cdv))->sp vs H Q E ->
   ∃t,PSs (sO CX P w K mg base N qual scope f cdv A outer s H E) body t/\t {nx:=λ_ H'=>Q .non H',rt:=Q} (start N vs) H):
  bb P w K mg base CX (k+1) f (W.fnOf name qual params body scope dV kV doc pm an cdv ct) ps sp:=by
 refine(len,λA outer s H args us vs Q E hr e0 hb r z=>?_)
 let hl:=len _ _ _ _ z;let KX:=e0.mod.kin.keeps λb o e=>(e0.bs b o e).1
 let lim:=e0.mod.nolimit.keeps λb o e=>(e0.bs b o e).1
 let iz:∀y∈ps.zip us,scope.names.lookup y.1=Z .local\/(scope.names.lookup y.1=Z .cell/\((cellsFrom (s.heap.objs.size+1) scope.names []).lookup y.1).isSome=O):=λ(n,v) hy=>by
  obtain q|q:=S.par n (UU hy).1
  ·exact .inl q
  ·exact .inr (q,W.cellsFrom_some _ _ _ (.inl q))
 refine codeAny_call_function hr.depth (KX _ _ lk) U S.co S.gen U (W.codeRec_of KX av) (hb _ _ _ _ (wpAny_newFunctionEnv_cells S.kind iz λenv he s1 x=>?_))
 subst he;refine(lim.keeps x.toInCall.keep,codeAny_func ?_);let(t,ht,hq):=jN A outer s H vs Q E (hr.deeper _) z;let I:Inv (sO CX P w K mg base N qual scope f cdv A outer s H E) [] (start N vs) H s1:=EO S hr.hd e0 hl r x;refine V8 (ht [] s1 (start N vs) H _ I hq) (λfl s' hs=>?_) λe s' hs=>hs
 let fin:∀{g:St}{H':Hp}{v:V}{u:B},Inv (sO CX P w K mg base N qual scope f cdv A outer s H E) [] g H' s'->RelV v u->Q v H'->CE outer P w H s Q u s' :=
  λ{g H' v u} YB rv q=>(v,H',YB.os,YB.bare,YB.base,YB.hok,rv,q)
 cases fl with
 |ret u =>
  let(v,g,H',YB,rv,q):=hs;exact fin YB rv q
 |next =>
  let(g,H',YB,q):=hs;exact fin (v:=V.non) YB U q
 |brk =>
  let(_,_,_,q):=hs;exact False.elim q
 |cont =>
  let(_,_,_,q):=hs;exact False.elim q
section
variable{p pos:Pos}{t:TA}{id T:String}{r:List V->Hp->VK->Prop}
def tCB(r:List V->Hp->VK->Prop)(t:TA):TE:=λσ H Q=>t σ H λvs H1=>r vs H1 Q
def rW(P:cE X (.builtin id) r)(hg:Gl X x)(hm:X.mg x=Y)(hv:bootBuiltins x=Z (.builtin id))(ha:PA X (e::es) t)(hn:x ≠ "__name__":=by decide)(q:AS x:=by decide)
  (he:AC X e es:=by rfl) (g:AM X pos es:=by rfl):PE X (.Call (.Name x p) (e::es) [] pos) (tCB r t):=by
 left;exact TH (dQ I hg hm hv (PyProof.Rows.callWith_builtin1 (thn (ha pos gV s σ H _ I h) λus s1 (vs,H1,V,z,K)=>P gV s1 σ H1 vs us Q V z K) he g) hn q)
def Eo(P:cE X (.type T) r)(hg:Gl X x)(hm:X.mg x=Y)(hv:bootBuiltins x=Z (.type T))(ha:PA X (e::es) t)(hn:x ≠ "__name__":=by decide)(q:AS x:=by decide)
  (he:AC X e es:=by rfl) (g:AM X pos es:=by rfl):PE X (.Call (.Name x p) (e::es) [] pos) (tCB r t):=by
 left;exact TH (dQ I hg hm hv (PyProof.Rows.callWith_type1 (thn (ha pos gV s σ H _ I h) λus s1 (vs,H1,V,z,K)=>P gV s1 σ H1 vs us Q V z K) he g) hn q)
end
end L2
namespace HT
open PySem PyProof.Rows
section
variable{prog:Da}{w:Cl}{A:Db}{E:B->ϋ->Prop}{s:ϋ}
def Nq{vs ws:List B}{Q:B->ϋ->Prop}(ht:IsTup s.heap t vs.toArray)(hb:IsTup s.heap b ws.toArray)(hv:vs ≠ [])
  (h1:ws=[]->Q (.ref t) s) (h2:ws ≠ []->Q (.ref s.heap.objs.size) {s with heap:=s.heap.push {cls:=.type "tuple",data:=.seq (vs++ws).toArray}})
  (hsz:vs.length+ws.length<=mu):wpAny (model prog w) A (binaryOp .Add (.ref t) (.ref b)) Q E s:=by
 let((cls,dd,data,sl),ho,V,n,hd):=id ht;let((VD,K,data2,q),g,z,P,hd2):=id hb;simp only at V hd z hd2;subst V hd z hd2;let e:vs.toArray++ws.toArray=(vs++ws).toArray:=by simp
 by_cases hw:ws=[]
 ·exact concat_meets (_,ho,U) (_,g,U) noFill_tuple_add seq_tuple_add PySem.F.slot_tuple_add PySem.F.entry_tuple_add (PySem.F.args_tuple_add_2 _ _)
   (tuple_addW1 t b vs.toArray ws.toArray n P dd K sl q (by simpa using hv) (by simp[hw])) (ho,g,h1 hw)
 ·refine concat_meets (_,ho,U) (_,g,U) noFill_tuple_add seq_tuple_add PySem.F.slot_tuple_add PySem.F.entry_tuple_add (PySem.F.args_tuple_add_2 _ _)
   (tuple_addW2 t b vs.toArray ws.toArray n P dd K sl q (by simpa using hv) (by simpa using hw) (by exact hsz)) (ho,g,?_)
  rw[e];exact h2 hw
def sIx(n d:Nat):Option Int->Nat
 |none=>d
 |some v=>if v<0 then(v+(n:Int)).toNat else min v.toNat n
def Gn(n d:Nat):sIx n d Y=d:=rfl
def KA(n d k:Nat):sIx n d (Z (k:Int))=min k n:=by
 show(if(k)<0 then((k)+(n:Int)).toNat else min (k:Int).toNat n)=min k n
 rw[if_neg (by lia),Xs]
def T4(a:Int)(n:Nat)(h0:0<=a):min a (n:Int)=((min a.toNat n:Nat):Int):=by
 by_cases h:a<=n
 ·rw[Int.min_eq_left h,XG (Yf.mpr h),Wa h0]
 ·let h':=Int.le_of_lt (Int.not_le.mp h);rw[Int.min_eq_right h',Nat.min_eq_right ((Int.le_toNat h0).mpr h')]
def FX(n:Nat)(i:Int)(h:i<0):max 0 (min (i+(n:Int)) n)=((i+n).toNat:Int):=by
 rw[Int.min_eq_left (Int.add_le_of_le_sub_right (by rw[Int.sub_self];exact Int.le_of_lt h)),Int.max_comm,Int.ofNat_toNat]
def FW(n:Nat)(i:Int)(h:¬ i<0):max 0 (min i (n:Int))=((min i.toNat n:Nat):Int):=by
 rw[T4 i n (Int.not_lt.mp h),Int.max_eq_right (X3 _)]
def Dm(v:Int)(n d:Nat):(if v<0 then max (v+(n:Int)) 0 else min v (n:Int))=((sIx n d (Z v):Nat):Int):=by
 show(if v<0 then max (v+(n)) 0 else min v (n))=(((if v<0 then(v+(n)).toNat else min v.toNat n)))
 by_cases hv:v<0
 ·rw[if_pos hv,if_pos hv];exact(Int.ofNat_toNat _).symm
 ·rw[if_neg hv,if_neg hv];exact T4 v n (Int.not_lt.mp hv)
def BM(lo hi:Option Int)(n:Nat):Builtin.Slice.sliceAdjust lo hi 1 (n:Int)=(((sIx n 0 lo:Nat):Int),((sIx n n hi:Nat):Int)):=by
 let h1:=by omega
 unfold Builtin.Slice.sliceAdjust;refine Prod.ext ?_ ?_
 ·cases lo with
  |none=>rfl
  |some v=>exact Dm v n 0
 ·cases hi with
  |none=>rfl
  |some v=>exact Dm v n n
def Bb(i j:Nat):Builtin.Slice.slicePlaces (i:Int) (j:Int) 1=j - i:=by
 unfold Builtin.Slice.slicePlaces;let h1:(1:Int) > 0:=by lia
 simp only[h1,if_true,Int.ediv_one]
 split <;> lia
def qQ{o:Option Int}{Q:Option Int->ϋ->Prop}(p:IsPart v o)(h:Q o s):wpAny (model prog w) A (Builtin.Slice.slicePartIndex v) Q E s:=by
 cases p with
 |none=>exact slicePart_none h
 |int i t=>exact slicePart_int h
def ib{K z:B}{lo hi:Option Int}{n:Nat}{Q:Int×Int×Nat->ϋ->Prop}(hs:s.heap.IsSliceOf sl K z .none)(pl:IsPart K lo)(pu:IsPart z hi)
  (h:Q (((sIx n 0 lo:Nat):Int),1,sIx n n hi - sIx n 0 lo) s):wpAny (model prog w) A (Builtin.Slice.sliceApplied (.ref sl) (pure (n:Int))) Q E s:=by
 let(os,g,P,q):=id hs;refine dD (dD (wpAny_field g q (x:=K) U (dD (wpAny_field g q (x:=z) U (dD (wpAny_field g q U (kL ?_)))))));refine dD (slicePart_none ?_);refine dD (qQ pl (dD (qQ pu (dD (kL ?_)))));show wpAny _ _ (match Builtin.Slice.sliceAdjust lo hi 1 (n)with|(lo,hi)=>pure (Prod.mk lo (Prod.mk (1:Int) (Builtin.Slice.slicePlaces lo hi 1)))) _ _ s
 rw[BM lo hi n];show wpAny _ _ (pure (Prod.mk ((sIx n 0 lo):Int) (Prod.mk (1) (Builtin.Slice.slicePlaces ((sIx n 0 lo)) ((sIx n n hi)) 1)))) _ _ s;rw[Bb];exact kL h
def Hq(xs:Array B)(i k:Nat):((IK k).filterMap λ(m:Nat)=>xs[((i:Int)+(m:Int)*1).toNat]?).toArray=((xs.toList.drop i).take k).toArray:=by
 let e:(λ(m:Nat)=>xs[((i)+(m:Int)*1).toNat]?)=λm=>xs[i+m]?:=by
  funext m
  have:((i)+(m:Int)*1).toNat=i+m:=by lia
  rw[this]
 rw[e]
 have:=pick_run xs i k
 rw[List.filterMap_map]at this;let g:((λx=>xs[x]?) ∘ λx=>i+x)=λm=>xs[i+m]?:=rfl
 rw[g]at this;rw[this]
def mM{items:Array B}{vl vu:B}{lo hi:Option Int}{Q:B->ϋ->Prop}(g:IsTup s.heap t items)(hs:s.heap.IsSliceOf sl vl vu .none)(pl:IsPart vl lo)(pu:IsPart vu hi)
  (hw:¬(sIx items.size 0 lo=0/\sIx items.size items.size hi=items.size))
  (h:Q (.ref s.heap.objs.size) {s with heap:=s.heap.push {cls:=.type "tuple",data:=.seq ((items.toList.drop (sIx items.size 0 lo)).take (sIx items.size items.size hi - sIx items.size 0 lo)).toArray}})
  (hsz:items.size<=mu):wpAny (model prog w) A (getItem (.ref t) (.ref sl)) Q E s:=by
 let Tn:sizeOk (.seq ((items.toList.drop (sIx items.size 0 lo)).take (sIx items.size items.size hi - sIx items.size 0 lo)).toArray):=by
  show((items.toList.drop (sIx items.size 0 lo)).take (sIx items.size items.size hi - sIx items.size 0 lo)).toArray.size<=mu;rw[pM,z7,Wo,V9];exact xZ (xZ (Xx _ _) (X4 _ _)) hsz
 let(os,z,P,av):=id hs;let V:s.TypeIs (.ref sl) "slice":=(os,z,P);unfold getItem
 try with_reducible refine Fq ?_
 refine dD (wpAny_sequenceKey g.typeIs (by decide) ?_)
 refine dD (wpAny_callSpecial?_slot g.typeIs PyProof.Rows.slot_tuple_getitem
  (Es PyProof.Rows.slot_tuple_getitem g.typeIs entry_tuple_getitem ?_ (args_tuple_getitem _ _)))
 show wpAny _ _ (Builtin.Tuple.tupleItemsOf (.ref t) >>= _) _ _ s;refine dD (tupleItemsOf_ g (dD (V7 V ?_)));refine dD (ib hs pl pu ?_);let K:¬((((sIx items.size 0 lo):Int)==0&&(1:Int)==1&&(sIx items.size items.size hi - sIx items.size 0 lo)==items.size)=O):=by
  intro q;rw[tD,tD]at q;let q1:=eq_of_beq q.1.1;let q2:=eq_of_beq q.2;exact hw (by lia,by lia)
 show wpAny _ _ (if(((sIx items.size 0 lo):Int)==0&&(1)==1&&(sIx items.size items.size hi - sIx items.size 0 lo)==items.size)=O then _ else _) _ _ s
 rw[if_neg K,Hq];exact dD (m:=Builtin.Tuple.tupleExact _) (Wh (kL (_,U,kL h)) Tn)
end
end HT
namespace L2
open PySem PySem.Spec PyProof.Rows
abbrev TO:=St->Hp->(Option Int->Hp->Prop)->Prop
def PO(X:Cx)(e:Option Ev)(t:TO):Prop :=
 ∀(gV:List (J×Obj))(s:ϋ)(σ:St)(H:Hp)(Q:Option Int->Hp->Prop),Inv X gV σ H s->t σ H Q ->
  Zc X (evalPart e X.env) (λu s'=>∃o H',Inv X gV σ H' s'/\IsPart u o/\Q o H') X.xe s
def B1:TO:=λ_ H Q=>Q Y H
def NT(t:TE):TO:=λσ H Q=>t σ H λx H1=>∃i,x=.int i/\Q (Z i) H1
variable{us:List B}
section
variable{X:Cx}{e:Ev}{te:TE}{lo hi:Option Ev}{tl th:TO}{pos p2:Pos}
def LN:PO X Y B1:=by
 left;exact kL (Y,H,I,.none,h)
def wI(h:PE X e te):PO X (Z e) (NT te):=by
 intro gV s σ H Q I hw;refine thn (h gV s σ H _ I hw) λu s1 g=>?_
 let(x,H1,P,z,K):=g;let(i,U,q):=K;let(t,U):=z;exact(Z i,H1,P,.int i t,q)
def SlR(X:Cx)(r:V->Option Int->Option Int->Hp->VK->Prop):Prop :=
 ∀(gV:List (J×Obj))(s:ϋ)(σ:St)(H:Hp)(x:V)(v q g:B)(lo hi:Option Int)(sl:J)(Q:VK),Inv X gV σ H s->RelV x v->s.heap.IsSliceOf sl q g .none->IsPart q lo->IsPart g hi->r x lo hi H Q ->
  ∃T id,typeLookup (.type T) "__getitem__"=pure (Z (.builtin id))/\s.TypeIs v T/\Zc X (getItem v (.ref sl)) (EP X gV σ Q) X.xe s
def SlR.or(h:SlR X r)(h':SlR X P):SlR X (λx lo hi H Q=>r x lo hi H Q\/P x lo hi H Q):=by
 intro gV s σ H x v z g lo hi sl Q I K hs pl pu q;obtain q|q:=q
 ·exact h gV s σ H x v z g lo hi sl Q I K hs pl pu q
 ·exact h' gV s σ H x v z g lo hi sl Q I K hs pl pu q
def tSl(r:V->Option Int->Option Int->Hp->VK->Prop)(te:TE)(tl th:TO):TE:=λσ H Q=>te σ H λx H1=>tl σ H1 λl H2=>th σ H2 λu g=>r x l u g Q
def yS(hr:SlR X r)(he:PE X e te)(hl:PO X lo tl)(hu:PO X hi th):PE X (.Subscript e (.Slice lo hi Y p2) pos) (tSl r te tl th):=by
 left;refine Subscript_ (thn (he gV s σ H _ I h) λv s1 (x,H1,I1,r1,q1)=>(wpAny_Slice (thn (hl gV s1 σ H1 _ I1 q1) λz s2 (l,H2,I2,pl,q2)=>thn (hu gV s2 σ H2 _ I2 q2) λg s3 K=>?_)))
 let(u,P,I3,pu,q3):=K;refine kL ?_;let I4:Inv X gV σ P {s3 with heap:=s3.heap.push {cls:=.type "slice",data:=.fields #[z,g,.none]}}:=I3.kept λb ob q=>j3 _ q
 let(T,id,hT,ht,hg):=hr gV {s3 with heap:=s3.heap.push {cls:=.type "slice",data:=.fields #[z,g,.none]}} σ P x v z g l u s3.heap.objs.size Q I4 r1 (Heap.IsSliceOf.new ..) pl pu q3
 exact tail_any ht hT hg (by with_unfolding_all rfl)
def mU(xs:List V)(lo hi:Option Int):List V:=(xs.drop (HT.sIx xs.length 0 lo)).take (HT.sIx xs.length xs.length hi - HT.sIx xs.length 0 lo)
def oN(xs:List V)(lo hi:Option Int):(mU xs lo hi).length<=xs.length:=by
 unfold mU;rw[z7,Wo];exact xZ (Xx _ _) (X4 _ _)
inductive Uw(K:BT)(x:V)(lo:Option Int)(hi:Option Int)(H:Hp)(Q:VK):Prop
 |mk(a xs)(h1:x=.ref a)(h2:SqT K H a xs)(h3:¬(HT.sIx xs.length 0 lo=0/\HT.sIx xs.length xs.length hi=xs.length))(h4:∀p,H p=Y->Q (.ref p) (upd H p (.tup (mU xs lo hi))))
def OS:SlR X (Uw X.K):=by
 intro gV s σ H x v vl V lo hi sl Q I P hs pl pu h;let(a,xs,U,hx,hw,q):=h;cases P;let(its,r,z,g):=I.tuple hx;let hlen:its.toArray.size=xs.length:=by exact r.length.symm
 refine("tuple",_,PyProof.Rows.slot_tuple_getitem.lookup,z.typeIs,(HT.mM z hs pl pu (by rw[hlen];exact hw) ?_ (by rw[hlen];exact g)))
 rw[hlen];refine(.ref s.heap.objs.size,_,I.laid (λb ob q=>j3 _ q) (m9 _) ?_,U,q _ (I.hok.fresh (m9 _)))
 exact(xZ (oN xs lo hi) g,_,(r.drop (HT.sIx xs.length 0 lo)).take (HT.sIx xs.length xs.length hi - HT.sIx xs.length 0 lo),lO.new _ _)
inductive R3(K:BT)(x:V)(y:V)(H:Hp)(Q:VK):Prop
 |mk(a b xs ys)(h1:x=.ref a)(h2:y=.ref b)(h3:SqT K H a xs)(h4:SqT K H b ys)(h5:xs ≠ [])(h6:xs.length+ys.length<=mu)(h7:(ys=[]->Q (.ref a) H))(h8:(ys ≠ []->∀p,H p=Y->Q (.ref p) (upd H p (.tup (xs++ys)))))
def Vals.iV(r:Vals xs us):us=[] ↔ xs=[]:=by
 cases r with
 |nil=>simp
 |cons _ _=>simp
def Mp:OpR X (binaryOp .Add) (R3 X.K):=by
 intro gV s σ H x y v u Q I rx ry h;let(a,b,xs,ys,U,U,ha,hb,hx,V,q1,q2):=h;cases rx;cases ry;let(its,P,p1,_):=I.tuple ha;let(bK,g,p2,_):=I.tuple hb;exact HT.Nq p1 p2 (λz=>hx (P.iV.mp z)) (λz=>(.ref a,H,I,U,q1 (g.iV.mp z))) (λz=>(.ref s.heap.objs.size,_,I.laid (t':=s.toks) (o:=.tup (xs++ys)) (λb ob q=>j3 _ q) (m9 _) (by rw[pL];exact V,_,P.append g,lO.new _ _),U,q2 (λw=>z (g.iV.mpr w)) _ (I.hok.fresh (m9 _)))) (by rw[<- P.length,<- g.length];exact V)
end
def ixN(n:Nat)(i:Int):Option Nat:=if 0<=i then(if i<n then Z i.toNat else Y)else if -(n:Int)<=i then Z (i+n).toNat else Y
def atI{α:Type}(xs:List α)(i:Int):Option α:=(ixN xs.length i).bind λj=>xs[j]?
variable{n:Nat}{j:Nat}
def CU(h:ixN n i=Z j):seqIndex? i n=Z j/\j<n /\ -(n:Int)<=i/\i<n:=by
 unfold ixN at h;by_cases h0:0<=i
 ·rw[if_pos h0]at h;by_cases h1:i<n
  ·rw[if_pos h1]at h;let e:=Option.some.inj h;exact(by rw[seqIndex_of h0 h1,e],by lia,by lia,h1)
  ·rw[if_neg h1]at h;cases h
 ·rw[if_neg h0]at h;by_cases h1:-(n)<=i
  ·rw[if_pos h1]at h;let e:=Option.some.inj h;exact(by rw[seqIndex_neg (by lia) h1,e],by lia,h1,by lia)
  ·rw[if_neg h1]at h;cases h
def xO{xs:List α}(h:atI xs i=Z v):∃j,seqIndex? i xs.length=Z j/\xs[j]?=Z v/\j<xs.length /\ -(xs.length:Int)<=i/\i<xs.length:=by
 unfold atI at h;cases e:ixN xs.length i with
 |none=>rw[e]at h;cases h
 |some j =>
  rw[e]at h;let(h1,h2,h3,h4):=CU e;exact(j,h1,h,h2,h3,h4)
def cH{xs:List α}(h:xs[j]?=Z v):atI xs (j:Int)=Z v:=by
 let hj:=(kf.mp h).1;let e:ixN xs.length (j)=Z j:=by
  unfold ixN;rw[if_pos (by lia),if_pos (by lia)];simp
 unfold atI;rw[e];exact h
def m5(xs:List α)(v:α):atI (xs ++ [v]) (-1)=Z v:=by
 let hl:(xs ++ [v]).length=xs.length+1:=by simp
 let e:ixN (xs ++ [v]).length (-1)=Z xs.length:=by
  unfold ixN;rw[hl,if_neg (by decide),if_pos (by lia)]
  congr 1
  lia
 unfold atI;rw[e];simp
def gN(b:Ev):Prop:=∀o i,subscripted b ϊ o i=operate [o,i] (getItem o i)
def IxR(X:Cx)(r:R2):Prop :=
 ∀(value slice:Ev)(gV:List (J×Obj))(s:ϋ)(σ:St)(H:Hp)(x y:V)(v u:B)(Q:VK),Inv X gV σ H s->RelV x v->RelV y u->r x y H Q ->
  subscripted slice ϊ v u=operate [v,u] (getItem v u)->Zc X (subscriptTail value slice v u) (EP X gV σ Q) X.xe s
def MtR(X:Cx)(id:String)(r:V->List V->Hp->VK->Prop):Prop :=
 ∀(gV:List (J×Obj))(s:ϋ)(σ:St)(H:Hp)(x:V)(xs:List V)(v:B)(us:List B)(Q:VK),Inv X gV σ H s->RelV x v->Vals xs us->r x xs H Q ->
  Zc X (call (.builtin id) (v::us)) (EP X gV σ Q) X.xe s
variable{gV:List (J×Obj)}{H:Hp}{its:List B}{A:Db}{y:V}{u:B}{r:List V->Hp->VK->Prop}
section
variable{X:Cx}{a b:Ev}{ta tb:TE}{pos:Pos}
def IxR.or{r K:R2}(h:IxR X r)(h':IxR X K):IxR X (λx y H Q=>r x y H Q\/K x y H Q):=by
 intro value slice gV s σ H x y v u Q I z g q hs;obtain q|q:=q
 ·exact h value slice gV s σ H x y v u Q I z g q hs
 ·exact h' value slice gV s σ H x y v u Q I z g q hs
def oG{r:R2}(hr:IxR X r)(ha:PE X a ta)(K:PE X b tb)(hs:gN b):PE X (.Subscript a b pos) (tOp r ta tb):=by
 left;exact Subscript_ (QU ha K I h λv u s2 x y H2 P z g q=>hr a b gV s2 σ H2 x y v u Q P z g q (hs _ _))
inductive RX(K:BT)(x:V)(y:V)(H:Hp)(Q:VK):Prop
 |mk(p xs i v)(h1:x=.ref p)(h2:y=.int i)(h3:SqL K H p xs)(h4:atI xs i=Z v)(h5:Q v H)
inductive RV(K:BT)(x:V)(y:V)(H:Hp)(Q:VK):Prop
 |mk(p xs i v)(h1:x=.ref p)(h2:y=.int i)(h3:SqT K H p xs)(h4:atI xs i=Z v)(h5:Q v H)
inductive RW(x:V)(y:V)(H:Hp)(Q:VK):Prop
 |mk(z i c)(h1:x=.str z)(h2:y=.int i)(h3:z.length<=mu)(h4:atI z.cps.toList i=Z c)(h5:Q (.str ⟨#[c]⟩) H)
def MX:IxR X (RX X.K):=by
 intro value slice gV s σ H x y v u Q I rx V h hs;let(p,xs,i,z,U,U,hq,he,q):=h;cases rx;let(t,U):=V;let(its,r,pl,hz):=I.list hq;let(j,h1,h2,h3,h4,h5):=xO he;let(w,P,g):=r.get h2;let hl:=r.length;let hn:=iY;let fin:EP X gV σ Q w s:=(z,H,I,g,q);by_cases h0:0<=i
 ·let hj:=by
   rw[seqIndex_of h0 h5]at h1;exact Option.some.inj h1
  exact item_listR pl.isList h0 (by lia) (by rw[hj];simpa using P) fin hs
 ·let hj:(i+(its.toArray.size)).toNat=j:=by
   rw[seqIndex_neg (by omega) h4]at h1
   rw[pM,<- hl];exact Option.some.inj h1
  exact subscriptTail_builtinR pl.isList.typeIs slot_list_getitem.lookup
   (wpAny_getItem_list_neg pl.isList (by omega) (by rw[pM] <;> lia) (by lia) (by rw[hj];simpa using P) (U,fin)) hs
def Qi:IxR X (RV X.K):=by
 intro value slice gV s σ H x y v u Q I V P h hs;let(p,xs,i,z,U,U,hq,he,q):=h;cases V;let(t,U):=P;let(its,r,pl,hz):=I.tuple hq;let(j,h1,h2,h3,h4,h5):=xO he;let(w,ew,g):=r.get h2;let hl:=r.length;let hn:=iY;let fin:EP X gV σ Q w s:=(z,H,I,g,q);exact subscriptTail_builtinR pl.typeIs slot_tuple_getitem.lookup
  (getItem_tuple pl (by lia) (by lia) (by rw[pM,<- hl];exact h1) (by simpa using ew) (U,fin)) hs
def Qj:IxR X RW:=by
 intro value slice gV s σ H x y v u Q I K g h hs;let(z,i,c,U,U,hz,he,q):=h;let(t,U):=K;let(t',U):=g;let(j,h1,h2,h3,h4,h5):=xO he;let hl:z.cps.toList.length=z.length:=by simp[Str.length]
 rw[hl]at h1 h4 h5;let hn:=iY;exact tail_any (typeIs_str s z t) slot_str_getitem.lookup (getItem_str (by
  let V:decide (i < -(2 ^ 63))=false:=decide_eq_false (by lia)
  let P:decide (i ≥ 2 ^ 63)=false:=decide_eq_false (by lia)
  rw[V,P,Bool.or_false]) (by rw[h1];simpa using h2) (.str ⟨#[c]⟩,H,I.tok _,(_,U),q)) hs
def rIx(K:BT):R2:=λx y H Q=>RX K x y H Q\/RV K x y H Q\/RW x y H Q
def sA:IxR X (rIx X.K):=MX.or (Qi.or Qj)
def Bs(its:List B)(n j:Nat)(u:B):Vc (·.setIfInBounds j u) {cls:=.type "list",data:=.seq its.toArray n}={cls:=.type "list",data:=.seq (its.set j u).toArray n}:=by
 simp[Vc]
theorem Inv.lst{σ:St}(I:Inv X gV σ H s)(h:H p=Z (.lst xs)):
  ∃(its:List B)(n:Nat),Vals xs its/\s.heap.get? p=Z {cls:=.type "list",data:=.seq its.toArray n}/\xs.length<=mu:=by
 let(z,its,n,r,e):=I.hok p _ h;exact(its,n,r,e,z)
def Inv.P1{σ:St}{s:ϋ}{p:J}{xs ys:List V}{its':List B}{n':Nat}{f:Obj->Obj}(I:Inv X gV σ H s)(h:H p=Z (.lst xs))
  (ho:s.heap.get? p=Z {cls:=.type "list",data:=.seq its.toArray n}) (hf:f {cls:=.type "list",data:=.seq its.toArray n}={cls:=.type "list",data:=.seq its'.toArray n'}) (r:Vals ys its') (g:ys.length<=mu) (t:Nat):
  Inv X gV σ (upd H p (.lst ys)) {s with heap:=s.heap.update p f,toks:=t}:=by
 let e:(s.heap.update p f).get? p=Z {cls:=.type "list",data:=.seq its'.toArray n'}:=by
  rw[Fv f ho (by rw[hf] <;> rfl),hf]
 exact I.write (x:=p) (e:=p) (by rw[h];trivial) (.inl U) (λb u z q=>(z6 _ _ (Ne.symm z)).trans q) (_,e) (g,its',n',r,e)
inductive Gy(o:V)(i:V)(v:V)(H:Hp)(Q:(Hp->Prop)):Prop
 |mk(p xs k j)(h1:o=.ref p)(h2:i=.int k)(h3:H p=Z (.lst xs))(h4:ixN xs.length k=Z j)(h5:Q (upd H p (.lst (xs.set j v))))
theorem set_list:Rg X Gy:=by
 intro gV s σ H o i v ov iv u Q I K P rv h;let(p,xs,k,j,U,U,hp,hj,q):=h;cases K;let(t,U):=P;let(its,n,r,ho,V):=I.lst hp;let(h1,h2,h3,h4):=CU hj;let hl:=r.length;let hn:=iY;let z :=
  I.P1 hp ho (Bs its n j u) (r.set rv j) (by rw[NP];exact V) s.toks
 by_cases h0:0<=k
 ·let g:=by
   rw[seqIndex_of h0 h4]at h1;exact Option.some.inj h1
  exact W.ki_setAt ho h0 (by lia) (by rw[pM,<- hl];exact h4) (by rw[g];exact(_,z,q))
 ·let g:(k+(its.toArray.size)).toNat=j:=by
   rw[seqIndex_neg (by omega) h3]at h1
   rw[pM,<- hl];exact Option.some.inj h1
  exact W.ki_setBack ho (by omega) (by rw[pM,<- hl];exact h3) (by lia) (by rw[g];exact(_,z,q))
def vO(lo hi:Option Int)(n:Nat):(sliceBounds lo hi Y n).1=((HT.sIx n 0 lo:Nat):Int)/\(sliceBounds lo hi Y n).2.1=((HT.sIx n n hi:Nat):Int)/\(sliceBounds lo hi Y n).2.2=1:=by
 refine(?_,?_,U)
 ·cases lo with
  |none=>simp[sliceBounds,HT.sIx]
  |some i =>
   simp only[sliceBounds,HT.sIx,Yp,show(1:Int) > 0 by decide,if_true]
   by_cases h:i<0
   ·simp only[h,if_true] <;> first|exact HT.FX _ _ h|omega
   ·simp only[h,if_false] <;> first|exact HT.FW _ _ h|omega
 ·cases hi with
  |none=>simp[sliceBounds,HT.sIx]
  |some i =>
   simp only[sliceBounds,HT.sIx,Yp,show(1:Int) > 0 by decide,if_true]
   by_cases h:i<0
   ·simp only[h,if_true] <;> first|exact HT.FX _ _ h|omega
   ·simp only[h,if_false] <;> first|exact HT.FW _ _ h|omega
def tU(its:List B)(lo hi:Option Int):slicePick its.toArray lo hi Y=((its.drop (HT.sIx its.length 0 lo)).take (HT.sIx its.length its.length hi - HT.sIx its.length 0 lo)).toArray:=by
 let(h1,h2,h3):=vO lo hi its.toArray.size;unfold slicePick;rw[h1,h2,h3];simp only[sliceRange_one,pick_run] <;> rfl
inductive RS(K:BT)(x:V)(lo:Option Int)(hi:Option Int)(H:Hp)(Q:VK):Prop
 |mk(a xs)(h1:x=.ref a)(h2:SqL K H a xs)(h3:∀p,H p=Y->Q (.ref p) (upd H p (.lst (mU xs lo hi))))
def Ca:SlR X (RS X.K):=by
 intro gV s σ H x v vl V lo hi sl Q I z hs pl pu h;let(a,xs,U,hx,q):=h;cases z;let(its,r,g,P):=I.list hx;let hlen:=r.length;refine("list",_,slot_list_getitem.lookup,g.isList.typeIs,(wpAny_getItem_list_slice g.isList hs pl pu .none (by simp) ?_ (by rw[pM] <;> omega)))
 rw[tU,<- hlen];refine(.ref s.heap.objs.size,_,I.laid (λb ob q=>j3 _ q) (m9 _) ?_,U,q _ (I.hok.fresh (m9 _)))
 exact(xZ (oN xs lo hi) P,_,0,(r.drop (HT.sIx xs.length 0 lo)).take (HT.sIx xs.length xs.length hi - HT.sIx xs.length 0 lo),p6 _ U)
def eu:V->Bool
 |.non=>O
 |.bl _=>O
 |.int _=>O
 |.str _=>O
 |_=>ϊ
def eqV:V->V->Bool
 |.non,.non=>O
 |.bl a,.bl b=>a==b
 |.bl a,.int b=>(if a then 1 else 0)==b
 |.int a,.bl b=>a ==(if b then 1 else 0)
 |.int a,.int b=>a==b
 |.str a,.str b=>a==b
 |_,_=>ϊ
def n8(q:RelV y u)(g:RelV x v)(z:eu y=O)(fx:eu x=O):SeqAt.EqAt A s u v (eqV y x):=by
 cases y with
 |non =>
  cases q;cases x with
  |non=>cases g;exact SeqAt.EqAt.same _
  |bl b=>cases g;exact SeqAt.EqAt.none_bool b
  |int b=>let(t,U):=g;exact SeqAt.EqAt.none_int b t
  |str b=>let(t,U):=g;exact SeqAt.EqAt.none_str b t
  |_=>exact absurd (fx) qE
 |bl a =>
  cases q;cases x with
  |non=>cases g;exact SeqAt.EqAt.bool_none a
  |bl b=>cases g;exact SeqAt.EqAt.bool_bool a b
  |int b=>let(t,U):=g;exact SeqAt.EqAt.bool_int a b t
  |str b=>let(t,U):=g;exact SeqAt.EqAt.bool_str a b t
  |_=>exact absurd (fx) qE
 |int a =>
  let(t',U):=q;cases x with
  |non=>cases g;exact SeqAt.EqAt.int_none a t'
  |bl b=>cases g;exact SeqAt.EqAt.int_bool a t' b
  |int b=>let(t,U):=g;exact SeqAt.EqAt.int_int a t' b t
  |str b=>let(t,U):=g;exact SeqAt.EqAt.int_str a t' b t
  |_=>exact absurd (fx) qE
 |str a =>
  let(t',U):=q;cases x with
  |non=>cases g;exact SeqAt.EqAt.str_none a t'
  |bl b=>cases g;exact SeqAt.EqAt.str_bool a t' b
  |int b=>let(t,U):=g;exact SeqAt.EqAt.str_int a t' b t
  |str b=>let(t,U):=g;exact SeqAt.EqAt.str_str a t' b t
  |_=>exact absurd (fx) qE
 |_=>exact absurd (z) qE
def eqU(x:V)(u:B):Bool:=match u with
 |.none=>eqV .non x
 |.bool b=>eqV (.bl b) x
 |.int i _=>eqV (.int i) x
 |.str z _=>eqV (.str z) x
 |_=>ϊ
def I0(r:RelV y u)(f:eu y=O):eqU x u=eqV y x:=by
 cases y with
 |non=>cases r;rfl
 |bl b=>cases r;rfl
 |int i=>let(t,U):=r;rfl
 |str z=>let(t,U):=r;rfl
 |_=>exact absurd (f) qE
theorem m7:∀{xs:List V}{us:List B},Vals xs us->xs.all eu=O->us.any (eqU x)=xs.any λy=>eqV y x
 |_,_,.nil,_=>rfl
 |y::xs,u::us,.cons r t,f=>by
  rw[Xt,tD]at f;rw[Wm,Wm,I0 r f.1,m7 t f.2]
theorem jE(q:RelV x v)(fx:eu x=O):∀{xs:List V}{us:List B},Vals xs us->xs.all eu=O->∀u∈us,SeqAt.EqAt A s u v (eqU x u)
 |_,_,.nil,_=>λu g=>by cases g
 |y::xs,u::us,.cons r t,f=>λu' g=>by
  rw[Xt,tD]at f;obtain rfl|g:=kz.mp g
  ·rw[I0 r f.1];exact n8 r q f.1 fx
  ·exact jE q fx t f.2 u' g
def inV(x:V)(xs:List V):Bool:=xs.any λy=>eqV y x
inductive rIn(K:BT)(neg:Bool)(x:V)(y:V)(H:Hp)(Q:VK):Prop
 |mk(p xs)(h1:y=.ref p)(h2:(SqL K H p xs\/SqT K H p xs))(h3:eu x=O)(h4:xs.all eu=O)(h5:Q (.bl (if neg then !inV x xs else inV x xs)) H)
def Et:OpR X (compareOp .In) (rIn X.K ϊ):=by
 intro gV s σ H x y v u Q I g z h;let(p,xs,U,hq,fx,fs,q):=h;cases z;obtain hq|hq:=hq
 ·let(its,r,pl,P):=I.list hq;refine SeqAt.in_listAt (eqU x) pl.isList (λw hw=>jE g fx r fs w (by simpa using hw)) (.bl _,H,I,U,?_)
  rw[show its.toArray.any (eqU x)=its.any (eqU x)by simp,m7 r fs]
  exact q
 ·let(its,r,pl,P):=I.tuple hq;refine SeqAt.in_tupleAt (eqU x) pl (λw hw=>jE g fx r fs w (by simpa using hw)) (.bl _,H,I,U,?_)
  rw[show its.toArray.any (eqU x)=its.any (eqU x)by simp,m7 r fs]
  exact q
def wW:OpR X (compareOp .NotIn) (rIn X.K O):=by
 intro gV s σ H x y v u Q I g z h;let(p,xs,U,hq,fx,fs,q):=h;cases z;obtain hq|hq:=hq
 ·let(its,r,pl,P):=I.list hq;refine SeqAt.notIn_listAt (eqU x) pl.isList (λw hw=>jE g fx r fs w (by simpa using hw)) (.bl _,H,I,U,?_)
  rw[show its.toArray.any (eqU x)=its.any (eqU x)by simp,m7 r fs]
  exact q
 ·let(its,r,pl,P):=I.tuple hq;refine SeqAt.notIn_tupleAt (eqU x) pl (λw hw=>jE g fx r fs w (by simpa using hw)) (.bl _,H,I,U,?_)
  rw[show its.toArray.any (eqU x)=its.any (eqU x)by simp,m7 r fs]
  exact q
def mX:cE X (.builtin "len") (λxs H Q=>∃p ys,xs=[.ref p]/\(SqL X.K H p ys\/SqT X.K H p ys)/\Q (.int ys.length) H):=by
 intro gV s σ H xs us Q I r h;let(p,ys,U,hq,q):=h;let(u,U,z):=vals1 r;cases z;let hn:=iY;obtain hq|hq:=hq
 ·let(its,g,pl,P):=I.list hq;let hlen:=g.length;exact Calls.call_len_list pl.isList (by simp only[pM] <;> omega) (.int ys.length,H,I.tok _,(s.toks+1,by rw[pM,hlen]),q)
 ·let(its,g,pl,P):=I.tuple hq;let hlen:=g.length;exact len_tuple pl (by simp only[pM] <;> omega) (.int ys.length,H,I.tok _,(s.toks+1,by rw[pM,hlen]),q)
def xH:cE X (.builtin "len") (λxs H Q=>∃z,xs=[.str z]/\z.length<=mu/\Q (.int z.length) H):=by
 intro gV s σ H xs us Q I r h;let(z,U,g,q):=h;let(u,U,t,U):=vals1 r;let hn:=iY;exact len_str (by lia) (.int z.length,H,I.tok _,(_,U),q)
def cE.or(h:cE X f r)(h':cE X f g):cE X f (λxs H Q=>r xs H Q\/g xs H Q):=by
 intro gV s σ H xs us Q I rs q;obtain q|q:=q
 ·exact h gV s σ H xs us Q I rs q
 ·exact h' gV s σ H xs us Q I rs q
def xG:cE X (.type "list") (λxs H Q=>∃p ys,xs=[.ref p]/\(SqL X.K H p ys\/SqT X.K H p ys)/\∀l,H l=Y->Q (.ref l) (upd H l (.lst ys))):=by
 intro gV s σ H xs us Q I r h;let(p,ys,U,hq,q):=h;let(u,U,V):=vals1 r;cases V;let fin:∀its,Vals ys its->ys.length<=mu->∀h' c',(∀b o',s.heap.get? b=Z o'->h'.get? b=Z o') ->
   h'.get? s.heap.objs.size=Z {cls:=.type "list",dict:=Y,data:=.seq its.toArray c',slots:=#[]}->EP X gV σ Q (.ref s.heap.objs.size) {s with heap:=h'}:=λits g z h' c' kp e =>
  (.ref s.heap.objs.size,_,I.laid kp (m9 _) (show c7 X.prog X.w _ h' _ (.lst ys)from(z,its,c',g,e)),U,q _ (I.hok.fresh (m9 _)))
 obtain hq|hq:=hq
 ·let(its,g,pl,z):=I.list hq;let hlen:=g.length;let(o,ho,P,n,hd):=pl.isList;exact call_list_seq p (.inl U) ho P hd (λh' c' kp e=>fin its g z h' c' kp e) (by simp only[pM] <;> omega)
 ·let(its,g,pl,z):=I.tuple hq;let hlen:=g.length;let(o,ho,P,n,hd):=pl;exact call_list_seq p (.inr U) ho P hd (λh' c' kp e=>fin its g z h' c' kp e) (by simp only[pM] <;> omega)
def uA:cE X (.type "tuple") (λxs H Q=>∃p ys,xs=[.ref p]/\((SqL X.K H p ys/\∀l,H l=Y->Q (.ref l) (upd H l (.tup ys)))\/(SqT X.K H p ys/\Q (.ref p) H))):=by
 intro gV s σ H xs us Q I r h;let(p,ys,U,h):=h;let(u,U,V):=vals1 r;cases V;obtain⟨hq,q⟩|⟨hq,q⟩:=h
 ·let(its,g,pl,z):=I.list hq;let hlen:=g.length;refine call_tuple_list pl.isList (λh' kp=>?_) (by simp only[pM] <;> omega)
  let P:=I.kept (t':=s.toks) kp;let I2 :=
   P.laid (t':=s.toks) (λb o e=>j3 _ e) (m9 _) (show c7 X.prog X.w _ _ _ (.tup ys)from(z,its,g,lO.new _ _))
  exact(.ref h'.objs.size,_,I2,U,q _ (P.hok.fresh (m9 _)))
 ·let(its,g,pl,z):=I.tuple hq;exact call_tuple_same pl (.ref p,H,I,U,q)
def tyV(K:BT)(T:String)(x:V)(H:Hp):Prop:=match x with
 |.str _=>T="str"
 |.int _=>T="int"
 |.ref p=>(T="list" /\ ∃xs,SqL K H p xs)\/(T="tuple" /\ ∃o,K.lookup p=Z o/\o.cls=.type "tuple" /\ o.dict=Y) \/
   (T="dict" /\ ((∃kvs,H p=Z (.dK kvs))\/∃kvs,H p=Z (.dT kvs)))\/(T="set" /\ ∃S n,H p=Z (.set S n))
 |_=>False
def FC{σ:St}(I:Inv X gV σ H s)(r:RelV x v)(ty:tyV X.K T x H):
  s.TypeIs v T/\∀a,v=.ref a->∃ob,s.heap.get? a=Z ob/\ob.dict=none:=by
 cases x with
 |str z =>
  let(t,U):=r
  cases(ty)
  exact(typeIs_str s z t,λ_ e=>nomatch e)
 |int i =>
  let(t,U):=r
  cases(ty)
  exact(typeIs_int s i t,λ_ e=>nomatch e)
 |ref p =>
  cases r;obtain⟨rfl,xs,hq⟩|⟨rfl,o,g,P,hd⟩|⟨rfl,g⟩|⟨rfl,S,n,g⟩:=ty
  ·let(its,_,pl,_):=I.list hq;refine(pl.isList.typeIs,λa e=>?_)
   cases e;let(o,n,e,c,hd,_):=pl;exact(o,e,hd)
  ·refine((o,I.kIn p o g,P),λa e=>?_)
   cases e;exact(o,I.kIn _ o g,hd)
  ·let z:∃o,s.heap.get? p=Z o/\o.ExactDict:=by
    obtain⟨kvs,g⟩|⟨kvs,g⟩:=g
    ·let(_,_,_,_,o,_,_,e,ex,_):=I.hok p _ g;exact(o,e,ex)
    ·let(_,_,_,_,o,_,_,e,ex,_):=I.hok p _ g;exact(o,e,ex)
   let(o,e,ex):=z;refine((o,e,ex.1),λa q=>?_)
   cases q;exact(o,e,ex.2.1)
  ·let(o,_,_,_,e,ex,_):=I.hok p _ g;refine((o,e,ex.1),λa q=>?_)
   cases q;exact(o,e,ex.2.1)
 |_=>exact False.elim ty
def DV(K:BT)(T:String)(r:V->List V->Hp->VK->Prop)(to:TE):TE:=λσ H Q=>to σ H λx H1=>tyV K T x H1/\r x [] H1 Q
def tBM(K:BT)(T:String)(r:V->List V->Hp->VK->Prop)(to:TE)(t:TA):TE:=λσ H Q=>to σ H λx H1=>tyV K T x H1/\t σ H1 λxs H2=>r x xs H2 Q
variable{o e:Ev}{es:List Ev}{to:TE}{t:TA}{name:Str}{apos aP:Pos}{T id:String}{r:V->List V->Hp->VK->Prop}
def wU(pa:PlainAttrs T)(slot:Slot T name id)(g:typeOf (.builtin id)=pure (.type "method_descriptor"))(hm:MtR X id r)(ho:PE X o to)
  (cB:attributeBase o name X.env (eval o X.env)=eval o X.env:=by rfl) (cA:(apos.endLine==aP.line)=true:=by rfl):PE X (.Call (.Attribute o name apos) [] [] aP) (DV X.K T r to):=by
 left;refine wpAny_Call_method0_late cB cA (thn (ho gV s σ H _ I h) λv s1 q=>?_)
 let(x,H1,P,z,ty,V):=q;let(h1,h2):=FC P z ty;exact(T,id,pa,slot,g,h1,h2,Calls.callWith_builtin U (PySem.evalArgs_none (hm gV s1 σ H1 x [] v [] Q P z .nil V)))
def rX(pa:PlainAttrs T)(slot:Slot T name id)(g:typeOf (.builtin id)=pure (.type "method_descriptor"))(hm:MtR X id r)(ho:PE X o to)(ha:PA X (e::es) t)
  (cB:attributeBase o name X.env (eval o X.env)=eval o X.env:=by rfl)
  (i6:((backTo aP (kh (e::es) X.env)).all (λx=>!x.1)&&(backToKw aP (keywordEach [] X.env)).all (λx=>x.1.isSome)
   && decide ((e::es).length+([]:List Keyword).length+(if([]:List Keyword).isEmpty then 0 else 1)<30))=true:=by rfl)
  (cA:(apos.endLine==aP.line)=true:=by rfl) (hs:AC X e es:=by rfl) (cG:AM X aP es:=by rfl):
  PE X (.Call (.Attribute o name apos) (e::es) [] aP) (tBM X.K T r to t):=by
 left;refine wpAny_Call_method_late cB i6 cA U (thn (ho gV s σ H _ I h) λv s1 q=>?_)
 let(x,H1,V,z,ty,q1):=q;let(h1,h2):=FC V z ty;refine(T,id,pa,slot,g,h1,h2,?_);let P:=ha aP gV s1 σ H1 _ V q1;rw[hs]at P ⊢;exact Calls.callWith_builtin (by show(ϊ ||(backTo aP (kh es X.env)).any (·.1))=ϊ;rw[cG] <;> rfl) (Calls.evalArgs_plain (thn P λus s2 (vs,H2,I2,r2,q2)=>hm gV s2 σ H2 x vs v us Q I2 z r2 q2))
end
def MtM(X:Cx)(id:String)(r:V->List V->Hp->VK->Prop):Prop :=
 ∀(gV:List (J×Obj))(s:ϋ)(σ:St)(H:Hp)(x:V)(xs:List V)(v:B)(us:List B)(Q:VK),Inv X gV σ H s->RelV x v->Vals xs us->r x xs H Q ->
  Zc X (call (.builtin id) (v::us)) (EP X gV σ Q) X.xe s
def Vals.one:∀{x:V}{us:List B},Vals [x] us->∃u,us=[u]/\RelV x u:=by
 intro x us h;cases h with
 |cons r t=>cases t;exact(_,U,r)
theorem Vals.zero:∀{us:List B},Vals [] us->us=[]
 |_,.nil=>rfl
theorem Vals.dropLast(h:Vals xs us):Vals xs.dropLast us.dropLast:=by
 induction h with
 |nil=>exact .nil
 |cons r t g =>
  cases t with
  |nil=>exact .nil
  |cons q t'=>exact .cons r g
theorem Vals.reverse(h:Vals xs us):Vals xs.reverse us.reverse:=by
 induction h with
 |nil=>exact .nil
 |cons r t g=>rw[V6,V6];exact Vals.append g (.cons r .nil)
def BE(l:List α):l.eraseIdx (l.length - 1)=l.dropLast:=by
 induction l with
 |nil=>rfl
 |cons a r g =>
  cases r with
  |nil=>rfl
  |cons b r =>
   let e:(a::b::r).length - 1=((b::r).length - 1)+1:=by
    rfl
   rw[e,List.eraseIdx_cons_succ,g]
   all_goals rfl
variable{t':Nat}
section
variable{X:Cx}{σ:St}{s:ϋ}{l:J}{xs ys:List V}
def Inv.Ij{f:Array B->Array B}{t':Nat}(I:Inv X gV σ H s)(hH:H l=Z (.lst xs))
  (e:s.heap.get? l=Z {cls:=.type "list",data:=.seq its.toArray n}) (hf:f its.toArray=its'.toArray) (hv:Vals ys its') (g:ys.length<=mu):
  Inv X gV σ (upd H l (.lst ys)) {s with heap:=s.heap.update l (Vc f),toks:=t'}:=by
 let q:=PySem.IsL.update e f;rw[hf]at q;exact I.write (x:=l) (e:=l) (by rw[hH];exact trivial) (.inl U) (λP u K z=>(z6 s.heap (Vc f) (Ne.symm K)).trans z) (_,q) (g,its',_,hv,q)
def Inv.S2(I:Inv X gV σ H s)(hv:Vals ys its)(g:ys.length<=mu):
  Inv X gV σ (upd H s.heap.objs.size (.lst ys)) {s with heap:=s.heap.push {cls:=.type "list",data:=.seq its.toArray},toks:=t'} :=
 I.laid (λ_ _ q=>j3 _ q) (m9 _) (g,its,0,hv,p6 _ U)
theorem Inv.fresh(I:Inv X gV σ H s):H s.heap.objs.size=none:=I.hok.fresh (m9 _)
def Inv.zj(I:Inv X gV σ H s)(hH:H l=Z (.lst xs)):xs.length<=mu/\∃(its:List B)(n:Nat),Vals xs its/\xs.length=its.length/\s.heap.get? l=Z {cls:=.type "list",data:=.seq its.toArray n}:=by
 let(z,its,n,r,e):=I.hok l _ hH;exact(z,its,n,r,r.length,e)
def y8(h:n<=mu):Builtin.List.listTooLong n=false:=by
 exact decide_eq_false (by lia)
end
section
variable{X:Cx}
inductive mh(x:V)(vs:List V)(H:Hp)(Q:VK):Prop
 |mk(l xs y)(h1:x=.ref l)(h2:vs=[y])(h3:H l=Z (.lst xs))(h4:xs.length<mu)(h5:Q .non (upd H l (.lst (xs ++ [y]))))
theorem vd:MtM X "list.append" mh:=by
 intro gV s σ H x vs v us Q I g rv h;let(l,xs,y,U,U,hH,K,q):=h;cases g;let(u,U,ru):=rv.one;let(z,its,n,r,hl,e):=I.zj hH;refine call_meets F.slot_list_append (_,e,U) F.entry_list_append (F.args_list_append_2 _ _) (PySem.list_append l its.toArray n u (by rw[pM];lia)) (e,?_)
 refine(.non,_,I.Ij hH e (by simp) (r.append (.cons ru .nil)) ?_,U,q)
 rw[pL,XJ]
 lia
inductive pV(x:V)(vs:List V)(H:Hp)(Q:VK):Prop
 |mk(l b xs zs)(h1:x=.ref l)(h2:vs=[.ref b])(h3:H l=Z (.lst xs))(h4:H b=Z (.lst zs))(h5:xs.length+zs.length<=mu)(h6:Q .non (upd H l (.lst (xs++zs))))
theorem ED:MtM X "list.extend" pV:=by
 intro gV s σ H x vs v us Q I K rv h;let(l,b,xs,zs,U,U,hH,hB,hz,q):=h;cases K;let(u,U,ru):=rv.one;cases ru;let(z,its,n,r,hl,e):=I.zj hH;let(z2,g,V,P,av,e2):=I.zj hB;let hsz:its.toArray.size+g.toArray.size<=mu:=by rw[pM,pM];lia
 let IG:¬(!its.toArray.isEmpty&&Builtin.List.listTooLong (its.toArray.size+g.toArray.size))=true:=by
  rw[y8 hsz,WX];exact qE
 refine call_meets F.slot_list_extend (_,e,U) F.entry_list_extend (F.args_list_extend_2 _ _)
  (AutoSeq1.list_extend_list_list_0 l its.toArray n b g.toArray V IG (by rw[pM];lia) (by lia)) (e,e2,?_)
 refine(.non,_,I.Ij hH e (by simp) (r.append P) ?_,U,q)
 rw[pL];omega
inductive KP(x:V)(vs:List V)(H:Hp)(Q:VK):Prop
 |mk(l xs y)(h1:x=.ref l)(h2:vs=[])(h3:H l=Z (.lst xs))(h4:xs[xs.length - 1]?=Z y)(h5:Q y (upd H l (.lst xs.dropLast)))
theorem Bm:MtM X "list.pop" KP:=by
 intro gV s σ H x vs v us Q I P rv h;let(l,xs,y,U,U,hH,V,q):=h;cases P;let K:=rv.zero;subst K;let(z,its,n,r,hl,e):=I.zj hH;let(u,hu,ru):=r.get V;let g:=by
  show its.toArray[its.length - 1]?=Z u;rw[<- XM,<- hl];exact hu
 refine call_meets F.slot_list_pop (_,e,U) F.entry_list_pop (F.args_list_pop_1 _) (MeetsSeq.list_pop_last l its.toArray n u g (by rw[pM];lia)) (e,?_)
 refine(y,_,I.Ij hH e ?_ r.dropLast ?_,ru,q)
 ·rw[pM,List.eraseIdxIfInBounds_toArray,BE]
 ·rw[List.length_dropLast]
  lia
inductive AV(x:V)(vs:List V)(H:Hp)(Q:VK):Prop
 |mk(l xs)(h1:x=.ref l)(h2:vs=[])(h3:H l=Z (.lst xs))(h4:Q .non (upd H l (.lst [])))
theorem Ig:MtM X "list.clear" AV:=by
 intro gV s σ H x vs v us Q I K rv h;let(l,xs,U,U,hH,q):=h;cases K;let g:=rv.zero;subst g;let(z,its,n,r,hl,e):=I.zj hH;refine call_meets F.slot_list_clear (_,e,U) F.entry_list_clear (F.args_list_clear_1 _) (AutoSeq1.list_clear_list_0 l its.toArray n (by rw[pM];omega)) (e,?_)
 exact(.non,_,I.Ij (its':=[]) (ys:=[]) hH e U .nil (JG _),U,q)
inductive R4(x:V)(y:V)(H:Hp)(Q:VK):Prop
 |mk(l b xs zs)(h1:x=.ref l)(h2:y=.ref b)(h3:H l=Z (.lst xs))(h4:H b=Z (.lst zs))(h5:xs.length+zs.length<=mu)(h6:∀p,H p=Y->Q (.ref p) (upd H p (.lst (xs++zs))))
def PU:OpR X (binaryOp .Add) R4:=by
 intro gV s σ H x y v u Q I V K h;let(l,b,xs,zs,U,U,hH,hB,hz,q):=h;cases V;cases K;let(z,its,n,r,hl,e):=I.zj hH;let(z2,g,n2,r2,av,e2):=I.zj hB;refine PySem.P.add_list e e2 ?_ (by rw[pM,pM];omega)
 let ea:its.toArray++g.toArray=(its++g).toArray:=by simp
 rw[ea];exact(.ref _,_,I.S2 (r.append r2) (by rw[pL];omega),U,q _ I.fresh)
end
end L2
namespace Att
open PySem PySem.W PySem.Calls PyProof.Rows
def pB:∀(ns:List Int)(vs:List B),WellAll P h vs (ns.map WData.int)->IntsAre vs ns:=by
 intro ns
 induction ns with
 |nil =>
  intro vs w;cases w;exact .nil
 |cons n ns g =>
  intro vs w;cases w with
  |cons a b =>
   cases a;exact .cons _ _ (g _ b)
def D6{l:OpenLaw}(hn:l.most=Z n)
  (hpre:l.row.toRowW.claim.pre args=O) (g:WellAll P h vals args):
  ∃a vs ns,vals=[B.ref a]/\args=[WData.list (ns.map WData.int)]/\h.get? a=Z {cls:=.type "list",data:=.seq vs.toArray}/\IntsAre vs ns/\ns.length<=n:=by
 let q:WShape.hasAll [] args [.list .int]=true:=(pre_splitW hpre).1;let Q:l.pre.holds [] {args:=args}=true:=(pre_splitW hpre).2;let(d,r,U,h1,h2):=hasAllW_cons q;obtain rfl:=hasAllW_nil h2;let(xs,U,h3):=hasW_list h1;let(ns,U):=items_int h3;let hlen:=by
  let h4:=by
   let h4:=(holds_andW Q).1;rw[hn]at h4;exact h4
  let h5:=condW_of h4 (w_not (w_lt w_lit (w_len_list (w_arg U))))
  first
   | (exact absurd h5 (by decide))
   | (simp at h5;omega)
 cases g with
 |cons K z =>
  cases z;cases K with
  |list ho V=>exact(_,_,ns,U,U,ho,pB ns _ V,hlen)
def En(l:OpenLaw)(args:List WData):l.row.toRowW.claim.post args (.bool O) args=true :=
 postW_of
  (by rfl)
  (w_eq_bool (w_res U) w_lit) U
def zQ{l:OpenLaw}{n:Nat}{q:Da}{loose:List Str}{XP:(Str->Option B)->Do->Prop}{YP:Cl->Do->Prop}{d:DefRec}
  (hn:l.most=Z n) (P:d.params.defaults=[])
  (call:∀(w:Cl)(s₀ g:ϋ)(mg mb:Str->Option B)(z:J)(o:Obj)(pm cd doc:B)(a:J)(vs:List B)(ns:List Int),
   Ground q loose [] XP w s₀ mg mb g.heap->YP w g.heap ->
   g.heap.get? z=Z o->o.data=.func (docDef d.name d.params d.body d.scope pm cd doc)->g.heap.CodeRec cd d.name->mg d.name=Z (.ref z) ->
   g.heap.get? a=Z {cls:=.type "list",data:=.seq vs.toArray}->IntsAre vs ns->ns.length<=n->g.gens=#[] ->
   codeAny (model l.prog w) callerA (.call (.ref z) ([.ref a],[])) (λr s'=>r=.ok (.ret (.bool O))/\OldK g.heap s'.heap/\s'.os=g.os/\AllBare s'.gens) g):
  WalkO q loose XP YP l.row.toRowW d [] (λf vs=>PySem.call f vs):=by
 intro w s₀ g mg mb G Yz z o pm cd doc dV kV ho hd Q V hmg hg args vals as hpre V0 av K az;obtain rfl:=Dflts.none V P;obtain rfl:=Dflts.noKw V;let(a,vs,ns,U,U,Qw,hints,hlen):=D6 hn hpre K;refine enter_call (codeAny_mono (call w s₀ g mg mb z o pm cd doc a vs ns G Yz ho (fd_plain hd) Q hmg Qw hints hlen hg) λr s' hq=>?_)
 let(U,h2,h3,h4):=hq;exact(.inl (.bool O,.bool O,[],U,λ_=>rfl,.bool O,En l _,λ_=>(List.Pairwise.nil,λ_ hm=>(nomatch hm))),h2,h3,h4)
section
def ledger(h:Do)(L d:J):List (J×Obj):=(IK h.objs.size).filterMap λa=>if a=L\/a=d then Y else(h.get? a).map λo=>(a,o)
end
end Att
namespace L2
open PySem PySem.Spec PyProof.Rows
variable{ns:List Int}
def DS(h:IntsAre vs ns):Vals (ns.map V.int) vs:=by
 induction h with
 |nil=>exact .nil
 |cons n t _ g=>exact .cons (t,U) g
def NJ(H:Hp):Prop:=∀b,H b=Y\/∃o xs,H b=Z (.frz o (.lst xs))
variable{mg:Str->Option B}{a:J}{x:Str}
theorem Ip{K:BT}
  (KX:K.In g.heap) (az:g.heap.Ns mainGlobals mg) (Q:g.heap.Ns builtinsNs mb) (aM:∀x:Str,x ≠ "__name__"->mb x=bootBuiltins x) (Vh:g.heap.NoLimit) (hg:g.gens=#[])
  (ha:g.heap.get? a=Z {cls:=.type "list",data:=.seq vs.toArray}) (hi:IntsAre vs ns) (hl:ns.length<=mu) (hr:cu k callerA)
  (F:∀base:Do,K.In base->base.Ns mainGlobals mg->bb P w K mg base CX k fa fd [x] sp) (TB:∀(s:ϋ)(u:B),BindsTo s fd ([u],[]) [(x,u)])
  (aK:∀H:Hp,NJ H->SqL K H a (ns.map V.int)->sp [.ref a] H (λv _=>v=.bl O) λ_ _ _=>False)
  (aN:∀H e s',CX [] H g (λ_ _ _=>False) e s'->False):
  codeAny (model P w) callerA (.call (.ref fa) ([.ref a],[])) (λr s'=>r=.ok (.ret (.bool O))/\OldK g.heap s'.heap/\s'.os=g.os/\AllBare s'.gens) g:=by
 let rv:=DS hi;let UZ:=hi.length;let core:∀H,NJ H->SqL K H a (ns.map V.int)->HOk P w H g.heap->(∀b,H b≠Y->b=a)->(H a≠Y->K.lookup a=Y) ->
   codeAny (model P w) callerA (.call (.ref fa) ([.ref a],[])) (λr s'=>r=.ok (.ret (.bool O))/\OldK g.heap s'.heap/\s'.os=g.os/\AllBare s'.gens) g:=by
  intro H hO hS hok hA hK;let Dr:∀{b:J}{o:Obj},g.heap.get? b=Z o->H b=Y->(zy g.heap H).get? b=Z o:=λe n=>IJ e n
  let aF:∀{b:J}{o:Obj}{es:Array DictEntry}{ep:Nat},g.heap.get? b=Z o->o.data=.dict es ep->H b=none:=λ{b o es ep} e d=>by
   cases q:H b with
   |none=>rfl
   |some u =>
    let e':=hA b (by rw[q];simp)
    subst e';rw[ha]at e;cases e;let d':=d;cases d'
  let av:∀{b:J}{m:Str->Option B},g.heap.Ns b m->(zy g.heap H).Ns b m:=λ{b m} (o,es,ep,e,d,r)=>(o,es,ep,Dr e (aF e d),d,r)
  let aD:=λb o e=>Dr (KX b o e) (by
   cases q:H b with
   |none=>rfl
   |some u =>
    let e':=hA b (by rw[q];simp)
    subst e';rw[hK (by rw[q];simp)]at e;cases e)
  let hM:Mod K mg (zy g.heap H):=(aD,av az,(mb,av Q,aM),let(mc,h1,h2):=Vh;(mc,av h1,h2))
  let e0:BS P w K mg (zy g.heap H) callerA [] g H:=(U,hM,λb o e=>MA e,Nat.le_of_eq (ER _ _),trivial,λb Q=>absurd (show b∈([])from Q) (by simp),hok,.of_eq hg)
  refine codeAny_mono ((F _ aD (av az)).run callerA [] g H ([.ref a],[]) [.ref a] [.ref a] _ _ hr e0 (TB g (.ref a)) (.cons U .nil) (aK H hO hS)) λr s' h=>?_
  cases r with
  |error e=>exact(aN H e s' h).elim
  |ok fl =>
   cases fl with
   |next=>exact False.elim h
   |brk=>exact False.elim h
   |cont=>exact False.elim h
   |ret u =>
    let(v,H',os,bare,un,Ve,r',q):=h;let q':=q;subst q';obtain rfl:=r';refine(U,OldK.of_keep λb o e=>?_,os,bare)
    cases q:H b with
    |none=>exact un.keep b o e q (by intro z;exact absurd (show b∈([])from z) (by simp)) (by simp)
    |some u =>
     obtain z |⟨ob,xs,z⟩:=hO b
     ·rw[q]at z;cases z
     ·let z2:=un.lC b ob _ z;let(e1,_):=hok b _ z;let(e2,_):=Ve b _ z2;rw[e]at e1;cases e1;exact e2
 cases hk:K.lookup a with
 |some o =>
  let e:=KX a o hk;rw[ha]at e;cases e;refine core (λ_=>Y) (λ_=>.inl U) (.inr (_,vs.toArray,_,hk,U,U,U,by rw[pM,UZ];exact hl,by simpa using rv)) (λb u z=>by let z':=z;cases z') (λb z=>absurd U z) λz=>absurd U z
 |none =>
  refine core (λb=>if b=a then Z (.frz {cls:=.type "list",data:=.seq vs.toArray} (.lst (ns.map V.int)))else Y) (λb=>?_) (.inl (.inr ({cls:=.type "list",data:=.seq vs.toArray},if_pos U))) (λb u z=>?_) (λb z=>?_) λ_=>hk
  ·by_cases Q:b=a
   ·exact .inr (_,_,if_pos Q)
   ·exact .inl (if_neg Q)
  ·by_cases Q:b=a
   ·let z':=(if_pos Q).symm.trans z;cases z';subst Q;exact(ha,by rw[ej];exact hl,vs,_,rv,ha)
   ·let z':=(if_neg Q).symm.trans z;cases z'
  ·by_cases Q:b=a
   ·exact Q
   ·exact absurd (if_neg Q) z
variable{n:Nat}
theorem J5{l:W.OpenLaw}{k:Nat}{q:Da}{loose:List Str}{XP:(Str->Option B)->Do->Prop}{YP:Cl->Do->Prop}{d:DefRec}{K:Params->BT}{CX:Cl->CXT}{sp:Cl->Sp}
  (hn:l.most=Z n) (av:n<=mu) (az:d.params.defaults=[]) (hr:cu k callerA)
  (hY:∀(w:Cl)(h:Do),YP w h->(K w.params).In h)
  (F:∀(w:Cl)(mg:Str->Option B)(P:J)(h:Do),(K w.params).In h->h.Ns mainGlobals mg->mg d.name=Z (.ref P) ->
   ∃fd:Ch,(∀(s:ϋ)(u:B),BindsTo s fd ([u],[]) [(x,u)]) /\
    ∀base:Do,(K w.params).In base->base.Ns mainGlobals mg->bb l.prog w (K w.params) mg base (CX w) k P fd [x] (sp w))
  (Q:∀(w:Cl)(H:Hp)(a:J)(ns:List Int),ns.length<=n->NJ H->SqL (K w.params) H a (ns.map V.int)->sp w [.ref a] H (λv _=>v=.bl O) λ_ _ _=>False)
  (aD:∀(w:Cl)(H:Hp)(s:ϋ)(e:B)(s':ϋ),CX w [] H s (λ_ _ _=>False) e s'->False):
  W.WalkO q loose XP YP l.row.toRowW d [] (λf vs=>PySem.call f vs):=by
 refine Att.zQ hn az λw s₀ z mg mb P o pm cd doc a vs ns G Yz ho hd aF hmg Qw hints hlen hg=>?_
 let KX:=hY w _ Yz;let(fd,hb,hF):=F w mg P _ KX G.T.g hmg;exact Ip KX G.T.g G.T.b G.T.builtins G.T.nolimit hg Qw hints (xZ hlen av) hr hF hb (λH hO hS=>Q w H a ns hlen hO hS) λH e s'=>aD w H z e s'
def inClass(s:EQ)(j:Nat):EQ:=match s with
 |.ClassDef _ _ _ body _ _ _ _ _ _ _=>body.getD j (.Pass (0,0,0,0))
 |_=>.Pass (0,0,0,0)
def eI(s:EQ):Arguments:=match s with
 |.FunctionDef _ a _ _ _ _ _ _ _ _=>a
 |_=>{posonlyargs:=[],args:=[],vararg:=Y,kwonlyargs:=[],kw_defaults:=[],kwarg:=Y,defaults:=[]}
def cb(s:EQ):List EQ:=match s with
 |.FunctionDef _ _ b _ _ _ _ _ _ _=>b
 |_=>[]
def ao(s:EQ):Scope:=match s with
 |.FunctionDef _ _ _ _ _ _ sc _ _ _=>sc
 |_=>{kind:=.function,names:=[],isGenerator:=ϊ,isCoroutine:=ϊ}
abbrev CX0:CXT:=λ_ _ _ _ _ _=>False
abbrev E0:XK:=λ_ _ _=>False
variable{X:Cx}
def kN:Passes CX0 X E0:=λ_ _ _ _ _ _ _ h=>h.elim
structure Fun(K:BT)(x qual:Str)(st:EQ)(f:J)(fd:Ch):Prop where
 ex:∃(oc:B)(od:Option J)(kV doc pm:B)(an:Option J)(cdv ct:B)(osl:Array (Option B)),
  fd=W.fnOf x qual (eI st) (cb st) (ao st) .none kV doc pm an cdv ct/\K.lookup f=Z (oc,od,.func fd,osl)/\W.codeIn K cdv qual=O
 kp:W.keepIn K (.ref f)=O
variable{qual:Str}{fd:Ch}{N:List Str}{sp:Sp}{oc:B}{od:Option J}{an:Option J}{pm:B}{ct:B}
section
variable{P:Da}{w:Cl}{K:BT}{base:Do}
theorem Fun.ok{st:EQ}(F:Fun K x qual st f fd)(S:aB N ps (ao st))(len:∀vs H Q E,sp vs H Q E->vs.length=ps.length)
  (jN:∀(cdv:B)(A:Db)(outer:List Env)(s:ϋ)(H:Hp)(vs:List V)(Q:VK)(E:XK),cu k (A.deeper (envOfC qual (ao st) s.heap.objs.size f cdv))->sp vs H Q E ->
   ∃t,PSs (sO CX0 P w K mg base N qual (ao st) f cdv A outer s H E).nox (cb st) t/\t {nx:=λ_ H'=>Q .non H',rt:=Q} (start N vs) H):bb P w K mg base CX0 (k+1) f fd ps sp:=by
 let(oc,od,kV,doc,pm,an,cdv,ct,osl,U,lk,z):=F.ex;refine TU lk z S len λA outer s H vs Q E hr g=>?_
 let(t,h,q):=jN cdv A outer s H vs Q E hr g;exact(t,h.nox,q)
theorem Fun.binds{st:EQ}(F:Fun K x qual st f fd)
  (h:∀(kV doc pm:B)(an:Option J)(cdv ct:B)(us:List B),us.length=ps.length->bindArgs (W.fnOf x qual (eI st) (cb st) (ao st) .none kV doc pm an cdv ct) (us,[])=pure (ps.zip us)):Binds K fd ps []:=by
 let(oc,od,kV,doc,pm,an,cdv,ct,osl,U,lk,g):=F.ex;exact .all (h kV doc pm an cdv ct)
theorem BD{st:EQ}{kV doc cdv:B}(l:K.lookup f=Z (oc,od,.func (W.fnOf x qual (eI st) (cb st) (ao st) .none kV doc pm an cdv ct),osl))
  (c:W.codeIn K cdv qual=O) (k:W.keepIn K (.ref f)=O):Fun K x qual st f (W.fnOf x qual (eI st) (cb st) (ao st) .none kV doc pm an cdv ct):=((oc,od,kV,doc,pm,an,cdv,ct,osl,U,l,c),k)
end
variable{A:Db}
def cC(hr:cu k A):A.units+1<cLine:=WT (Xh (by decide) _) hr.units
def aG(h:n<=1000):n<mu:=WT h (by decide)
section
def pv(i:Nat){pos:Pos}(q:X.N[i]?=Z x:=by rfl)(hv:Vis X.env.scope x:=by first|exact Or.inl rfl|exact Or.inr (Or.inl U)|exact Or.inr (Or.inr U))(hd:AS x:=by decide)
  (g:(x ==("__classdict__":Str))=false:=by decide):PE X (.Name x pos) (bB i):=wO q hv hd g
end
def U6{A YA:Prop}(h:YA):if ϊ=O then A else YA:=by
 exact h
def bH{c A YA:Prop}[Decidable c](h1:c->A)(h2:¬ c->YA):if c then A else YA:=by
 by_cases h:c
 ·rw[if_pos h];exact h1 h
 ·rw[if_neg h];exact h2 h
def lL(H H':Hp):Prop:=∀b o,H b=Z o->H' b=Z o
def lL.refl(H:Hp):lL H H:=λ_ _ h=>h
variable{H:Hp}{H':Hp}{l:J}
def lL.free(e:lL H H')(h:H' l=Option.none):H l=Option.none:=by
 cases q:H l with
 |none=>rfl
 |some o =>
  rw[e l o q]at h;cases h
variable{y:V}{u:B}
section
variable{κ:Type}[DecidableEq κ]
def fP(kvs:List (κ×V))(k:κ):Option V:=(kvs.find? λkv=>decide (kv.1=k)).map (·.2)
def putK(kvs:List (κ×V))(k:κ)(v:V):List (κ×V) :=
 if(kvs.any λkv=>decide (kv.1=k))=O then kvs.map (λkv=>if kv.1=k then(kv.1,v)else kv)else kvs ++ [(k,v)]
def qI{k:κ}(e:p.1=k):fP (p::r) k=Z p.2:=by simp[fP,e]
def qJ{k:κ}(e:¬ p.1=k):fP (p::r) k=fP r k:=by simp[fP,e]
theorem yh(k:κ):∀kvs:List (κ×V),(kvs.any λkv=>decide (kv.1=k))=(fP kvs k).isSome
 |[]=>rfl
 |p::r=>by
  rw[Wm];by_cases e:p.1=k
  ·simp only[qI e,decide_eq_true e,Bool.true_or,X5]
  ·rw[qJ e,decide_eq_false e];exact yh k r
def jI(kvs:List (κ×V))(k:κ)(v:V):(putK kvs k v).length<=kvs.length+1:=by
 unfold putK
 split
 ·rw[ej];lia
 ·rw[pL,rl,WE];lia
def iD.iu{u:Option B}(r:iD o u):o.isSome=u.isSome:=by
 cases o with
 |none=>cases u with
  |none=>rfl
  |some _=>exact(r).elim
 |some _=>cases u with
  |none=>exact(r).elim
  |some _=>rfl
theorem iD.getD{u:Option B}(r:iD o u)(rd:RelV d g):RelV (o.getD d) (u.getD g):=by
 cases o with
 |none=>cases u with
  |none=>exact rd
  |some _=>exact(r).elim
 |some _=>cases u with
  |none=>exact(r).elim
  |some _=>exact r
def KV.val(r:KV kvs vs)(k:κ):iD (fP kvs k) (valueAt vs k):=by
 induction r with
 |nil=>exact True.intro
 |@cons p q ps qs h t g =>
  let(h1,h2):=h;by_cases e:p.1=k
  ·let e':=h1.symm.trans e;let b:valueAt (q::qs) k=Z q.2:=by simp[valueAt,e']
   rw[qI e,b];exact h2
  ·let e':¬ q.1=k:=λz=>e (h1.trans z)
   let b:valueAt (q::qs) k=valueAt qs k:=by simp[valueAt,e']
   rw[qJ e,b];exact g
theorem KV.any(r:KV kvs vs)(k:κ):(kvs.any λkv=>decide (kv.1=k))=vs.any λkv=>decide (kv.1=k):=by
 induction r with
 |nil=>rfl
 |cons h t g=>rw[Wm,Wm,g,h.1]
def KV.O0(r:KV kvs vs)(k:κ)(g:RelV y u):
  KV (kvs.map λkv=>if kv.1=k then(kv.1,y)else kv) (vs.map λkv=>if kv.1=k then(kv.1,u)else kv):=by
 induction r with
 |nil=>exact .nil
 |@cons p q ps qs h t K =>
  rw[xY,xY];refine .cons ?_ K;let(h1,h2):=h;by_cases e:p.1=k
  ·rw[if_pos e,if_pos (h1.symm.trans e)];exact(h1,g)
  ·rw[if_neg e,if_neg (λz=>e (h1.trans z))];exact(h1,h2)
def KV.put(r:KV kvs vs)(k:κ)(g:RelV y u):KV (putK kvs k y) (stored vs k u):=by
 unfold putK stored;rw[r.any k];by_cases e:(vs.any λkv=>decide (kv.1=k))=O
 ·rw[if_pos e,if_pos e];exact r.O0 k g
 ·rw[if_neg e,if_neg e];exact Paired.snoc r (U,g)
def KV.keys{vs:List (κ×B)}(r:KV kvs vs):kvs.map (·.1)=vs.map (·.1):=by
 unfold KV at r
 induction r with
 |nil=>rfl
 |cons h t g=>rw[xY,xY,g,h.1]
theorem KV.length(r:KV kvs vs):kvs.length=vs.length:=Paired.length r
end
variable{P:Da}
def jK(r:RelV (kV k) u):(bE P w).is k u=true:=by
 cases k with
 |inl i=>let(t,e):=(r);subst e;exact zf P w i t
 |inr x=>let(t,e):=(r);subst e;exact ze P w x t
theorem vg:∀{ks:List Key}{us:List B},Vals (ks.map kV) us->ItemsAre (bE P w) ks us
 |[],_,r=>by cases r;exact .nil
 |k::ks,_,r=>by
  cases r with
  |cons h t=>exact .cons (jK h) (vg t)
abbrev KT(H:Hp):List (List Key×V)->List (List Key×J×B)->Prop:=Paired λp q=>p.1=q.1/\H q.2.1=Z (.tup (p.1.map kV))/\RelV p.2 q.2.2
def KT.val(r:KT H kvs xs)(k:List Key):iD (fP kvs k) ((atKey xs k).map (·.2)):=by
 induction r with
 |nil=>exact True.intro
 |@cons p q ps qs h t g =>
  let(h1,_,h2):=h;by_cases e:p.1=k
  ·let e':=h1.symm.trans e;let b:atKey (q::qs) k=Z q.2:=by simp[atKey,e']
   rw[qI e,b];exact h2
  ·let e':¬ q.1=k:=λz=>e (h1.trans z)
   let b:atKey (q::qs) k=atKey qs k:=by simp[atKey,e']
   rw[qJ e,b];exact g
def KT.O0(r:KT H kvs xs)(k:List Key)(g:RelV y u):
  KT H (kvs.map λkv=>if kv.1=k then(kv.1,y)else kv) (xs.map (putAt k u)):=by
 induction r with
 |nil=>exact .nil
 |@cons p q ps qs h t K =>
  rw[xY];refine .cons ?_ K;let(h1,h2,h3):=h;unfold putAt;by_cases e:p.1=k
  ·rw[if_pos e,if_pos (h1.symm.trans e)];exact(h1,h2,g)
  ·rw[if_neg e,if_neg (λz=>e (h1.trans z))];exact(h1,h2,h3)
def KT.put(r:KT H kvs xs)(k:List Key)(z:H b=Z (.tup (k.map kV)))(g:RelV y u):
  KT H (putK kvs k y) (storedH xs k b u):=by
 let e:(kvs.any λkv=>decide (kv.1=k))=(atKey xs k).isSome:=by
  rw[yh,(r.val k).iu,WK]
 unfold putK storedH;rw[e];by_cases q:(atKey xs k).isSome=O
 ·rw[if_pos q,if_pos q];exact r.O0 k g
 ·rw[if_neg q,if_neg q];exact Paired.snoc r (U,z,g)
def KT.keeps(r:KT H kvs xs)(g:∀b ys,H b=Z (.tup ys)->H' b=Z (.tup ys)):KT H' kvs xs :=
 Paired.S0 r λ_ _ z=>(z.1,g _ _ z.2.1,z.2.2)
variable{kvs:List (Key×V)}
section
variable{w:Cl}{h:Do}
def NZ{u:HO}(ok:HOk P w H h)(e:Rd H a u):c7 P w H h a u:=e.ok ok
def iB(ok:HOk P w H h)(e:Rd H a (.dK kvs)):kvs.length<=mu/\(a==sysModules)=ϊ/\∃vs,KV kvs vs/\h.DictOf (bE P w) a vs :=
 NZ ok e
def Jc(ok:HOk P w H h)(e:H a=Z (.dK kvs)):kvs.length<=mu/\(a==sysModules)=ϊ/\∃vs,KV kvs vs/\h.DictOf (bE P w) a vs:=iB ok (.inl e)
def nW(ok:HOk P w H h)(e:H a=Z (.tup (ks.map kV))):(tupleKind (bE P w)).is h ks a:=by
 let(_,its,r,(o,h1,h2,n,h3),_):=(ok a _ e);exact(o,its.toArray,n,h1,h2,h3,by simpa using vg r)
def sM{kvs:List (List Key×V)}(ok:HOk P w H h)(e:Rd H a (.dT kvs)):kvs.length<=mu/\(a==sysModules)=ϊ /\
  ∃xs,KT H kvs xs/\h.DictOfH (tupleKind (bE P w)) a xs:=by
 let(z,y,xs,r,o,es,K,h1,h2,h3,h4,h5):=(NZ ok e);refine(z,y,xs,r,o,es,K,h1,h2,h3,h4,λx hx=>?_,h5)
 let all:∀{l:List (List Key×V)}{m:List (List Key×J×B)},KT H l m->∀x∈m,(tupleKind (bE P w)).is h x.1 x.2.1:=by
  intro l m q
  induction q with
  |nil=>intro x hx;exact nomatch hx
  |@cons p q ps qs hq t g =>
   intro x hx;obtain e|hx:=kz.mp hx
   ·subst e;exact nW ok (by rw[<- hq.1];exact hq.2.1)
   ·exact g x hx
 exact all r x hx
def TX{kvs:List (List Key×V)}(ok:HOk P w H h)(e:H a=Z (.dT kvs)):kvs.length<=mu/\(a==sysModules)=ϊ /\
  ∃xs,KT H kvs xs/\h.DictOfH (tupleKind (bE P w)) a xs:=sM ok (.inl e)
end
def hU(H:Hp)(a:J)(y:V)(r:Option V):Prop :=
 (∃kvs k,Rd H a (.dK kvs)/\y=kV k/\r=fP kvs k)\/∃kvs k b,Rd H a (.dT kvs)/\y=.ref b/\H b=Z (.tup (k.map kV))/\r=fP kvs k
def pN(H:Hp)(a:J)(y v:V)(H':Hp):Prop :=
 (∃kvs k,H a=Z (.dK kvs)/\y=kV k/\kvs.length<mu/\H'=upd H a (.dK (putK kvs k v))) \/
 ∃kvs k b,H a=Z (.dT kvs)/\y=.ref b/\H b=Z (.tup (k.map kV))/\kvs.length<mu/\H'=upd H a (.dT (putK kvs k v))
theorem hU.k{a:J}{kvs:List (Key×V)}{k:Key}(e:H a=Z (.dK kvs)):hU H a (kV k) (fP kvs k):=.inl (kvs,k,.inl e,U,U)
theorem pN.k{a:J}{kvs:List (Key×V)}{k:Key}{v:V}(e:H a=Z (.dK kvs))(hl:kvs.length<mu):pN H a (kV k) v (upd H a (.dK (putK kvs k v))):=.inl (kvs,k,e,U,hl,U)
variable{Q:B->ϋ->Prop}{h':Do}{t':Nat}
section
variable{gV:List (J×Obj)}{σ:St}{s:ϋ}{v:V}{r:B}{o:Option V}{E:B->ϋ->Prop}
def Inv.big(I:Inv X gV σ H s):sysModules<s.heap.objs.size:=by
 let h:=(I.mod.glob.keeps I.bk).lt;exact Xi (by decide) h
def EY(hu:A.units+1<cLine)(I:Inv X gV σ H s)(g:hU H a y (Z v))(ry:RelV y u)(h:∀K s',Inv X gV σ H s'->RelV v K->Q K s'):
  wpAny (model X.prog X.w) A (getItem (.ref a) u) Q E s:=by
 obtain⟨kvs,k,e,V,l⟩|⟨kvs,k,b,e,V,eb,l⟩:=g
 ·subst V;let(z,hd,vs,rel,dd):=iB I.hok e;let(K,hw,q):=iD.some_of (by rw[l];exact rel.val k)
  exact wpAny_getItem_of (jK ry) dd.mapOf hw (h K _ (I.tok _) q)
 ·subst V
  cases(ry)
  let(z,hd,xs,rel,dd):=sM I.hok e;let(K,hw,q):=iD.some_of (by rw[l];exact rel.val k)
  let(p,hp,P):=kg.mp hw;refine wpAny_getItem_heap (tupleKind_room_in1 hu) (nW I.hok eb) dd hp ?_;rw[P];exact h K _ (I.tok _) q
def VC(V:A.units+1<cLine)(I:Inv X gV σ H s)(g:hU H a y o)(P:RelV y u)(h:∀s',Inv X gV σ H s'->Q (.bool o.isSome) s'):
  wpAny (model X.prog X.w) A (compareOp .In u (.ref a)) Q E s:=by
 obtain⟨kvs,k,e,K,l⟩|⟨kvs,k,b,e,K,eb,l⟩:=g
 ·subst K;let(z,hd,vs,rel,dd):=iB I.hok e;refine wpAny_in_of (jK P) hd dd.mapOf ?_;rw[<- (rel.val k).iu,<- l];exact h _ (I.tok _)
 ·subst K
  cases(P)
  let(z,hd,xs,rel,dd):=sM I.hok e;refine wpAny_in_heap (tupleKind_room_in1 V) (nW I.hok eb) hd dd ?_;let q:=(rel.val k).iu;rw[WK]at q;rw[<- q,<- l];exact h _ (I.tok _)
def Nn(V:A.units+1<cLine)(I:Inv X gV σ H s)(g:hU H a y o)(P:RelV y u)(h:∀s',Inv X gV σ H s'->Q (.bool (!o.isSome)) s'):
  wpAny (model X.prog X.w) A (compareOp .NotIn u (.ref a)) Q E s:=by
 obtain⟨kvs,k,e,K,l⟩|⟨kvs,k,b,e,K,eb,l⟩:=g
 ·subst K;let(z,hd,vs,rel,dd):=iB I.hok e;refine wpAny_notIn_of (jK P) hd dd.mapOf ?_;rw[<- (rel.val k).iu,<- l];exact h _ (I.tok _)
 ·subst K
  cases(P)
  let(z,hd,xs,rel,dd):=sM I.hok e;refine wpAny_notIn_heap (tupleKind_room_in1 V) (nW I.hok eb) hd dd ?_;let q:=(rel.val k).iu;rw[WK]at q;rw[<- q,<- l];exact h _ (I.tok _)
def xF(I:Inv X gV σ H s)(g:Mut (H a))(hs:WC a s.heap h')(he:∃q,h'.get? a=Z q)(new:c7 X.prog X.w (upd H a ob) h' a ob):
  Inv X gV σ (upd H a ob) {s with heap:=h',toks:=t'} :=
 I.write g (.inl U) (λb q K z=>(hs.2 b K).trans z) he new
def og(z:kvs.length<=mu)(hd:(a==sysModules)=ϊ)(rel:KV kvs vs)(dd:h'.DictOf (bE P w) a vs):
  c7 P w H' h' a (.dK kvs):=(z,hd,vs,rel,dd)
def EX{Q:Unit->ϋ->Prop}(hu:A.units+1<cLine)(I:Inv X gV σ H s)(g:pN H a y v H')(ry:RelV y u)(rv:RelV v r)(h:∀s',Inv X gV σ H' s'->Q () s'):
  wpAny (model X.prog X.w) A (setItem (.ref a) u r) Q E s:=by
 obtain⟨kvs,k,e,P,l,V⟩|⟨kvs,k,b,e,P,eb,l,V⟩:=g
 ·subst P V;let(z,hd,vs,rel,dd):=Jc I.hok e;let hz:vs.length<=mu:=by rw[<- rel.length];exact z
  let hl:(putK kvs k v).length<=mu:=by have:=jI kvs k v;omega
  refine wpAny_setItem_pairs (jK ry) dd λh' K hs=>h _ ?_
  let he:∃q,h'.get? a=Z q:=let(q,_,_,hq,_):=K;(q,hq)
  exact xF I (by rw[e];exact True.intro) hs he (og hl hd (rel.put k rv) K)
 ·subst P V
  cases(ry)
  let(z,hd,xs,rel,dd):=TX I.hok e;let hz:xs.length<=mu:=by rw[<- Paired.length rel];exact z
  let hl:(putK kvs k v).length<=mu:=by have:=jI kvs k v;lia
  refine wpAny_setItem_heap (hsz:=hz) (tupleKind_room_in1 hu) (nW I.hok eb) dd λh' K hs=>h _ ?_
  let(q,es,ep,hq,h2,h3,h4,_,h5):=K;refine xF I (by rw[e];exact True.intro) hs (q,hq) (hl,hd,_,(rel.put k eb rv).keeps λc ys ec=>?_,q,es,ep,hq,h2,h3,h4,h5)
  rw[aj (il ec e (λz=>nomatch z))]
  exact ec
end
section
variable{gV:List (J×Obj)}{σ:St}{s:ϋ}{E:B->ϋ->Prop}
def T2(I:Inv X gV σ H s)(e:Rd H a (.dK kvs))(h:∀t s',Inv X gV σ H s'->Q (.int kvs.length t) s'):wpAny (model X.prog X.w) A (call (.builtin "len") [.ref a]) Q E s:=by
 let(z,hd,vs,rel,dd):=iB I.hok e;refine call_len_dict hd dd (by rw[<- rel.length];rw[Xc]at z;lia) ?_
 rw[<- rel.length];exact h _ _ (I.tok _)
end
def Ul(i:Ev):Prop:=∀g iv,subscripted i ϊ g iv=operate [g,iv] (getItem g iv)
variable{prog:Da}{E:B->ϋ->Prop}{value:Ev}
def Kg{T id:String}
  (hl:typeLookup (.type T) "__getitem__"=pure (Z (.builtin id))) (hs:Ul slice)
  (h:wpAny (model prog w) A (eval value env) (λo z=>wpAny (model prog w) A (eval slice env) (λi s₂=>s₂.TypeIs o T/\wpAny (model prog w) A (getItem o i) Q E s₂) E z) E s):
  wpAny (model prog w) A (eval (.Subscript value slice pos) env) Q E s:=by
 refine Subscript_ (V8 h (λo z h₁=>V8 h₁ (λi s₂ g=>?_) λ_ _ x=>x) λ_ _ x=>x)
 let(hT,g):=g;refine dD ?_;refine dD (VP hT hl ?_);let fin:wpAny (model prog w) A (subscripted slice ϊ o i) (λr q=>wpAny (model prog w) A (letTemporaryGo value o r >>= λ_=>pure r) Q E q) E s₂:=by
  rw[hs o i];exact wpAny_operating (V8 g (λr q K=>dD (wpAny_letTemporaryGo (kL K))) λ_ _ x=>x)
 exact kL (dD fin)
variable{gV:List (J×Obj)}
def zI{σ:St}(I:Inv X gV σ H s)(g:hU H a y o):s.TypeIs (.ref a) "dict":=by
 obtain⟨kvs,k,e,_,_⟩|⟨kvs,k,b,e,_,_,_⟩:=g
 ·let(_,_,vs,_,dd):=iB I.hok e;exact dd.typeIs
 ·let(_,_,xs,_,dd):=sM I.hok e;exact dd.typeIs
def RH(td ty:TE):TE:=λσ H Q=>td σ H λx H1=>ty σ H1 λy H2=>∃a v,x=.ref a/\hU H2 a y (Z v)/\Q v H2
def rn(td ty tv:TE):TS:=λD σ H=>tv σ H λv H1=>td σ H1 λx H2=>ty σ H2 λy q=>∃a g,x=.ref a/\pN q a y v g/\D.nx σ g
section
variable{o i:Ev}{pos pos':Pos}{td ty tv:TE}
def iT(hu:X.A.units+1<cLine)(ho:PE X o td)(hi:PE X i ty)(hs:Ul i):PE X (.Subscript o i pos) (RH td ty):=by
 left;refine Kg PySem.F.slot_dict_getitem.lookup hs (thn (ho gV s σ H _ I h) λu s1 (x,H1,I1,V,q1)=>thn (hi gV s1 σ H1 _ I1 q1) λiv s2 z=>?_)
 let(y,H2,K,P,a,v,ex,g,q2):=z;subst ex;obtain rfl:=V;exact(zI K g,EY hu K g P λw' s3 I3 q=>(v,H2,I3,q,q2))
def iS(hu:X.A.units+1<cLine)(ho:PE X o td)(hi:PE X i ty)(hv:PE X value tv)(hs:swapsWith value (Z (.Subscript o i pos')) pos.line X.env=pure ϊ):
  PS X (.Assign [.Subscript o i pos'] value pos) (rn td ty tv):=by
 right;refine wpAny_Assign_Subscript (thn (hv gV s σ H _ I h) λr s1 (v,H1,I1,rv,V)=>thn (ho gV s1 σ H1 _ I1 V) λu s2 (x,H2,I2,K,Q)=>thn (hi gV s2 σ H2 _ I2 Q) λiv s3 q=>?_) hs
 let(y,H3,I3,z,a,H4,ex,g,P):=q;subst ex;obtain rfl:=K;exact EX hu I3 g z rv λs4 I4=>(σ,H4,I4,P)
end
def zH(h:Do)(g:sysModules<h.objs.size):c7 P w H (h.push {cls:=.type "dict",data:=.dict #[]}) h.objs.size (.dK []) :=
 (JG _,beq_eq_false_iff_ne.mpr (Ne.symm (ui g)),[],.nil,Heap.DictOf.new h)
def FP:TE:=λ_ H Q=>∀p,H p=Y->Q (.ref p) (upd H p (.dK []))
section
variable{pos:Pos}
def Hz:PE X (.Dict [] [] pos) FP:=λgV s σ H Q I h =>
 wpAny_Dict_empty (.ref s.heap.objs.size,_,I.laid (λ_ _ q=>j3 _ q) (m9 _) (zH s.heap I.big),U,h _ (I.hok.fresh (m9 _)))
end
def vL:List (TE×TE)->St->Hp->(List (V×V)->Hp->Prop)->Prop
 |[],_,H,Q=>Q [] H
 | (tk,tv)::r,σ,H,Q=>tk σ H λx H1=>tv σ H1 λy H2=>vL r σ H2 λps g=>Q ((x,y)::ps) g
abbrev VV:List (V×V)->List (B×B)->Prop:=Paired λp q=>RelV p.1 q.1/\RelV p.2 q.2
def PPs(X:Cx)(pos:Pos)(keys:List (Option Ev))(values:List Ev)(trs:List (TE×TE)):Prop :=
 ∀(gV:List (J×Obj))(s:ϋ)(σ:St)(H:Hp)(Q:List (V×V)->Hp->Prop),Inv X gV σ H s->vL trs σ H Q ->
  Zc X (evalPairs (pairTrees keys values X.env pos)) (λvs s'=>∃ps H',Inv X gV σ H' s'/\VV ps vs/\Q ps H') X.xe s
def CA:PPs X pos [] [] []:=λgV s σ H Q I h=>pairTrees_nil_walk ([],H,I,.nil,h)
variable{tk:TE}{tv:TE}{trs:List (TE×TE)}
def my(V:PE X k tk)(hv:PE X v tv)(hr:PPs X pos ks vs trs):
  PPs X pos (Z k::ks) (v::vs) ((tk,tv)::trs):=λgV s σ H Q I h =>
 pairTrees_cons_walk (thn (V gV s σ H _ I h) λu s1 (x,H1,I1,q,P)=>thn (hv gV s1 σ H1 _ I1 P) λw2 s2 (y,H2,I2,g,K) =>
  thn (hr gV s2 σ H2 _ I2 K) λws s3 (ps,H3,I3,rel,z)=>((x,y)::ps,H3,I3,.cons (q,g) rel,z))
def dt(kvs more:List (Key×V)):List (Key×V):=more.foldl (λacc kv=>putK acc kv.1 kv.2) kvs
def KV.merge:∀{more:List (Key×V)}{rs:List (Key×B)}{kvs:List (Key×V)}{vs:List (Key×B)},KV more rs->KV kvs vs->KV (dt kvs more) (merged vs rs):=by
 intro more rs kvs vs r
 induction r generalizing kvs vs with
 |nil=>intro q;exact q
 |@cons p q ps qs h t z =>
  intro g;let e:KV (putK kvs p.1 p.2) (stored vs q.1 q.2):=by
   have:=g.put p.1 h.2
   rw[<- h.1];exact this
  exact z e
theorem dA:∀(more kvs:List (Key×V)),(dt kvs more).length<=kvs.length+more.length
 |[],kvs=>by show kvs.length<=kvs.length+0;lia
 |p::r,kvs=>by
  let h1:=dA r (putK kvs p.1 p.2);let h2:=jI kvs p.1 p.2;show(dt (putK kvs p.1 p.2) r).length<=_;rw[rl];lia
theorem sQ:∀{kvs:List (Key×V)}{ws:List (B×B)},VV (kvs.map λkv=>(kV kv.1,kv.2)) ws->∃rs,Carries (bE P w) ws rs/\KV kvs rs
 |[],_,r=>by cases r;exact([],True.intro,.nil)
 |p::kvs,_,r=>by
  cases r with
  |@cons a b as bs h t =>
   let(rs,c,q):=sQ t;let(b1,b2):=b;exact((p.1,b2)::rs,(jK h.1,U,c),.cons (U,h.2) q)
def NX(trs:List (TE×TE)):TE:=λσ H Q=>∀p,H p=Y->vL trs σ (upd H p (.dK [])) λps H2=>H2 p=Z (.dK [])/\∃kvs:List (Key×V),ps=kvs.map (λkv=>(kV kv.1,kv.2))/\kvs.length<=15/\Q (.ref p) (upd H2 p (.dK (dt [] kvs)))
def CC(h:PPs X pos keys values trs)(IL:keys.all (·.isSome)=O)(hl:keys.length=values.length)(h0:keys ≠ [])
  (h15:keys.length<=15):PE X (.Dict keys values pos) (NX trs):=by
 intro gV s σ H Q I q;let hn:=I.hok.fresh (m9 s.heap.objs.size);let I1:=I.laid (t':=s.toks) (λ_ _ q=>j3 _ q) (m9 _) (zH s.heap I.big)
 refine wpAny_Dict_walk (knd:=bE X.prog X.w) IL hl h0 h15 (thn (h gV _ σ _ _ I1 (q _ hn)) λws s2 K=>?_)
 let(ps,H2,P,rel,e,kvs,ep,lk,q2):=K;subst ep;let(rs,c,rk):=sQ rel;let(z,hd,V,r0,dd):=Jc P.hok e;cases r0;refine(rs,c,dd,λh' g hs=>(.ref s.heap.objs.size,_,?_,U,q2))
 let hz:(dt [] kvs).length<=mu:=by
  let h1:=dA kvs [];rw[WE]at h1;rw[Xc];lia
 let he:∃q,h'.get? s.heap.objs.size=Z q:=let(q,_,_,hq,_):=g;(q,hq)
 exact xF P (by rw[e];exact True.intro) hs he (og hz hd (rk.merge .nil) g)
structure M2(X:Cx)(o:Ev)(m:Str)(apos:Pos)(e f:Ev)(aP:Pos):Prop where
 base:attributeBase o m X.env (eval o X.env)=eval o X.env
 few:((backTo aP (kh [e,f] X.env)).all (λx=>!x.1)&&(backToKw aP (keywordEach [] X.env)).all (λx=>x.1.isSome)
  && decide (([e,f]:List Ev).length+([]:List Keyword).length+(if([]:List Keyword).isEmpty then 0 else 1)<30))=O
 line:(apos.endLine==aP.line)=O
 trees:backTo aP (kh [e,f] X.env)=[(ϊ,eval e X.env),(ϊ,eval f X.env)]
def IsD(H:Hp)(a:J):Prop:=(∃kvs,Rd H a (.dK kvs))\/∃kvs,Rd H a (.dT kvs)
def Qm{σ:St}(I:Inv X gV σ H s)(d:IsD H a):
  s.TypeIs (.ref a) "dict" /\ (∀b,B.ref a=.ref b->∃ob,s.heap.get? b=Z ob/\ob.dict=Y)/\(a==sysModules)=false:=by
 obtain⟨kvs,e⟩|⟨kvs,e⟩:=d
 ·let(_,hd,vs,_,dd):=iB I.hok e;refine(dd.typeIs,λb q=>?_,hd)
  cases q;let(ob,_,_,h1,h2,_):=dd;exact(ob,h1,h2.2.1)
 ·let(_,hd,xs,_,dd):=sM I.hok e;refine(dd.typeIs,λb q=>?_,hd)
  cases q;let(ob,_,_,h1,h2,_):=dd;exact(ob,h1,h2.2.1)
section
variable{σ:St}{s:ϋ}{d:V}{r:B}{o:Option V}
def QP(V:A.units+1<cLine)(I:Inv X gV σ H s)(g:hU H a y o)(P:RelV y u)(rd:RelV d r)(h:∀K s',Inv X gV σ H s'->RelV (o.getD d) K->Q K s'):
  wpAny (model X.prog X.w) A (call (.builtin "dict.get") [.ref a,u,r]) Q E s:=by
 obtain⟨kvs,k,e,q,l⟩|⟨kvs,k,b,e,q,eb,l⟩:=g
 ·subst q;let(z,hd,vs,rel,dd):=iB I.hok e;refine call_meetsIn PySem.F.slot_dict_get dd.typeIs PySem.F.entry_dict_get (PySem.F.args_dict_get_3 _ _ _) (meets_dict_get_default (bE X.prog X.w) a (jK P) hd r) (_,dd.mapOf,h _ _ (I.tok _) ?_);rw[l];exact(rel.val k).getD rd
 ·subst q
  cases(P)
  let(z,hd,xs,rel,dd):=sM I.hok e;refine call_meetsIn PySem.F.slot_dict_get dd.typeIs PySem.F.entry_dict_get (PySem.F.args_dict_get_3 _ _ _) (meetsH_dict_get_default (tupleKind (bE X.prog X.w)) a b hd r) (tupleKind_room_in1 V,k,xs,nW I.hok eb,dd,h _ _ (I.tok _) ?_);rw[l];exact(rel.val k).getD rd
end
def FQ(td ty tx:TE):TE:=λσ H Q=>td σ H λx H1=>∃a,x=.ref a/\IsD H1 a/\ty σ H1 λy H2=>tx σ H2 λz g=>∃o,hU g a y o/\Q (o.getD z) g
section
variable{o e f:Ev}{apos aP:Pos}{td ty tx:TE}
def HA(hu:X.A.units+1<cLine)(ho:PE X o td)(he:PE X e ty)(hf:PE X f tx)(m:M2 X o "get" apos e f aP):PE X (.Call (.Attribute o "get" apos) [e,f] [] aP) (FQ td ty tx):=by
 left;refine wpAny_Call_method m.base m.few m.line PySem.F.plainAttrs_dict PySem.F.slot_dict_get PySem.F.type_dict_get (thn (ho gV s σ H _ I h) λu s1 K=>?_)
 let(x,H1,P,rx,a,ex,d,q1):=K;subst ex;obtain rfl:=rx;let(t1,t2,_):=Qm P d;refine(t1,t2,?_);rw[m.trees];refine Calls.callWith_builtin U (Calls.evalArgs_plain (Calls.spliced_cons (thn (he gV s1 σ H1 _ P q1) λiv s2 (y,H2,I2,ry,q2) =>
  Calls.spliced_cons (thn (hf gV s2 σ H2 _ I2 q2) λfv s3 (z,H3,I3,V,ov,g,q3)=>Calls.spliced_nil ?_))))
 exact QP hu I3 g ry V λw' s4 I4 q=>(_,H3,I4,q,q3)
end
section
def E7:cE X (.builtin "len") (λxs H Q=>∃a kvs,xs=[V.ref a]/\H a=Z (.dK kvs)/\Q (.int kvs.length) H):=by
 intro gV s σ H xs us Q I r h;let(a,kvs,U,ha,q):=h;let(u,U,ru):=vals1 r;cases ru;exact T2 I (.inl ha) λt s' g=>(.int kvs.length,H,g,(t,U),q)
end
end L2
set_option maxHeartbeats 4000000
namespace L2
open PySem PySem.Spec PyProof.Rows
def si{h:Do}{a:Nat}(e:h.get? a=Z o):@LT.lt Nat _ a h.objs.size:=kS e
def Dp{h:Do}{a:Nat}(e:h.IsCell a v):@LT.lt Nat _ a h.objs.size:=e.lt
def mI{a b:Nat}(h:a<b):@Ne J a b:=ui h
def SY{a b:Nat}(h:b<a):@Ne J a b:=QX h
theorem jV{body:Str×NameKind->List (Str×J)->Sem (ForInStep (List (Str×J)))}
  (P:∀n k c,body (n,k) c=if(k==NameKind.free)=O then(cellOf env n >>= λa=>pure (.yield ((n,a)::c)))else pure (.yield c)):
  ∀(l:List (Str×NameKind))(cs:List (Str×J)),(∀p∈l,p.2=NameKind.free->∃c,env.cells.lookup p.1=Z c) ->
   ∃cl,forIn l cs body=pure cl/\(∀x c,cl.lookup x=Z c->env.cells.lookup x=Z c\/cs.lookup x=Z c)/\(∀x,(x,NameKind.free)∈l->∃c,cl.lookup x=Z c)/\∀x c,cs.lookup x=Z c->∃c',cl.lookup x=Z c'
 |[],cs,_=>(cs,U,λ_ _ h=>.inr h,λ_ h=>(nomatch h),λ_ c h=>(c,h))
 | (n,k)::r,cs,h=>by
  let hr:=λp hp=>h p (j0 _ hp)
  rw[WR,P];by_cases q:(k==NameKind.free)=O
  ·rw[if_pos q];let K:=by simpa using q
   let(c,Q):=h (n,k) jf K;let e1:cellOf env n=pure c:=by unfold cellOf;rw[Q]
   rw[e1];let(cl,e,h1,h2,h3):=jV P r ((n,c)::cs) hr;refine(cl,e,λx c' hx=>?_,λx hx=>?_,λx c' hx=>?_)
   ·obtain z|z:=h1 x c' hx
    ·exact .inl z
    ·by_cases g:(x==n)=O
     ·let V:=by simpa using g
      subst V;rw[x3,g]at z;cases z;exact .inl Q
     ·rw[x3,Yg.mpr g]at z;exact .inr z
   ·obtain z|z:=kz.mp hx
    ·let g:x=n:=congrArg Prod.fst z;exact h3 x c (by rw[x3,g,beq_self_eq_true])
    ·exact h2 x z
   ·by_cases g:(x==n)=O
    ·exact h3 x c (by rw[x3,g])
    ·exact h3 x c' (by rw[x3,Yg.mpr g];exact hx)
  ·rw[if_neg q];let(cl,e,h1,h2,h3):=jV P r cs hr;refine(cl,e,h1,λx hx=>?_,h3)
   obtain z|z:=kz.mp hx
   ·cases z;exact absurd U q
   ·exact h2 x z
variable{scope:Scope}
def BG(h:∀p∈scope.names,p.2=NameKind.free->∃c,env.cells.lookup p.1=Z c):
  ∃cl:List (Str×J),closureFor scope env=pure cl/\(∀x c,cl.lookup x=Z c->env.cells.lookup x=Z c)/\∀x,(x,NameKind.free)∈scope.names->∃c,cl.lookup x=Z c:=by
 let(cl,e,h1,h2,_):=jV (body:=λx c=>if(x.2==NameKind.free)=O then(cellOf env x.1 >>= λa=>pure (.yield ((x.1,a)::c)))else pure (.yield c)) (λ_ _ _=>rfl) scope.names [] h
 refine(cl,?_,λx c hx=>(h1 x c hx).elim id λz=>by simp at z,h2)
 let g:closureFor scope env=(forIn scope.names ([]) (λx c=>if(x.2==NameKind.free)=O then(cellOf env x.1 >>= λa=>pure (.yield ((x.1,a)::c)))else pure (.yield c)) >>= λr=>pure r):=by
  simp only[closureFor]
 rw[g,e];rfl
theorem gW{env:Env}:∀{names:List (Str×NameKind)}{x:Str}{k:NameKind},
  (names.map λ(n,k)=>if(k==NameKind.free&&env.scope.kind == .function&&env.kindOf n==Z .cell)then(n,NameKind.cell)else(n,k)).lookup x=Z k ->
   names.lookup x=Z k\/(names.lookup x=Z .free/\k=.cell)
 |[],_,_,h=>by simp at h
 | (n,k0)::r,x,k,h=>by
  let q:=@gW env r x k
  replace h:Wu x ((if(k0==NameKind.free&&env.scope.kind == .function&&env.kindOf n==Z .cell)=O then(n,NameKind.cell)else(n,k0)) ::(r.map λ(n,k)=>if(k==NameKind.free&&env.scope.kind == .function&&env.kindOf n==Z .cell)then(n,NameKind.cell)else(n,k)))=Z k:=h
  cases hx:x==n with
  |true =>
   by_cases g:(k0==NameKind.free&&env.scope.kind == .function&&env.kindOf n==Z .cell)=O
   ·rw[if_pos g]at h;simp only[x3,hx]at h;cases h
    have:=by
     simp only[tD]at g;simpa using g.1.1
    subst this;exact .inr (by simp only[x3,hx],U)
   ·rw[if_neg g]at h;simp only[x3,hx]at h;exact .inl (by simp only[x3,hx];exact h)
  |false =>
   let h':(r.map λ(n,k)=>if(k==NameKind.free&&env.scope.kind == .function&&env.kindOf n==Z .cell)then(n,NameKind.cell)else(n,k)).lookup x=Z k:=by
    by_cases g:(k0==NameKind.free&&env.scope.kind == .function&&env.kindOf n==Z .cell)=O
    ·rw[if_pos g]at h;simpa only[x3,hx]using h
    ·rw[if_neg g]at h;simpa only[x3,hx]using h
   obtain z|z:=q h'
   ·exact .inl (by simp only[x3,hx];exact z)
   ·exact .inr (by simp only[x3,hx];exact z)
theorem mf{env:Env}:∀{names:List (Str×NameKind)}{x:Str},names.lookup x=Z .free ->
  (names.map λ(n,k)=>if(k==NameKind.free&&env.scope.kind == .function&&env.kindOf n==Z .cell)then(n,NameKind.cell)else(n,k)).lookup x=Z .free \/
  (names.map λ(n,k)=>if(k==NameKind.free&&env.scope.kind == .function&&env.kindOf n==Z .cell)then(n,NameKind.cell)else(n,k)).lookup x=Z .cell
 |[],_,h=>by simp at h
 | (n,k0)::r,x,h=>by
  let q:=@mf env r x;show Wu x ((if(k0==NameKind.free&&env.scope.kind == .function&&env.kindOf n==Z .cell)=O then(n,NameKind.cell)else(n,k0))::_)=_\/Wu x ((if(k0==NameKind.free&&env.scope.kind == .function&&env.kindOf n==Z .cell)=O then(n,NameKind.cell)else(n,k0))::_)=_
  cases hx:x==n with
  |true =>
   simp only[x3,hx]at h;cases h;by_cases g:(NameKind.free==NameKind.free&&env.scope.kind == .function&&env.kindOf n==Z .cell)=O
   ·rw[if_pos g];simp only[x3,hx];exact .inr trivial
   ·rw[if_neg g];simp only[x3,hx];exact .inl trivial
  |false =>
   simp only[x3,hx]at h;by_cases g:(k0==NameKind.free&&env.scope.kind == .function&&env.kindOf n==Z .cell)=O
   ·rw[if_pos g];simp only[x3,hx];exact q h
   ·rw[if_neg g];simp only[x3,hx];exact q h
inductive nh(X:Cx)(sc:Scope):List Str->List (Option Nat)->Prop
 |nil:nh X sc [] []
 |own{x:Str}{N:List Str}{c:List (Option Nat)}:sc.names.lookup x=Z .local->nh X sc N c->nh X sc (x::N) (Y::c)
 |got{x:Str}{i:Nat}{N:List Str}{c:List (Option Nat)}:X.N[i]?=Z x->sc.names.lookup x=Z .free->(X.env.kindOf x=Z .cell\/X.env.kindOf x=Z .free)->nh X sc N c->nh X sc (x::N) (Z i::c)
def mW(c:List (Option Nat))(σ:St):St:=c.map λo=>o.bind λ(i:Nat)=>(σ[i]?).join
variable{X:Cx}{sc:Scope}{N:List Str}
def nh.len(h:nh X sc N c):(mW c σ).length=N.length:=by
 unfold mW;rw[ej]
 induction h with
 |nil=>rfl
 |own _ _ g=>simp[g]
 |got _ _ _ _ g=>simp[g]
theorem nh.at(h:nh X sc N c):∀{j:Nat}{x:Str}{v:V},N[j]?=Z x->(mW c σ)[j]?=Z (Z v) ->
  ∃i:Nat,X.N[i]?=Z x/\σ[i]?=Z (Z v)/\sc.names.lookup x=Z .free/\(X.env.kindOf x=Z .cell\/X.env.kindOf x=Z .free):=by
 induction h with
 |nil=>intro j x v h1;simp at h1
 |own _ _ z =>
  intro j x v h1 h2;cases j with
  |zero=>simp[mW]at h2
  |succ j=>exact z (by simpa using h1) (by simpa [mW]using h2)
 |@got y i N c g1 g2 g3 _ z =>
  intro j x v h1 h2;cases j with
  |zero =>
   let e:=by simpa using h1
   subst e;refine(i,g1,?_,g2,g3);let g:=by simpa [mW]using h2
   cases q:σ[i]? with
   |none=>rw[q]at g;cases g
   |some o =>
    rw[q]at g
    have:o=Z v:=g
    rw[this]
  |succ j=>exact z (by simpa using h1) (by simpa [mW]using h2)
def blk(X:Cx)(N':List Str)(sc:Scope)(cl:List (Str×J))(C:J)(s₂:ϋ)(H₂:Hp)(fp:List J):Cx :=
 {X with N:=N',s₀:=s₂,H₀:=H₂,env:=compEnvC sc cl C X.env,outer:=X.stack,ex:=fp,fn:=λ_=>ϊ,pn:=[],xe:=λ_ _=>False}
def PTs(X:Cx)(ifs:List Ev)(t:TT):Prop :=
 ∀(gV:List (J×Obj))(s:ϋ)(σ:St)(H:Hp)(Q:Bool->Hp->Prop),Inv X gV σ H s->t σ H Q ->
  Zc X (forIn ifs O λc r=>if r=O then do let ok <- isTrue c X.env (eval c X.env);pure (ForInStep.yield ok)else pure (ForInStep.yield r)) (TP X gV σ Q) X.xe s
def BZ:TT:=λ_ H Q=>Q O H
def Cy:PTs X [] BZ:=λ_ _ _ H _ I h=>wpAny_tests_nil (H,I,h)
def Cw(h:PT X c t):PTs X [c] t:=λgV s σ H Q I q=>wpAny_tests_one (h gV s σ H Q I q)
def Ox(g:TG)(tst:TT)(te:TE)(P:St)(Q:VK)(YB:It)(H1:Hp):Prop :=
 ∃W:Nat->Nat->List V->St->Hp->Prop,(∃m,W 0 m [] P H1)/\∀i m ys z H',W i m ys z H' ->
  (YB.stop i H'/\ys.length<=mu/\∀D,H' D=Y->Q (.ref D) (upd H' D (.lst ys))) \/
  (YB.go i H'/\ys.length<mu/\∃N:List V->St->Hp->Prop,(∀K q H2,N K q H2->∃m',m'<m/\W (i+1) m' K q H2)/\∀x H2,YB.yld i H' x H2->g x z H2 λq H3=>tst q H3 λb H4 =>
   if b=O then te q H4 λy H5=>N (ys ++ [y]) q H5 else N ys q H4)
def uL(cap:List (Option Nat))(wi:TI)(g:TG)(tst:TT)(te:TE):TE:=λσ H Q=>wi σ H (Ox g tst te (mW cap σ) Q)
variable{prog:Da}{A:Db}{R:Result->ϋ->Prop}{elt:Ev}{iter:Ev}{ifs:List Ev}
def E4{w:Cl}{s:ϋ}{target:Ev}{pos:Pos}{it acc:B}(I:Nat->ϋ->Prop)
  (turn:∀n s,I n s->wpAny (model prog w) A (pyNext it) (λr z=>match r with
   |none=>R (.ok .next) z
   |some v=>wpAny (model prog w) A (letOwnedTupleGo target it v) (λ_ q=>wpAny (model prog w) A (assign target env v) (λ_ s₂ =>
     wpAny (model prog w) A (forIn ifs O λc r=>if r=O then do let ok <- isTrue c env (eval c env);pure (ForInStep.yield ok)else pure (ForInStep.yield r)) (λok g =>
      if ok=O then wpAny (model prog w) A (eval elt env) (λx P =>
       wpAny (model prog w) A (call (.builtin "list.append") [acc,x]) (λ_ K=>∃m,m<n/\I m K) (λ_ _=>False) P) (λ_ _=>False) g
      else ∃m,m<n/\I m g) (λ_ _=>False) s₂) (λ_ _=>False) q) (λ_ _=>False) z) (λ_ _=>False) s)
  (n:Nat) (h:I n s):
  codeAny (model prog w) A (.compLoop (.ListComp elt [(target,iter,ifs,0)] scope pos) 0 it acc env) R s:=by
 refine codeAny_loop U I (λn s hI=>?_) n h
 show wpAny _ A ((compTurn (.ListComp elt [(target,iter,ifs,0)] scope pos) 0 it acc env).onRaise (λx=>do noteFrame x env;theTreesLotGoes x)) _ _ s
 refine wpAny_noted ?_;rw[compTurn_list];refine dD (wpAny_standAt (dD (V8 (turn n s hI) (λr z h₁=>?_) λ_ _ h'=>h'.elim)))
 cases r with
 |none=>exact kL h₁
 |some v =>
  refine dD (V8 h₁ (λ_ q V=>(dD (V8 V (λ_ s₂ aD=>dD (V8 aD (λok g Q=>?_) λ_ _ h'=>h'.elim)) λ_ _ h'=>h'.elim))) λ_ _ h'=>h'.elim)
  cases ok with
  |false=>exact kL (U,Q)
  |true =>
   exact dD (dD (V8 Q (λx P az=>dD (V8 az (λ_ K av=>kL (kL (U,av))) λ_ _ h'=>h'.elim)) λ_ _ h'=>h'.elim))
variable{gV:List (J×Obj)}{H:Hp}{tg:Ev}{N':List Str}{cap:List (Option Nat)}{tst:TT}{te:TE}
def zO{σ:St}
  (hc:X.calm=O) (hi:PI X tg iter wi) (iz:sc.kind=.function) (gu:∀y∈sc.names,y.2 ≠ .cell) (iZ:∀y∈sc.names,y.2=.local->sc.names.lookup y.1=Z .local)
  (jj:∀y∈sc.names,y.2=.free->X.env.kindOf y.1=Z .cell\/X.env.kindOf y.1=Z .free) (uz:nh X sc N' cap)
  (P:∀cl C s₂ H₂ fp,PG (blk X N' sc cl C s₂ H₂ fp) tg g/\PTs (blk X N' sc cl C s₂ H₂ fp) ifs tst/\PE (blk X N' sc cl C s₂ H₂ fp) elt te)
  (I:Inv X gV σ H s) (h:uL cap wi g tst te σ H Q)
  (fin:∀D C m H' s',Inv X gV σ H' s'->tJ X gV H' C->s'.heap.Ns C m->Q (.ref D) H'->compPost (model X.prog X.w) X.A X.xe use Q' (.ref D) C (.ok .next) s')
  (hs:∀x,foldedSetIterable iter X.env x=pure x):
  Zc X (comprehension (.ListComp elt [(tg,iter,ifs,0)] sc pos) sc X.env p (newList []) ϊ (eval iter X.env) use) Q' X.xe s:=by
 let(cl,Tx,zA,Tz):=BG (scope:=sc) (env:=X.env) λq hq e=>I.ok.has q.1 (jj q hq e)
 refine wpAny_comprehension_free U hs Tx iz iZ (thn (hi gV s σ H _ I h) λv s1 h1=>thn h1 λdc s2 h2=>?_)
 let(it,fp,tn,YB,H2,e,I2,T,aM,f2,W,(m0,w0),turn):=h2;subst e;refine Wh (wpAny_newFunctionEnv gu (by intro y hy;simp at hy) (λh₁ M5 IE=>?_) iz)
 dsimp only at M5 IE ⊢
 generalize a4:s2.heap.push {cls:=.type "list",dict:=Y,data:=.seq ([]:List B).toArray}=HP at M5 IE ⊢
 let hC:HP.objs.size=s2.heap.objs.size+1:=by rw[<- a4,Fs]
 obtain⟨D,az⟩:∃D:Nat,s2.heap.objs.size=D:=(_,U)
 obtain⟨C,c3⟩:∃C:Nat,HP.objs.size=C:=(_,U)
 rw[az]at hC;rw[c3]at hC M5 IE ⊢;rw[az];let aN:@Ne J D C:=mI (by omega)
 let old:∀b o,s2.heap.get? b=Z o->h₁.get? b=Z o:=λb o e =>
  IE.extBut b o (mI (by have:=si e;omega)) (j3 _ (a4▸j3 _ e))
 let js:h₁.get? D=Z {cls:=.type "list",data:=.seq ([]:List B).toArray 0} :=
  IE.extBut _ _ aN (j3 _ (by rw[<- a4,<- az];exact p6 _ U))
 let b0:(blk X N' sc cl C s2 H2 fp).Ok:=by
  refine(I.ok.mod,iz,I.ok.glob,I.ok.blt,(by show s2.heap.objs.size<=C;omega),λx y c h1 h2=>I.ok.inj x y c (zA x c h1) (zA y c h2),λx hx=>?_,λx c hx=>(nomatch hx),I.ok.hd,I.ok.frames,.inl U,λb P=>?_,
   λb o e=>I2.bs b o e,xZ I2.ok.bsz I2.sz,λb o e P=>?_,λb P=>?_,I2.stack,I2.B8)
  ·let cM:sc.names.lookup x=Z .free:=by
    obtain hx|hx:=hx
    ·obtain z|z:=gW hx
     ·exact absurd U (gu _ (PySem.mem_of_lookup z))
     ·exact z.1
    ·obtain z|z:=gW hx
     ·exact z
     ·exact z.1
   exact Tz x (PySem.mem_of_lookup cM)
  ·let(o,ho,_):=T.obj _ _ aM b P;refine(?_,λx c e=>(f2 b P).2.2.2.2.1 x c (zA x c e))
   show @Ne J b C
   have:=si ho
   exact mI (by omega)
  ·let(_,_,_,z,_):=f2 b P;obtain z|z:=z
   ·exact I2.ok.H0 b o e z
   ·have:=si (show X.base.get? b=Z o from e)
    have:=I2.ok.bsz
    omega
  ·intro c1;obtain z|z:=kz.mp (I2.vN b c1)
   ·exact(f2 b P).2.1 z
   ·exact(f2 b P).2.2.1 z
 let nD:H2 D=none:=I2.hok.fresh (by rw[az];exact m9 _)
 let ct:=P cl C s2 H2 fp
 generalize V:blk X N' sc cl C s2 H2 fp=XB at b0 ct
 let eP:XB.prog=X.prog:=by rw[<- V];rfl
 let eW:XB.w=X.w:=by rw[<- V];rfl
 let eK:XB.K=X.K:=by rw[<- V];rfl
 let eA:XB.A=X.A:=by rw[<- V];rfl
 let eE:XB.env=compEnvC sc cl C X.env:=by rw[<- V];rfl
 let eX:XB.xe=λ_ _=>False:=by rw[<- V];rfl
 let aP:XB.fs=frs X.stack:=by rw[<- V];rfl
 let bt:XB.ex=fp:=by rw[<- V];rfl
 let eS:XB.s₀=s2:=by rw[<- V];rfl
 let eH:XB.H₀=H2:=by rw[<- V];rfl
 let a7:XB.pn=[]:=by rw[<- V];rfl
 let cD:XB.calm=true:=by rw[<- V];exact hc
 let eN:XB.N=N':=by rw[<- V];rfl
 let eL:XB.env.locals=C:=by rw[eE];rfl
 let aF:XB.env.cells=cl:=by rw[eE];rfl
 let VE:∀(x:Str)(c:Nat),cl.lookup x=Z c->c<D:=λx c e=>by
  let(v,z):=I2.cell x c (zA x c e)
  have:=Dp z
  omega
 let cG:∀(b:Nat),D<=b->b ∉ XB.fs:=λb P z=>by
  rw[aP]at z;let(_,o,ho,_):=I2.stack.mem z
  have:=si ho
  omega
 let a6:∀(b:Nat),b∈fp->b<D:=λb P=>by
  let(o,ho,_):=T.obj _ _ aM b P
  have:=si ho
  omega
 let loop:∀s3:ϋ,s3={s2 with heap:=h₁,toks:=s2.toks+([]:List (Str×B)).length} ->
   codeAny (model X.prog X.w) X.A (.compLoop (.ListComp elt [(tg,iter,ifs,0)] sc pos) 0 (.ref it) (.ref D) (compEnvC sc cl C X.env)) (compPost (model X.prog X.w) X.A X.xe use Q' (.ref D) C) s3:=by
  rintro s3 rfl
  refine E4 (λn s'=>∃i ys bK H' its k,Inv XB [] bK H' s'/\tn i s'.heap/\(∀b∈fp,H' b=Y)/\H' D=Y/\s'.heap.get? D=Z {cls:=.type "list",data:=.seq (its:List B).toArray k}/\Vals ys its/\W i n ys bK H') ?_ m0
   (0,[],mW cap σ,H2,[],0,?_,T.keep _ _ _ aM λb P o e=>old b o e,λb P=>(f2 b P).1,nD,js,.nil,w0)
  ·rintro n s4 ⟨i,ys,aD,H4,its,k,I4,bL,cA,d4,o4,v4,w4⟩
   let a5:∀{H':Hp}{pl:List (J×Obj)},(∀b∈fp,H' b=Y)->(∀q∈pl,q.1 ∉ fp)->∀b∈fp,tJ XB pl H' b:=λ{H' pl} hn cP b P=>by
    refine(hn b P,?_,?_,.inl (by rw[bt];exact P),λx c e=>?_,λq hq=>?_)
    ·rw[eL];have:=a6 b P;exact mI (by omega)
    ·rw[aP];intro z;obtain z|z:=kz.mp (I2.vN b z)
     ·exact(f2 b P).2.1 z
     ·exact(f2 b P).2.2.1 z
    ·rw[aF]at e;exact(f2 b P).2.2.2.2.1 x c (zA x c e)
    ·rw[a7]at hq;intro z;exact cP q (by simpa using hq) (z▸P)
   let pD:∀q ∈ [(Prod.mk D ({cls:=.type "list",data:=.seq its.toArray k}:Obj))],q.1 ∉ fp:=λq hq=>by
    let e:q=_:=g5.mp hq;subst e;intro z
    have:=a6 _ z
    omega
   let bx:Inv XB [(D,{cls:=.type "list",data:=.seq its.toArray k})] aD H4 s4:=I4.mB λq hq=>by
    let e:q=_:=g5.mp hq;subst e;refine(o4,d4,?_,cG _ (m9 _),λv=>by simp)
    rw[eL];exact aN
   let V2:=bx;rw[<- eA,<- eP,<- eW];obtain⟨stop,hz,qn⟩|⟨go,hz,N,hN,step⟩:=turn i n ys aD H4 w4
   ·rw[<- eP,<- eW,<- eK]at T;refine V8 (T.done XB U U U cD i _ s4 aD H4 (λ_ _=>False) bx (a5 cA pD) bL stop) (λr s5 (hr,I5)=>?_) λ_ _ z=>z
    subst hr;rw[eP,eW,eA];let(o5,n5,_):=I5.pin (D,{cls:=.type "list",data:=.seq its.toArray k}) (p5 _ (g5.mpr U));let u5:Un (frs X.stack) fp H2 H4 s2.heap s5.heap:=by
     let z:=I5.base;rw[aP,bt,eH,eS]at z;exact z
    let cI:∀b o,s2.heap.get? b=Z o->@Ne J b D:=λb o e=>mI (by have:=si e;omega)
    let ne5:∀b u,H4 b=Z u->b≠D:=λb u e z=>by rw[z,d4]at e;cases e
    let cS:HOk X.prog X.w H4 s5.heap:=by
     let z:=I5.hok;rw[eP,eW]at z;exact z
    let Vy:=fin D C;let(mC,cv,_):=id I5.loc;rw[eL]at cv;let IX:Inv X gV σ (upd H4 D (.lst ys)) s5:=by
     refine I2.T5 (s':=s5) (ch:=fp) ?_ (u5.keep,u5.slot,λb o e n hx=>?_,u5.there,λb xs e=>?_,λb o u e=>?_,λb ps e=>?_) ?_ I5.bare λb P=>((f2 b P).2.2.2.1,(f2 b P).2.1,(f2 b P).2.2.2.2.1,(f2 b P).2.2.2.2.2)
     ·let z:=I5.os;rw[eS]at z;exact z
     ·rw[aj (cI b o e)];exact u5.free b o e n hx
     ·let z:=u5.qK b xs e;rw[aj (ne5 b _ z)];exact z
     ·let z:=u5.lC b o u e;rw[aj (ne5 b _ z)];exact z
     ·let(more,z):=u5.qL b ps e;exact(more,by rw[aj (ne5 b _ z)];exact z)
     ·intro a o e;by_cases ha:a=D
      ·subst ha;rw[aw]at e;cases e;exact(hz,its,k,v4,o5)
      ·rw[aj ha]at e;exact(cS a o e).cx (λ_ _ _ q=>q) (λb q=>by rw[aj (ne5 b _ q)];exact q) λb xs q=>by rw[aj (ne5 b _ q)];exact q
    refine Vy mC _ s5 IX ?_ cv (qn D d4);let c4:H4 C=none:=by
     let z:=I5.free;rw[eL]at z;exact z
    refine(by rw[aj (Ne.symm aN)];exact c4,?_,?_,.inr ?_,λx c e=>?_,λq hq=>?_)
    ·have:@LT.lt Nat _ X.env.locals s2.heap.objs.size:=I2.lt
     exact SY (by omega)
    ·exact I2.SX (by rw[az];omega)
    ·have:=I2.sz;omega
    ·let(v,z):=I2.cell x c e
     have:=Dp z
     exact mI (by omega)
    ·have:=si (I2.pin q hq).1
     exact mI (by omega)
   ·let T':=T;rw[<- eP,<- eW,<- eK]at T';refine V8 (T'.item XB U U U cD i _ s4 aD H4 (λ_ _=>False) bx (a5 cA pD) bL go) (λr s5 (u,hr,h5)=>?_) λ_ _ z=>z
    subst hr;refine thn h5 λ_ s6 av=>?_
    let(x,H6,I6,r6,y6,a3,c5):=av;let c6:=I6.pinned (a5 c5 pD) (T.obj _ _ a3);let(cT,cN,c0):=ct;rw[<- eE];let cc:=cT _ s6 aD H6 x u _ c6 r6 (step x H6 y6);rw[eX]at cc;refine thn cc λ_ s7 av=>?_
    let(aK,H7,I7,q7):=av;let b7:=cN _ s7 aK H7 _ I7 q7;rw[eX]at b7;refine thn b7 λb s8 av=>?_
    let(H8,I8,q8):=av;let back:∀{bG:St}{H9:Hp}{s9:ϋ},Inv XB ([(D,{cls:=.type "list",data:=.seq its.toArray k})]++rN fp s6.heap) bG H9 s9->tn (i+1) s9.heap/\(∀b∈fp,H9 b=Y)/\H9 D=Y/\s9.heap.get? D=Z {cls:=.type "list",data:=.seq its.toArray k}:=λ{bG H9 s9} I9=>by
     let z:=I9.pin (D,{cls:=.type "list",data:=.seq its.toArray k}) (p5 _ (qF _ (g5.mpr U)));refine(T.keep _ _ _ a3 λb P o e=>(I9.pin (b,o) (p5 _ (p5 _ (gj P e)))).1,λb P=>?_,z.2.1,z.1)
     let(o,e,_):=T.obj _ _ a3 b P;exact(I9.pin (b,o) (p5 _ (p5 _ (gj P e)))).2.1
    cases b with
    |false =>
     rw[if_neg qE]at q8 ⊢;let(m',hm,w8):=hN _ _ _ q8;let(t1,t2,t3,t4):=back I8;exact(m',hm,i+1,ys,aK,H8,its,k,I8.mB (λq hq=>nomatch hq),t1,t2,t3,t4,v4,w8)
    |true =>
     rw[if_pos rfl]at q8 ⊢;let cq:=c0 _ s8 aK H8 _ I8 q8;rw[eX]at cq;refine thn cq λyv s9 av=>?_
     let(y,H9,I9,r9,n9):=av;let(m',hm,w9):=hN _ _ _ n9;let(t1,t2,t3,t4):=back I9;let hsz:its.toArray.size<=mu:=by
      let e:=v4.length;let e2:its.toArray.size=its.length:=by simp
      omega
     refine append_at (hsz:=hsz) t4 λh' b8 c2=>?_
     ·refine(m',hm,i+1,ys ++ [y],aK,H9,its ++ [yv],k+1,?_,T.keep _ _ _ t1 λb P o e=>b8.extBut b o (mI (a6 b P)) e,t2,t3,?_,v4.append (.cons r9 .nil),w9)
      ·refine(I9.mB (pins':=[]) (λq hq=>nomatch hq)).turned (t':=s9.toks) (it:=D) (λb o P e=>b8.extBut b o P e) t3 ?_ (.inr ?_) (λx c e=>?_) λq hq=>?_
       ·rw[eL];exact aN
       ·rw[eS];omega
       ·rw[aF]at e;exact mI (VE x c e)
       ·rw[a7]at hq;exact nomatch hq
      ·rw[c2];simp
  ·
   refine(b0,by rw[eS],I2.bare,by rw[aP,bt,eH,eS];exact Un.kept old,(_,by rw[eL];exact M5,λj x v h1 h2 h3=>?_),λx c e=>?_,?_,λx c e=>?_,λq hq=>?_,by rw[eP,eW];exact I2.hok.kept old,by rw[eN];exact uz.len)
   ·rw[eN]at h1;let(i,g1,g2,g3,g4):=uz.at h1 h2;let(m,hn,hl):=I2.loc;let hv:Vis X.env.scope x:=by
     obtain z|z:=g4
     ·exact .inr (.inl z)
     ·exact .inr (.inr z)
    let(u,r,l):=hl i x v g1 g2 hv;refine(u,r,.inr (?_,?_))
    ·rw[eE];exact(mf g3).symm
    ·obtain⟨hk,_⟩|⟨_,c,e,z⟩:=l
     ·obtain y|y:=g4
      ·rw[y]at hk;cases hk
      ·rw[y]at hk;cases hk
     ·let(c',e'):=Tz x (PySem.mem_of_lookup g3)
      have:=zA x c' e'
      rw[e]at this;cases this;let(o,ho,hd):=z;exact(c,by rw[aF];exact e',o,old c o ho,hd)
   ·rw[aF]at e;let(v,o,ho,hd):=I2.cell x c (zA x c e);exact(v,o,old c o ho,hd)
   ·rw[eL];exact I2.hok.fresh (by rw[az];omega)
   ·rw[aF]at e;exact I2.gx x c (zA x c e)
   ·rw[a7]at hq;exact nomatch hq
 exact codeAny_compStart_list (loop _ U) (T.self X.A 0 _ _ _ (T.keep _ _ _ aM λb P o e=>old b o e) (loop _ U))
def C5(h:(sc.names.all λy=>y.2 != .free ||(X.env.kindOf y.1==Z .cell||X.env.kindOf y.1==Z .free))=O):
  ∀y∈sc.names,y.2=.free->X.env.kindOf y.1=Z .cell\/X.env.kindOf y.1=Z .free:=λy g e=>by
 let z:=NM.mp h y g;rw[e]at z;simpa using z
def CD{pos:Pos}
  (hc:X.calm=O) (hi:PI X tg iter wi) (P:nh X sc N' cap)
  (K:∀cl C s₂ H₂ fp,PG (blk X N' sc cl C s₂ H₂ fp) tg g/\PTs (blk X N' sc cl C s₂ H₂ fp) ifs tst/\PE (blk X N' sc cl C s₂ H₂ fp) elt te)
  (iz:sc.kind=.function:=by rfl) (gu:∀y∈sc.names,y.2 ≠ .cell:=by decide) (iZ:∀y∈sc.names,y.2=.local->sc.names.lookup y.1=Z .local:=by decide)
  (V:(sc.names.all λy=>y.2 != .free ||(X.env.kindOf y.1==Z .cell||X.env.kindOf y.1==Z .free))=true:=by rfl)
  (hs:∀x,foldedSetIterable iter X.env x=pure x:=by intro _;rfl):PE X (.ListComp elt [(tg,iter,ifs,0)] sc pos) (uL cap wi g tst te):=by
 left;exact zO (use:=Y) hc hi iz gu iZ (C5 V) P K I h (λD C m H' s' I' f' hn q=>((m,hn,λh' z=>(.ref D,H',(I'.turned (t':=s'.toks) (it:=C) (λb o K e=>z.extBut b o K e) f'.1 f'.2.1.symm.symm f'.2.2.2.1 f'.2.2.2.2.1 f'.2.2.2.2.2),U,q)))) hs
variable{dm:Pos}{py:Pos}
def Cz
  (hN:X.N.Nodup) (V:X.N[i]?=Z y) (hy:Loc X.env.scope y)
  (hc:X.calm=O) (hi:PI X tg iter wi) (uz:nh X sc N' cap)
  (K:∀cl C s₂ H₂ fp,PG (blk X N' sc cl C s₂ H₂ fp) tg g/\PTs (blk X N' sc cl C s₂ H₂ fp) ifs tst/\PE (blk X N' sc cl C s₂ H₂ fp) elt te)
  (P:swapsWith (.ListComp elt [(tg,iter,ifs,0)] sc pos) (Z (.Name y py)) dm.line X.env=pure true:=by rfl)
  (hf:AT X y:=by first|exact .inl rfl|exact .inr rfl|assumption)
  (iz:sc.kind=.function:=by rfl) (gu:∀y∈sc.names,y.2 ≠ .cell:=by decide) (iZ:∀y∈sc.names,y.2=.local->sc.names.lookup y.1=Z .local:=by decide)
  (jj:(sc.names.all λy=>y.2 != .free ||(X.env.kindOf y.1==Z .cell||X.env.kindOf y.1==Z .free))=true:=by rfl)
  (hs:∀x,foldedSetIterable iter X.env x=pure x:=by intro _;rfl):PS X (.Assign [.Name y py] (.ListComp elt [(tg,iter,ifs,0)] sc pos) dm) (iG (uL cap wi g tst te) (eY i)):=by
 intro gV s σ H Dn I h;rw[exec_Assign_Name_used _ _ _ _ P];refine dD (wpAny_standAt (dD ?_));refine dD (V8 (zO hc hi iz gu iZ (C5 jj) uz K I h (λD C m H' s' I' f' hn q=>?_) hs)
  (λ_ s' hq=>kL (kL hq)) λ_ _ e=>e)
 let(o,es,ep,ho,hd,hr):=id hn;let I2:=I'.pinned (λb K=>by rw[g5.mp K];exact f') λb K=>by
  rw[g5.mp K];exact(o,ho,λv=>by rw[hd];simp)
 refine wpAny_assign_Name (ia I2 hN V hy (v:=.ref D) U (λs2 I3=>?_) hf)
 let z:=(I3.pin (C,o) (p5 _ (p5 _ (gj (g5.mpr U) ho)))).1;refine(m,(o,es,ep,z,hd,hr),λh' Q=>(_,H',?_,q))
 exact I3.lR.turned (λb o K e=>Q.extBut b o K e) f'.1 f'.2.1 f'.2.2.2.1 f'.2.2.2.2.1 f'.2.2.2.2.2
variable{a:J}
section
theorem vo{K:BT}{xs:List V}{g:TG}{σ:St}{Q:VK}(Pv:Nat->List V->St->Hp->Prop)(h0:Pv 0 [] σ H)
  (hl:∀i ys σ H,i<=xs.length->Pv i ys σ H->SqL K H a xs/\ys.length<mu)
  (hs:∀i x ys σ H,xs[i]?=Z x->Pv i ys σ H->g x σ H λz H3=>tst z H3 λb H4=>if b=O then te z H4 λy H5=>Pv (i+1) (ys ++ [y]) z H5 else Pv (i+1) ys z H4)
  (hd:∀ys σ H,Pv xs.length ys σ H->∀D,H D=Y->Q (.ref D) (upd H D (.lst ys))):
  Ox g tst te σ Q (Itl K a) H:=by
 refine(λi m ys σ H=>m=xs.length - i/\i<=xs.length/\Pv i ys σ H,(xs.length,by simp,JG _,h0),?_)
 rintro i m ys σ H ⟨rfl,hi,p⟩
 let(q,hz):=hl i ys σ H hi p;by_cases P:i<xs.length
 ·refine .inr ((xs,xs[i],q,by simp[P]),hz,Pv (i+1),λaz av H' p'=>(xs.length - (i+1),by lia,U,P,p'),λx H' y=>?_)
  let(e,y):=y;subst e;exact hs i x ys σ _ (y xs q) p
 ·let e:i=xs.length:=by omega
  subst e;exact .inl ((xs,q,m9 _),QH hz,hd ys σ H p)
inductive RR(x:V)(lo:Option Int)(hi:Option Int)(H:Hp)(Q:VK):Prop
 |mk(z)(h1:x=.str z)(h2:z.length<=mu)(h3:Q (.str (Txt.slice z lo hi)) H)
def OT:SlR X RR:=by
 intro gV s σ H x v vl vu lo hi sl Q I V hs pl pu h;let(z,U,g,q):=h;let(t,U):=V;refine("str",_,PySem.F.slot_str_getitem.lookup,typeIs_str s z t,?_);let(o,h1,h2,h3):=hs;let fin:∀y t' k,y=Txt.slice z lo hi->EP X gV σ Q (.str y t') {s with toks:=k}:=λy t' k e=>by subst e;exact(.str _,H,I.tok k,(_,U),q)
 cases pl with
 |none =>
  cases pu with
  |none=>exact wpAny_getItem_str_slice (l:=Y) (u:=Y) (st:=Y) (o,h1,h2,h3) U (post_val_or_str (xZ (Txt.slice_le z _ _) g,λt' k=>fin _ t' k U))
  |int j K=>exact wpAny_getItem_str_slice (l:=Y) (u:=Z (j,K)) (st:=Y) (o,h1,h2,h3) U (post_val_or_str (xZ (Txt.slice_le z _ _) g,λt' k=>fin _ t' k U))
 |int i P =>
  cases pu with
  |none=>exact wpAny_getItem_str_slice (l:=Z (i,P)) (u:=Y) (st:=Y) (o,h1,h2,h3) U (post_val_or_str (xZ (Txt.slice_le z _ _) g,λt' k=>fin _ t' k U))
  |int j K=>exact wpAny_getItem_str_slice (l:=Z (i,P)) (u:=Z (j,K)) (st:=Y) (o,h1,h2,h3) U (post_val_or_str (xZ (Txt.slice_le z _ _) g,λt' k=>fin _ t' k U))
def Au:∀{us:List B},Vals (ys.map V.str) us->StrsAre us ys:=by
 induction ys with
 |nil=>intro us r;cases r;exact .nil
 |cons n ns z =>
  intro us r;cases r with
  |cons q g =>
   let(t,e):=q;subst e;exact .cons n t (z g)
inductive rJoin(K:BT)(x:V)(xs:List V)(H:Hp)(Q:VK):Prop
 |mk(sep l ys)(h1:x=.str sep)(h2:xs=[.ref l])(h3:SqL K H l (ys.map V.str))(h4:(ys.map (·.length)).sum+ys.length*sep.length<=16777216)(h5:Q (.str (Txt.join sep ys)) H)
def MB:MtR X "str.join" (rJoin X.K):=by
 intro gV s σ H x xs v us Q I g rs h;let(sep,l,ys,U,U,hl,hw,q):=h;let(t,U):=g;let(u,U,ru):=Vals.one rs;cases ru;let(its,r,pl,z):=I.list hl;exact join_list pl.isList (by simpa using Au r) hw λt' k=>(.str _,H,I.tok k,(_,U),q)
def J6{bs:List Bool}:∀{us:List B}{i:Nat}{v:B},Vals (bs.map V.bl) us->us[i]?=Z v->∃b,bs[i]?=Z b/\v=.bool b:=by
 induction bs with
 |nil=>intro us i v r h;cases r;simp at h
 |cons b bs z =>
  intro us i v r h;cases r with
  |cons q g =>
   cases i with
   |zero =>
    simp only[List.getElem?_cons_zero,Option.some.injEq]at h;subst h;exact(b,by simp,q)
   |succ i =>
    let(c,h1,h2):=z g (by simpa using h)
    exact(c,by simpa using h1,h2)
def all_range(bs:List Bool):(IK bs.length).all (λi=>bs.getD i ϊ)=bs.all id:=by
 let e:(IK bs.length).map (λi=>bs.getD i ϊ)=bs:=by
  apply W4
  ·simp
  ·intro i h1 h2;simp at h1;simp[h1]
 conv=>rhs;rw[<- e]
 rw[Xj];rfl
def Jt(P:X.calm=O):cE X (.builtin "all") (λxs H Q=>∃(l:J)(bs:List Bool),xs=[.ref l]/\SqL X.K H l (bs.map V.bl)/\Q (.bl (bs.all id)) H):=by
 intro gV s σ H xs us Q I r h;let(l,bs,U,hl,q):=h;let(u,U,ru):=vals1 r;cases ru;let(its,rv,pl,hz):=I.list hl;let g:l<s.heap.objs.size:=by let(_,e,_):=pl.isList;exact kS e
 let hlen:its.toArray.size=bs.length:=by
  let e:=rv.length;rw[ej]at e;simp[e]
 refine call_all_walk (wpAny_pyIter_list pl.isList ((s.heap.objs.size,[s.heap.objs.size,l],[s.heap.objs.size],its.toArray.size,_,_,λi=>bs.getD i ϊ,U,Walks.list (show X.A.in1.handled=Y from I.ok.hd P) s.heap.objs.size l (ui g) its.toArray,((_,p6 _ U,U,U),pl.isList.push _),?_,λh' tk z=>?_)))
 ·intro i v s' Q' E' hP hq;let(b,h1,U):=J6 rv (by simpa using hP)
  let e:bs.getD i ϊ=b:=by simp[h1]
  exact wpAny_truthy_bool (e▸hq)
 ·refine(.bl _,H,I.kept λb o e=>z b o (by simpa using ui (kS e)) (j3 _ e),U,?_)
  rw[hlen,all_range];exact q
theorem Js:cE X (.builtin "isinstance") (λxs H Q=>∃x T t b,xs=[x,.ty T]/\kI X.K H x t/\W.kitOne X.K t (.type T)=Z b/\Q (.bl b) H):=by
 intro gV s σ H xs us Q I r h;let(x,T,t,b,U,ty,e,q):=h;let(u,z,U,ru,g):=vals2 r;cases g;exact EN I ru ty e λtk=>(.bl b,H,I.tok tk,U,q)
end
variable{I:J}{fp:List J}{n:Nat}{ty:String}{Q:B->ϋ->Prop}
section
variable{w:Cl}{E:B->ϋ->Prop}{s:ϋ}
def Ez:typeLookup (.type "list_reverseiterator") "__len__"=pure none:=by kernel_rfl
def II:typeLookup (.type "list_reverseiterator") "__length_hint__"=pure (Z (.builtin "list_reverseiterator.__length_hint__")):=by kernel_rfl
def Ik{Q:Bool->ϋ->Prop}(hT:s.TypeIs (.ref I) "list_reverseiterator")(z:∀b tk,s.toks<=tk->Q b {s with toks:=tk}):wpAny (model prog w) A (Builtin.List.listLengthHint (.ref I)) Q E s:=by
 refine dD (VP hT Ez ?_);refine dD (VP hT II ?_)
 generalize g:("list_reverseiterator.__length_hint__")=q
 wp_delta
 rw[show splitId q=Z ("list_reverseiterator","__length_hint__")from by subst g;decide +kernel]
 subst g;refine dD (V4 (b:=O) hT (by kernel_rfl) ?_)
 exact kL (z _ _ (m9 _))
theorem zD{R:Result->ϋ->Prop}{wr:List J}{P:Nat->B->Prop}{St:Nat->Do->Prop}(W:Walks prog w A.in1 I fp wr n P St)(hT:∀i (s:ϋ),St i s.heap->s.TypeIs (.ref I) ty)
  (aF:(B.type ty == .type "list" || Value.type ty == .type "tuple")=ϊ) (aD:∀x ∈ ["set","frozenset","dict","dict_keys","dict_values","dict_items"],(B.type ty == .type x)=ϊ)
  (hint:∀(s:ϋ)(Q:Bool->ϋ->Prop)(E:B->ϋ->Prop),St 0 s.heap->(∀b tk,s.toks<=tk->Q b {s with toks:=tk})->wpAny (model prog w) A.in1 (Builtin.List.listLengthHint (.ref I)) Q E s)
  (S:J) (res:B) (c₀:Nat) (q:St 0 s.heap) (av:S ∉ fp) (hI:I∈fp) (hS:s.heap.get? S=Z {cls:=.type "list",data:=.seq #[] c₀})
  (hR:∀s' pH c',Moved (S::wr) (λg g'=>g'=g) s s'->s'.heap.get? S=Z {cls:=.type "list",dict:=Y,data:=.seq pH c',slots:=#[]}->ItemsOf P pH n->R (.ok (.ret res)) s') (hn:n<=mu):
  wpAny (model prog w) A.in1 (Builtin.List.listExtendWith (.ref S) (.ref I) res)
   (λfin s'=>match fin with|.done f=>R (.ok f) s' |.again c'=>c'.quiet=O/\codeAny (model prog w) A c' R s') (λe s'=>R (.error e) s') s:=by
 let aK:S≠I:=λe=>av (e▸hI)
 let h1:Builtin.List.listSameRef (.ref S) (.ref I)=false:=by simp[Builtin.List.listSameRef,aK]
 refine dD (V7 (hT 0 _ q) ?_);rw[if_neg (by rw[Bool.or_assoc,h1,aF];decide)]
 refine dD (W.self 0 _ _ _ q (dD (Fq (hint _ _ _ q λb tk htk=>?_))))
 let tail:∀h' K c,s.toks<=K->(∀b o,b≠S->s.heap.get? b=Z o->h'.get? b=Z o)->h'.get? S=Z {cls:=.type "list",dict:=Y,data:=.seq #[] c,slots:=#[]} ->
   wpAny (model prog w) A.in1 (again (.builtin "list.extend.loop" ([.ref S,.ref I,res],[]))) (λfin s'=>match fin with|.done f=>R (.ok f) s' |.again c'=>c'.quiet=O/\codeAny (model prog w) A c' R s') (λe s'=>R (.error e) s') {s with heap:=h',toks:=K}:=by
  intro h' K c ht hk aN;exact kL (Rn F.plain_extend_loop _,codeAny_extend_loopS W.toS hn _ av _ n 0 _ _ _ U (JG _) (W.frame 0 s.heap _ q λb V o e=>hk b o (λz=>av (z▸V)) e) aN (ItemsOf.nil P) λs' pH c' hm BA js=>hR s' pH c' (λb o V e=>hm.heap b o V (hk b o (λz=>V (by rw[z];exact jf)) e),hm.gens,hm.drawn,hm.os,xZ ht hm.toks) BA js)
 cases b with
 |false =>
  rw[if_neg ?_]
  ·exact tail _ _ _ htk (λ_ _ _ e=>e) hS
  ·intro z;rw[X0,Wq]at z;let(x,hx,hz):=z;rw[aD x hx]at hz;cases hz
 |true =>
  refine dD (Wb (dD ?_));refine dD (V1 hS U ?_);let az:=Fv (Vc (·.push B.none)) hS U;refine V1 az U ?_;let aM:=Fv (Vc (·.pop)) az U;exact tail _ _ _ htk (λb o V e=>(z6 _ _ (Ne.symm V)).trans ((z6 _ _ (Ne.symm V)).trans e)) aM
theorem sS{P:Nat->B->Prop}{St:Nat->Do->Prop}(W:Walks prog w A.in1.in1 I fp wr n P St)(hT:∀i (s:ϋ),St i s.heap->s.TypeIs (.ref I) ty)
  (az:(B.type ty == .type "list" || Value.type ty == .type "tuple")=ϊ) (av:∀x ∈ ["set","frozenset","dict","dict_keys","dict_values","dict_items"],(B.type ty == .type x)=ϊ)
  (hint:∀(s:ϋ)(Q:Bool->ϋ->Prop)(E:B->ϋ->Prop),St 0 s.heap->(∀b tk,s.toks<=tk->Q b {s with toks:=tk})->wpAny (model prog w) A.in1.in1 (Builtin.List.listLengthHint (.ref I)) Q E s)
  (aD:St 0 s.heap) (aF:∀b∈fp,b<s.heap.objs.size) (hI:I∈fp)
  (hQ:∀s' pH c',Moved (s.heap.objs.size::wr) (λg g'=>g'=g) {s with heap:=s.heap.push {cls:=.type "list",data:=.seq #[]}} s' ->
   s'.heap.get? s.heap.objs.size=Z {cls:=.type "list",dict:=Y,data:=.seq pH c',slots:=#[]}->ItemsOf P pH n->Q (.ref s.heap.objs.size) s') (hn:n<=mu):
  wpAny (model prog w) A (call (.type "list") [.ref I]) Q E s:=by
 let V:=λhm=>WH _ (aF _ hm)
 refine callType_codes (Q₁:=λobj q=>obj=.ref s.heap.objs.size/\q={s with heap:=s.heap.push {cls:=.type "list",data:=.seq #[]}}) F.called_list (F.typeCall_list_1 _) F.entry_list_init (code_list_new _ (U,U)) λobj q h₁=>?_
 let(U,U):=h₁;let hS:(s.heap.push {cls:=.type "list",data:=.seq #[]}).get? s.heap.objs.size=Z {cls:=.type "list",data:=.seq #[]}:=p6 _ U;refine((_,hS,U),F.args_list_init_2 _ _,?_);refine dD ?_;refine dD (wpAny_seqItems hS U (kL ?_));refine dD (V1 hS U ?_);let aK:=Fv (Vc (λ_=>(#[]))) hS U
 let oth:∀b o,b≠s.heap.objs.size->(s.heap.push {cls:=.type "list",data:=.seq #[]}).get? b=Z o->((s.heap.push {cls:=.type "list",data:=.seq #[]}).update s.heap.objs.size (Vc (λ_=>(#[])))).get? b=Z o :=
  λb o K e=>(z6 _ _ (Ne.symm K)).trans e
 exact zD (hn:=hn) W hT az av hint s.heap.objs.size .none _ (W.frame 0 s.heap _ aD λb K o e=>oth b o (λz=>V (z▸K)) (j3 _ e)) V hI aK λs' pH c' hm aM js=>((U,hQ s' pH c' (λb o K e=>hm.heap b o K (oth b o (λz=>K (by rw[z];exact jf)) e),hm.gens,hm.drawn,hm.os,hm.toks) aM js))
end
def qN(K:BT)(te:TE):TE:=λσ H Q=>te σ H λx H1=>∃l ys,x=.ref l/\SqL K H1 l ys/\∀q,H1 q=Y->Q (.ref q) (upd H1 q (.lst ys.reverse))
def yf{its:Array B}(r:Vals ys its.toList)(h:ItemsOf (λi v=>its[its.size - 1 - i]?=Z v) acc its.size):Vals ys.reverse acc.toList:=by
 let e:acc.toList=its.toList.reverse:=by
  apply Yh
  intro i;by_cases hi:i<its.size
  ·let h1:i<acc.size:=by rw[h.1];exact hi
   let h2:=h.2 i acc[i] (by simp[h1])
   rw[List.getElem?_reverse (by simpa using hi)]
   simp only[V9,XM];rw[h2];simp[h1]
  ·let h1:¬ i<acc.size:=by rw[h.1];exact hi
   rw[VX (by simpa using h1),VX (by simpa using hi)]
 rw[e];exact Vals.reverse r
variable{l:J}
def ve{σ:St}{s:ϋ}{Q:VK}{ob:Obj}{tk:Nat}{P:Nat->B->Prop}{St:Nat->Do->Prop}{ys:List V}(I:Inv X gV σ H s)(aD:l<s.heap.objs.size)(W:Walks X.prog X.w X.A.in1.in1 s.heap.objs.size [s.heap.objs.size,l] [s.heap.objs.size] n P St)(hT:∀i (s':ϋ),St i s'.heap->s'.TypeIs (.ref s.heap.objs.size) ty)
  (av:(B.type ty == .type "list" || Value.type ty == .type "tuple")=ϊ) (K:∀x ∈ ["set","frozenset","dict","dict_keys","dict_values","dict_items"],(B.type ty == .type x)=ϊ)
  (hint:∀(s':ϋ)(Q:Bool->ϋ->Prop)(E:B->ϋ->Prop),St 0 s'.heap->(∀b tk,s'.toks<=tk->Q b {s' with toks:=tk})->wpAny (model X.prog X.w) X.A.in1.in1 (Builtin.List.listLengthHint (.ref s.heap.objs.size)) Q E s')
  (az:St 0 (s.heap.push ob)) (hv:∀acc,ItemsOf P acc n->Vals ys acc.toList) (hz:ys.length<=mu) (hn:n<=mu) (q:∀p,H p=Y->Q (.ref p) (upd H p (.lst ys))):
  Zc X (call (.type "list") [.ref s.heap.objs.size]) (EP X gV σ Q) X.xe {s with heap:=s.heap.push ob,toks:=tk}:=by
 refine sS W hT av K hint az (λb g=>?_) (by simp) (λs' pH c' hm aF js=>?_) hn
 ·rw[Fs];obtain z|z:=kz.mp g
  ·rw[z];exact Wn _
  ·rw[g5.mp z];exact WL aD
 ·rw[Moved.eq_with hm];let kp:=λb o e=>hm.heap b o (λz=>by
   let g:@LT.lt Nat _ b s.heap.objs.size:=kS e;obtain z|z:=kz.mp z
   ·rw[z]at g;simp only[Fs]at g
    lia
   ·rw[g5.mp z]at g
    lia) (j3 _ (j3 _ e))
  let hf:H ((s.heap.push ob).objs.size)=none:=I.hok.fresh (by rw[Fs];omega)
  exact(.ref _,_,I.laid (o:=.lst ys) kp (by rw[Fs];omega) (hz,pH.toList,c',hv pH js,by simpa using aF),U,q _ hf)
variable{e:Ev}
def rV{p1 p2 bZ pos:Pos}(hc:X.calm=O)(aD:Gl X "list")(av:X.mg "list"=Y)(az:Gl X "reversed")(V:X.mg "reversed"=Y)(he:PE X e te)
  (g:AD X e:=by rfl) (P:kh [.Call (.Name "reversed" p2) [e] [] bZ] X.env=[(ϊ,eval (.Call (.Name "reversed" p2) [e] [] bZ) X.env)]:=by rfl):
  PE X (.Call (.Name "list" p1) [.Call (.Name "reversed" p2) [e] [] bZ] [] pos) (qN X.K te):=by
 left;refine TH (dQ I aD av boot_list (PyProof.Rows.callWith_type1 ?_ P U));show wpAny _ _ (spliced ((ϊ,eval (.Call (.Name "reversed" p2) [e] [] bZ) X.env)::backTo pos (kh [] X.env))) _ _ s;refine Calls.spliced_cons (TH (dQ I az V boot_reversed (PyProof.Rows.callWith_type1 ?_ g U)));rw[g];refine Calls.spliced_cons (thn (he gV s σ H _ I h) λu s1 aF=>?_)
 let(x,H1,I1,r1,l,ys,ex,hl,q):=aF;subst ex;cases r1;refine Calls.spliced_nil ?_;let(its,rv,pl,hz):=I1.list hl;let z:l<s1.heap.objs.size:=by let(_,e,_):=pl.isList;exact kS e
 refine call_reversed_list pl.isList (Calls.spliced_nil ?_);let W:=Walks.listRev (prog:=X.prog) (w:=X.w) (A:=X.A.in1.in1) (I.ok.hd hc) s1.heap.objs.size l (ui z) its.toArray;exact ve I1 z W (λi s' st=>st.2.1.typeIs) (by decide) (by decide) (λs' Q' E' st hq=>Ik st.2.1.typeIs hq) (JG _,(_,p6 _ U,U,by simp[revObj]),pl.isList.push _) (λacc h=>yf (by simpa using rv) h) (by rw[VT];exact hz) (by rw[pM,<- rv.length];exact hz) q
variable{x:Str}
section
def Hx(hg:Gl X x)(hm:∃t,X.mg x=Z (.int y t))(hd:AS x:=by decide):PE X (.Name x pos) (tC (.int y)):=by
 let(t,e):=hm;exact LV hg e (t,U) hd
def JU(_ j:Int):Prop:=0<j/\j<18446744073709551616
def yY:OpR X (binaryOp .FloorDiv) (rI JU λi j=>.int (i / j)):=opI λi j _ _ _ _ _ g q=>by
 let(h1,h2):=g;let e:i.fdiv j=i / j:=Int.fdiv_eq_ediv_of_nonneg _ (by lia)
 refine floordiv_int (by lia) (by rw[e];exact q) (.inl (PyProof.noPylong_of_log2 ?_))
 let h3:j.natAbs<2 ^ 64:=by omega
 let h4:j.natAbs≠0:=by lia
 exact Xi ((Nat.log2_lt h4).mpr h3) (by decide)
end
def dk(s n:Int)(l:J):List (Key×V):=[(.inr "seed",.int s),(.inr "number",.int n),(.inr "left",.ref l)]
def EV{s n:Int}:fP (dk s n l) (.inr "number":Key)=Z (.int n):=by kernel_rfl
def Nl{s n:Int}:fP (dk s n l) (.inr "left":Key)=Z (.ref l):=by kernel_rfl
variable{m:Int}
def A3{s n:Int}:putK (dk s n l) (.inr "number":Key) (.int m)=dk s m l:=by kernel_rfl
def Hb{s n:Int}:putK (dk s n l) (.inr "seed":Key) (.int m)=dk m n l:=by kernel_rfl
structure cV(H:Hp)(d l:J)(s n:Int)(ls:List Int):Prop where
 hd:H d=Z (.dK (dk s n l))
 hl:H l=Z (.lst (ls.map V.int))
 s0:0<=s
 s1:s<2147483647
 n0:0<=n
 l0:∀x∈ls,0<=x
def ng(H:Hp)(d l:J):Prop:=∃s n ls,cV H d l s n ls
def Kp(d l:J)(H H':Hp):Prop:=∀b o,H b=Z o->b≠d->b≠l->H' b=Z o
variable{d:J}
def Kp.refl:Kp d l H H:=λ_ _ h _ _=>h
def cV.ne{s n:Int}(D:cV H d l s n ls):d≠l:=il D.hd D.hl (by intro z;cases z)
def cV.num{s n:Int}(D:cV H d l s n ls)(h:0<=m):cV (upd H d (.dK (putK (dk s n l) (.inr "number":Key) (.int m)))) d l s m ls :=
 (by rw[aw,A3],by rw[aj D.ne.symm];exact D.hl,D.s0,D.s1,h,D.l0)
def cV.Uv{s n:Int}(D:cV H d l s n ls)(h:0<=m)(h2:m<2147483647):cV (upd H d (.dK (putK (dk s n l) (.inr "seed":Key) (.int m)))) d l m n ls :=
 (by rw[aw,Hb],by rw[aj D.ne.symm];exact D.hl,h,h2,D.n0,D.l0)
def cV.list{s n:Int}(D:cV H d l s n ls)(h:∀x∈ls',0<=x):cV (upd H l (.lst (ls'.map V.int))) d l s n ls' :=
 (by rw[aj D.ne];exact D.hd,aw,D.s0,D.s1,D.n0,h)
variable{H1:Hp}
def Kp.OC(a:Kp d l H H1):Kp d l H (upd H1 d o):=λc u h h1 h2=>by rw[aj h1];exact a c u h h1 h2
def Kp.Ur(a:Kp d l H H1):Kp d l H (upd H1 l o):=λc u h h1 h2=>by rw[aj h2];exact a c u h h1 h2
def lL.new(a:lL H H1)(hp:H1 p=Y):lL H (upd H1 p o):=λc u h=>by
 let z:=a c u h;rw[aj (bh z hp)];exact z
def ng.new(D:ng H d l)(hp:H p=Y):ng (upd H p o) d l:=by
 let(s,n,ls,D):=D;exact(s,n,ls,by rw[aj (bh D.hd hp)];exact D.hd,by rw[aj (bh D.hl hp)];exact D.hl,D.s0,D.s1,D.n0,D.l0)
inductive FV(vs:List V)(H:Hp)(Q:VK)(_:XK):Prop
 |mk(d l:J)(m:Int)(h1:vs=[.ref d,.int m])(h2:ng H d l)(h3:0<m)(h4:m<18446744073709551616)(h5:∀(r:Int)(H':Hp),0<=r->r<m->ng H' d l->Kp d l H H'->Q (.int r) H')
inductive OR(K:BT)(vs:List V)(H:Hp)(Q:VK)(_:XK):Prop
 |mk(a:J)(ns:List Int)(b:Int)(h1:vs=[.ref a,.int b])(h2:SqL K H a (ns.map V.int))(h3:ns.length<=63)(h4:0<=b)(h5:b<=63)(h6:∀(d l:J)(H':Hp),H d=Y->H l=Y->ng H' d l->lL H H'->Q (.ref d) H')
variable{D:Ends}
def DR{tb:TS}{σ:St}(I:Nat->St->Hp->Prop){m:Nat}(h0:I m σ H)(q:∀m σ H,I m σ H->D.nx σ H)
  (hs:∀m σ H,I m σ H->D.nx σ H->c σ H λb H1=>if b=O then ∃N:St->Hp->Prop,(∀g H',N g H'->∃m',m'<m/\I m' g H')/\tb {D with nx:=N,ct:=N,bk:=D.nx} σ H1 else D.nx σ H1):Aq c tb D σ H :=
 (I,(m,h0),λm σ H h=>hs m σ H h (q m σ H h))
def cV.IP{s n:Int}(D:cV H d l s n ls):hU H d (.str "seed") (Z (.int s)):=by
 let z:=hU.k (k:=(Sum.inr "seed")) D.hd;exact z
def cV.TQ{s n:Int}(D:cV H d l s n ls):hU H d (.str "number") (Z (.int n)):=by
 let z:=hU.k (k:=(Sum.inr "number")) D.hd;rw[EV]at z;exact z
def cV.Om{s n:Int}(D:cV H d l s n ls):hU H d (.str "left") (Z (.ref l)):=by
 let z:=hU.k (k:=(Sum.inr "left")) D.hd;rw[Nl]at z;exact z
def cV.SJ{s n:Int}(D:cV H d l s n ls):pN H d (.str "number") (.int m) (upd H d (.dK (putK (dk s n l) (.inr "number":Key) (.int m)))) :=
 pN.k (k:=(Sum.inr "number")) D.hd (aG (by show 3<=1000;decide))
def cV.SH{s n:Int}(D:cV H d l s n ls):pN H d (.str "seed") (.int m) (upd H d (.dK (putK (dk s n l) (.inr "seed":Key) (.int m)))) :=
 pN.k (k:=(Sum.inr "seed")) D.hd (aG (by show 3<=1000;decide))
def mod_lt{x:Int}(h:0<m):0<=x % m/\x % m<m:=(Int.emod_nonneg _ (by lia),Int.emod_lt_of_pos _ h)
end L2
namespace L2
def Jp(ns:List Int)(lo hi:Option Int):∃cs:List Int,mU (ns.map V.int) lo hi=cs.map V.int/\cs.length<=ns.length:=by
 refine((ns.drop (HT.sIx ns.length 0 lo)).take (HT.sIx ns.length ns.length hi - HT.sIx ns.length 0 lo),?_,?_)
 ·unfold mU;rw[ej,<- Xu,<- W9]
 ·rw[z7,Wo];exact xZ (Xx _ _) (X4 _ _)
variable{ns:List Int}
def int_at{i:Nat}(h:(ns.map V.int)[i]?=Z x):∃z,x=.int z:=by
 rw[j5]at h;cases e:ns[i]? with
 |none=>rw[e]at h;cases h
 |some z=>rw[e]at h;exact(z,(Option.some.inj h).symm)
def M0{i:Nat}(h:(ns.map V.int)[i]?=Z x):∃z,x=.int z/\z∈ns:=by
 rw[j5]at h;cases e:ns[i]? with
 |none=>rw[e]at h;cases h
 |some z=>rw[e]at h;exact(z,(Option.some.inj h).symm,px e)
end L2
namespace L2
open PySem
def BJ{xs:List α}{i:Int}(h0:0<=i)(h1:i<xs.length):∃v,atI xs i=Z v/\v∈xs:=by
 obtain⟨n,rfl⟩:∃n:Nat,i=n:=(i.toNat,by lia)
 let h2:n<xs.length:=by lia
 refine(xs[n],?_,Wr h2);unfold atI ixN;simp[h2]
variable{n:Nat}
def bR(h:n<=10000):n<=mu:=by
 have:(10000)<=mu:=by decide
 lia
end L2
namespace L2
end L2
namespace L2
open PySem PySem.Spec PyProof.Rows
def strOf:Ev->Option Str
 |.Constant (.str x) _ _=>Z x
 |_=>Y
def strsOf:List Ev->Option (List Str)
 |[]=>Z []
 |e::r=>(strOf e).bind λx=>(strsOf r).map (x :: ·)
variable{e:Ev}{x:Str}
def DX(h:strOf e=Z x):∃j p,e=.Constant (.str x) j p:=by
 cases e with
 |Constant c j p=>cases c with
  |str y=>cases h;exact(j,p,U)
  |_=>cases h
 |_=>cases h
variable{X:Cx}{es:List Ev}
def L0:∀{ws:List Str},strsOf es=Z ws->PA X es (λ_ H Q=>Q (ws.map V.str) H):=by
 induction es with
 |nil=>intro ws h;cases h;exact eh
 |cons e es q =>
  intro ws h;let(x,h1,h2):=Xy.mp h;let(g,h3,U):=kg.mp h2;let(j,p,U):=DX h1;exact bN dq (q h3)
end L2
namespace L2
variable{H:Hp}
def Na{σ:St}{A YA:St->Hp->Prop}(h:A (σ.set i (Z x)) H):eY i x σ H λg z=>BZ g z λb q=>if b=O then A g q else YA g q:=by
 show if O=O then A (σ.set i (Z x)) H else YA (σ.set i (Z x)) H
 exact h
end L2
namespace L2
end L2
namespace L2
open PySem PySem.Spec PyProof.Rows
section
variable{X:Cx}
def jn(z:Str)(n:Nat):Str:=⟨(BQ n z.cps).foldl (· ++ ·) #[]⟩
theorem yz(c:Array Nat):∀(n:Nat)(acc:Array Nat),((BQ n c).foldl (· ++ ·) acc).size=acc.size+n*c.size
 | 0,acc=>by simp
 |n+1,acc=>by
  rw[List.replicate_succ,List.foldl_cons,yz c n,Yi,Nat.add_mul]
  lia
def ip(z:Str)(n:Nat):(jn z n).length=n*z.length:=by
 let h:=yz z.cps n #[];simpa [jn,Str.length]using h
theorem Bh:OpR X (binaryOp .Mult) (λx y H Q=>∃z n,x=.str z/\y=.int n/\0<=n/\n<=1000/\z.length<=1000/\Q (.str (jn z n.toNat)) H):=by
 intro gV s σ H x y v u Q I V K h;let(z,n,U,U,n0,n1,hz,q):=h;let(t,U):=V;let(t',U):=K;let fin:∀(y:Str)(t' k:Nat),y=jn z n.toNat->EP X gV σ Q (.str y t') {s with toks:=k}:=λy t' k e=>by subst e;exact(.str _,H,I.tok k,(_,U),q)
 let hp:=by
  let h1:(z.length:Int)*n<=1000*n:=W5 (by omega) n0
  omega
 refine P.mul_str ?_ (λh1 _=>?_) (λh1 _=>?_) ?_
 ·rw[decide_eq_false (by omega),decide_eq_false (by omega)];rfl
 ·let h2:(1000:Int) <=(2 ^ 63 - 1) / n:=by
   rw[Int.le_ediv_iff_mul_le (by omega)]
   omega
  omega
 ·let h2:=by
   let e:((z.length*n.toNat:Nat):Int)=(z.length:Int)*n:=by rw[XH,Wa n0]
   omega
  have:=Xc
  exact decide_eq_false (by omega)
 ·by_cases h1:n<1
  ·rw[if_pos h1];let e:n.toNat=0:=by omega
   exact(by decide,fin _ _ _ (by rw[e];rfl))
  ·rw[if_neg h1];by_cases h2:(n==1||z.length==0)=O
   ·rw[if_pos h2];refine fin z t s.toks ?_;let h3:=by simpa using h2
    obtain h3|h3:=h3
    ·subst h3;show z=⟨#[]++z.cps⟩;simp
    ·let e1:z.cps=#[]:=by simpa [Str.length]using h3
     let g:=ip z n.toNat;rw[h3]at g;let e3:=by simpa [Str.length]using g
     exact Str.ext' (by rw[e1,e3])
   ·rw[if_neg h2];refine(?_,fin _ _ _ U);let e:=ip z n.toNat;let h3:=by
     let e:((n.toNat*z.length:Nat):Int)=(z.length:Int)*n:=by rw[XH,Wa n0,Int.mul_comm]
     omega
    have:=Xc
    show(jn z n.toNat).length<=mu;omega
end
end L2
namespace L2
open PySem
def so(n:Nat):Nat:=97+n % 26
def di(c1 c2:Str)(turn k:Nat):Str:=c1++⟨#[so (turn+7*k)]⟩++c2++jn "x" (k % 2)++jn "y" (k / 26)
def sT(c1 c2:Str)(turn k:Nat):(di c1 c2 turn k).cps.toList=c1.cps.toList++so (turn+7*k) ::(c2.cps.toList++(jn "x" (k % 2)).cps.toList++(jn "y" (k / 26)).cps.toList):=by
 simp[di,Str.cps_append]
def vA(c1 c2:Str)(turn k:Nat):(di c1 c2 turn k).length=c1.length+1+c2.length+k % 2+k / 26:=by
 unfold di;rw[Str.length_append,Str.length_append,Str.length_append,Str.length_append,ip,ip,show(⟨#[so (turn+7*k)]⟩:Str).length=1 from U,show(Str.ofString "x").length=1 from by decide +kernel,show(Str.ofString "y").length=1 from by decide +kernel]
 lia
def T8{x y:Nat}(h:a++x::b=a++y::c):x=y:=by
 have:=Wz h
 exact(List.cons.inj this).1
variable{j:Nat}
def EI(g:k<52)(hj:j<52)(h:so (turn+7*k)=so (turn+7*j)):k % 26=j % 26:=by
 let h':∀a:Fin 26,∀b:Fin 26,∀c:Fin 26,(a.val+7*b.val) % 26=(a.val+7*c.val) % 26->b=c:=by decide +kernel
 let e:∀k,(turn % 26+7*(k % 26)) % 26=(turn+7*k) % 26:=λk=>by rw[Nat.add_mod,Nat.mod_mod,Nat.mul_mod_mod,<- Nat.add_mod]
 let h:(turn+7*k) % 26=(turn+7*j) % 26:=Nat.add_left_cancel h;rw[<- e,<- e j]at h;exact congrArg Fin.val (h' (turn % 26,X6 _ (by decide)) (k % 26,X6 _ (by decide)) (j % 26,X6 _ (by decide)) h)
def Ci:(jn "y" 1).cps.toList=[121]:=by decide +kernel
def yw(z:Str):(jn z 0).cps.toList=[]:=by simp[jn]
variable{c1:Str}{c2:Str}
def vI(V:k<52)(hj:j<52)(P:k≠j)(he:e=Str.empty\/e="q")(hf:f=Str.empty\/f="q"):di c1 c2 turn k++e≠di c1 c2 turn j++f:=by
 intro h;let K:=by
  have:=congrArg (λz=>z.cps.toList) h
  simpa [Str.cps_append]using this
 let hl:(di c1 c2 turn k).length+e.length=(di c1 c2 turn j).length+f.length:=by
  rw[<- Str.length_append,h,Str.length_append]
 rw[sT,sT]at K;simp only[Rl,Xz]at K;let hm:=EI V hj (T8 K);let h1:k % 2=j % 2:=by rw[<- X7 k (by decide:2∣26),hm,X7 j (by decide:2∣26)]
 let hd:(k / 26=0/\j / 26=1)\/(k / 26=1/\j / 26=0):=(by decide +kernel:∀a b:Fin 52,a≠b->a.val % 26=b.val % 26->(a.val / 26=0/\b.val / 26=1)\/(a.val / 26=1/\b.val / 26=0)) (k,V) (j,hj) (λz=>P (congrArg Fin.val z)) hm
 let tail:=(List.cons.inj (Wz K)).2;rw[h1]at tail;let g:=Wz (Wz tail);let eq:(Str.ofString "q").cps.toList=[113]:=by decide +kernel
 let ee:Str.empty.cps.toList=[]:=rfl;obtain⟨d1,Q⟩|⟨d1,Q⟩:=hd
 ·rw[d1,Q,yw,Ci]at g;obtain rfl|rfl:=he
  ·rw[ee]at g;simp at g
  ·rw[eq]at g
   have:=congrArg List.head? g
   simp at this
 ·rw[d1,Q,yw,Ci]at g;obtain rfl|rfl:=hf
  ·rw[ee]at g;simp at g
  ·rw[eq]at g
   have:=congrArg List.head? g
   simp at this
def nodup_range(h:∀i j,i<n->j<n->i≠j->f i≠f j):((IK n).map f).Nodup:=by
 rw[Xl,WY];refine List.Pairwise.imp_of_mem ?_ (Xl.mp Yq);intro i j hi hj g;exact h i j (Wx.mp hi) (Wx.mp hj) g
variable{ws:List Str}
def EA(h:ws.Nodup)(hw:w ∉ ws):(ws.set i w).Nodup:=by
 induction ws generalizing i with
 |nil=>simp
 |cons a r K =>
  let(h1,h2):=u3.mp h;let q:w≠a:=λz=>hw (by simp[z])
  let g:=λz=>hw (j0 _ z)
  cases i with
  |zero=>exact u3.mpr (g,h2)
  |succ i =>
   refine u3.mpr (λz=>?_,K h2 g)
   obtain z|z:=Xp z
   ·exact h1 z
   ·exact q z.symm
end L2
namespace L2
open PySem
variable{ws:List Str}
def M1(h:inV (.str w) (ws.map V.str)=ϊ):w ∉ ws:=λhm=>by
 unfold inV at h;rw[Xr]at h;exact h (.str w) (tE.mpr (w,hm,U)) (show(w==w)=O from beq_self_eq_true w)
def wordOf(kept:List Str)(c1 c2:Str)(turn k:Nat):Str:=di c1 c2 turn k++(if inV (.str (di c1 c2 turn k)) (kept.map V.str)=O then("q":Str)else Str.empty)
variable{c1:Str}{c2:Str}{j:Nat}
def DQ(q:k<52)(hj:j<52)(g:k≠j):wordOf kept c1 c2 turn k≠wordOf kept c1 c2 turn j:=by
 refine vI q hj g ?_ ?_
 ·split
  ·exact .inr U
  ·exact .inl U
 ·split
  ·exact .inr U
  ·exact .inl U
def Ag(h1:c1.length<=5)(h2:c2.length<=5)(z:k<52):1 <=(wordOf kept c1 c2 turn k).length/\(wordOf kept c1 c2 turn k).length<=20:=by
 unfold wordOf;rw[Str.length_append,vA];let l0:Str.empty.length=0:=rfl;let g:(Str.ofString "q").length=1:=by decide +kernel
 split <;> lia
end L2
namespace L2
open PySem PySem.Spec PyProof.Rows
abbrev Mk1:=Str×List Str
abbrev Kd:=Str×List Mk1
def fA(ks:List Kd)(k:Str):List Mk1:=match ks.find? (λx=>decide (x.1=k))with
 |some x=>x.2
 |none=>[]
def MC(h:ks[i]?=Z x)(hx:x.1=k)(hn:∀(j:Nat)(y:Kd),j<i->ks[j]?=Z y->y.1≠k):fA ks k=x.2:=by
 induction ks generalizing i with
 |nil=>simp at h
 |cons a r g =>
  cases i with
  |zero =>
   simp at h;subst h;simp[fA,hx]
  |succ i =>
   let h0:=hn 0 a (by lia) (by simp)
   let z:=g (by simpa using h) λj y hj q=>hn (j+1) y (by lia) (by simpa using q)
   unfold fA at z ⊢;rw[Dy,decide_eq_false h0];exact z
variable{it:J}{items:Array B}{Q:B->ϋ->Prop}{h':Do}{tp:Bool}{l:J}{z:J}{i1:J}{i2:J}{l1:J}{l2:J}{t1:Bool}{t2:Bool}{k1:Nat}{k2:Nat}{xs:Array B}{ys:Array B}
section
variable{prog:Da}{w:Cl}{A:Db}{E:B->ϋ->Prop}{s:ϋ}
theorem uk{i:Nat}{x:B}(hit:s.heap.IsTupleIter it t i)(z:s.heap.IsTuple t items)(hx:items[i]?=Z x)
  (P:∀h',h'.IsTupleIter it t (i+1)->WC it s.heap h'->Q x {s with heap:=h'}):wpAny (model prog w) A (Builtin.SmallTypes.nextOf (.ref it)) Q E s:=by
 let(o,ho,K,hd):=id hit;let(ol,g,_,nl,q):=z;refine dD (wpAny_callSpecial?_slot hit.typeIs F.slot_tuple_iterator_next
  (Es F.slot_tuple_iterator_next hit.typeIs F.entry_tuple_iterator_next ?_ (F.args_tuple_iterator_next_1 _)))
 show wpAny _ _ (field (.ref it) 0 >>= _) _ _ s;refine dD (wpAny_field ho hd U ?_);refine dD (wpAny_field ho hd U ?_);refine dD (wpAny_seqItems g q ?_);simp only[Xs,hx];refine dD (wpAny_setField ho hd (by simp) (kL (x,U,kL (P _ ?_ (Heap.SameBut.update ..)))))
 exact(_,Fv _ ho (Obj.isFreed_of_fields (X8 hd _)),(Obj.cls_mapFields ..).trans K,by
  rw[X8 hd];simp[rawInt])
theorem w6{i:Nat}(K:A.handled=Y)(hit:s.heap.IsTupleIter it t i)(z:s.heap.IsTuple t items)(hx:items[i]?=Y)
  (hE:∀h' e,XR it s.heap h'->(∃o,h'.get? e=Z o/\o.cls=.type "StopIteration")->E (.ref e) {s with heap:=h'}):wpAny (model prog w) A (Builtin.SmallTypes.nextOf (.ref it)) Q E s:=by
 let(o,ho,P,hd):=id hit;let(ol,g,_,nl,q):=z;refine dD (wpAny_callSpecial?_slot hit.typeIs F.slot_tuple_iterator_next
  (Es F.slot_tuple_iterator_next hit.typeIs F.entry_tuple_iterator_next ?_ (F.args_tuple_iterator_next_1 _)))
 show wpAny _ _ (field (.ref it) 0 >>= _) _ _ s;refine dD (wpAny_field ho hd U ?_);refine dD (wpAny_field ho hd U ?_);refine dD (wpAny_seqItems g q ?_);simp only[Xs,hx];refine dD (Wb (dD (wpAny_setField ho hd (by simp) ?_)))
 refine dD ?_;refine dD (m:=firstArgMember _ _) (WB (by rfl) ?_)
 refine Wh ?_ (by size_fits)
 refine dD (wpAny_handled ?_);rw[K];exact dD (kL (wpAny_throw (hE _ _ (((Heap.SameBut.update ..).extBut.push _).push _) (_,p6 _ U,U))))
def aL(h:Do)(tp:Bool)(it l:J)(k:Nat):Prop:=if tp=O then h.IsTupleIter it l k else h.IsListIter it l k
def a9(h:Do)(tp:Bool)(l:J)(items:Array B):Prop:=if tp=O then h.IsTuple l items else h.IsList l items
def aL.at(x:aL h tp it l k)(e:∀o,h.get? it=Z o->h'.get? it=Z o):aL h' tp it l k:=by
 cases tp with
 |true=>let(o,ho,r):=(x);exact((o,e o ho,r))
 |false=>let(o,ho,r):=(x);exact((o,e o ho,r))
def a9.at(x:a9 h tp l items)(e:∀o,h.get? l=Z o->h'.get? l=Z o):a9 h' tp l items:=by
 cases tp with
 |true=>let(o,ho,r):=(x);exact((o,e o ho,r))
 |false=>let(o,ho,r):=(x);exact((o,e o ho,r))
def aL.obj(x:aL h tp it l k):∃o,h.get? it=Z o/\∀v,o.data ≠ .cell v:=by
 cases tp with
 |true=>let(o,ho,_,hd):=(x);exact(o,ho,λv=>by rw[hd];simp)
 |false=>let(o,ho,_,hd):=(x);exact(o,ho,λv=>by rw[hd];simp)
def next_item(hit:aL s.heap tp it l i)(hl:a9 s.heap tp l items)(hx:items[i]?=Z x)
  (g:∀h',aL h' tp it l (i+1)->WC it s.heap h'->Q x {s with heap:=h'}):wpAny (model prog w) A (Builtin.SmallTypes.nextOf (.ref it)) Q E s:=by
 cases tp with
 |true=>exact uk hit hl hx g
 |false=>exact wpAny_nextOf_list_item hit hl hx g
def next_end(g:A.handled=Y)(hit:aL s.heap tp it l i)(hl:a9 s.heap tp l items)(hx:items[i]?=Y)
  (hE:∀h' e,XR it s.heap h'->(∃o,h'.get? e=Z o/\o.cls=.type "StopIteration")->E (.ref e) {s with heap:=h'}):wpAny (model prog w) A (Builtin.SmallTypes.nextOf (.ref it)) Q E s:=by
 cases tp with
 |true=>exact w6 g hit hl hx hE
 |false=>exact wpAny_nextOf_list_end g hit hl hx hE
theorem yd{TI TO:J}{x y a b:B}{Q:Option B->ϋ->Prop}(D:ZipApart z TI TO i1 i2 l1 l2)
  (hz:IsZip s.heap z TI TO .none) (cc:IsPair s.heap TI (.ref i1) (.ref i2)) (b8:IsPair s.heap TO a b)
  (h1:aL s.heap t1 i1 l1 k1) (h2:aL s.heap t2 i2 l2 k2) (b7:a9 s.heap t1 l1 xs) (b0:a9 s.heap t2 l2 ys) (hx:xs[k1]?=Z x) (hy:ys[k2]?=Z y)
  (hQ:∀h',IsZip h' z TI TO (rawInt s.heap.objs.size)->IsPair h' TO x y->aL h' t1 i1 l1 (k1+1)->aL h' t2 i2 l2 (k2+1)->IsPair h' s.heap.objs.size x y->h'.objs.size=s.heap.objs.size+1 ->
   (∀c o,c≠z->c≠TO->c≠i1->c≠i2->s.heap.get? c=Z o->h'.get? c=Z o)->Q (Z (.ref s.heap.objs.size)) {s with heap:=h'}):
  wpAny (model prog w) A (pyNext (.ref z)) Q E s:=by
 let hT:s.TypeIs (.ref z) "zip":=(_,hz,U);unfold pyNext;refine dD (Wf (wpAny_callSpecial?_slot hT F.slot_zip_next
  (Es F.slot_zip_next hT F.entry_zip_next ?_ (F.args_zip_next_1 _))))
 show wpAny _ _ (field (.ref z) 2 >>= _) _ _ _;refine dD (wpAny_field hz U (x:=.bool ϊ) U ?_);refine dD (wpAny_field hz U (x:=.ref TI) U ?_);refine dD (wpAny_seqItems cc U ?_);refine dD ?_;refine dD (wpAny_field hz U (x:=.none) U (kL ?_));simp only[if_true];refine dD (Wb ?_);refine dD (wpAny_field hz U (x:=.ref TO) U ?_);refine dD (wpAny_setField_rec hz (by simp) λh₁ a4 g=>?_)
 refine dD ?_;simp only[Yr,List.zipIdx_nil,WR,List.forIn_nil];refine dD (dD (wpAny_onRaise ?_));refine dD (next_item (h1.at λo e=>g.extBut _ o D.i1z e) (b7.at λo e=>g.extBut _ o D.l1z e) hx λbK bx P=>kL ?_)
 let IM:IsPair bK TO a b:=P.extBut _ _ D.TOi1 (g.extBut _ _ D.TOz b8);refine dD (wpAny_seqItems IM U ?_);refine dD (wpAny_updateSeq_pair IM λct TJ K=>?_)
 refine dD (wpAny_letGo (kL ?_));refine dD (dD (wpAny_onRaise ?_));refine dD (next_item (h2.at λo e=>K.extBut _ o D.TOi2.symm (P.extBut _ o D.i12.symm (g.extBut _ o D.i2z e)))
  (b0.at λo e=>K.extBut _ o D.l2TO (P.extBut _ o D.l2i1 (g.extBut _ o D.l2z e))) hy λbG a7 av=>kL ?_)
 let TC:IsPair bG TO x b:=av.extBut _ _ D.TOi2 TJ;refine dD (wpAny_seqItems TC U ?_);refine dD (wpAny_updateSeq_pair TC λq M9 V=>?_)
 replace M9:IsPair q TO x y:=M9
 refine dD (wpAny_letGo (kL (kL ?_)));refine dD (wpAny_seqItems M9 U ?_);refine dD (wpAny_newTuple ?_);let hsz:q.objs.size=s.heap.objs.size:=by rw[V.1,av.1,K.1,P.1,g.1]
 let aM:IsZip q z TI TO .ellipsis:=V.extBut _ _ D.TOz.symm (av.extBut _ _ D.i2z.symm (K.extBut _ _ D.TOz.symm (P.extBut _ _ D.i1z.symm a4)));let a5:∀c o,c≠z->c≠TO->c≠i1->c≠i2->s.heap.get? c=Z o->q.get? c=Z o:=λc o c1 c2 c3 c4 e =>
  V.extBut _ _ c2 (av.extBut _ _ c4 (K.extBut _ _ c2 (P.extBut _ _ c3 (g.extBut _ _ c1 e))))
 let bt:=bx.at λo e=>V.extBut _ o D.TOi1.symm (av.extBut _ o D.i12 (K.extBut _ o D.TOi1.symm e))
 let a6:=a7.at λo e=>V.extBut _ o D.TOi2.symm e
 let Tf:z<q.objs.size:=kS aM;refine dD ?_;let a3:IsZip (q.push {cls:=.type "tuple",data:=.seq #[x,y]}) z TI TO .ellipsis:=j3 _ aM;refine dD (wpAny_setField_rec a3 (by simp) λcq aP aD=>?_)
 refine wpAny_setField_rec aP (by simp) λaF aK az=>?_
 let up:∀c o,c≠z->q.get? c=Z o->aF.get? c=Z o:=λc o c1 e=>az.extBut _ _ c1 (aD.extBut _ _ c1 (j3 _ e))
 let aN:IsPair aF q.objs.size x y:=az.extBut _ _ (QX Tf) (aD.extBut _ _ (QX Tf) (p6 _ U));let bL:aF.objs.size=q.objs.size+1:=by rw[az.1,aD.1,Fs]
 rw[hsz]at aK aN bL;refine kL (_,U,kL ?_);rw[hsz];exact hQ aF aK (up _ _ D.TOz M9) (bt.at λo e=>up _ o D.i1z e) (a6.at λo e=>up _ o D.i2z e) aN bL λc o c1 c2 c3 c4 e=>up c o c1 (a5 c o c1 c2 c3 c4 e)
theorem BX{TI TO:J}{a b:B}{Q:Option B->ϋ->Prop}(hh:A.handled=Y)(D:ZipApart z TI TO i1 i2 l1 l2)
  (hz:IsZip s.heap z TI TO .none) (a7:IsPair s.heap TI (.ref i1) (.ref i2)) (a6:IsPair s.heap TO a b)
  (h1:aL s.heap t1 i1 l1 k1) (h2:aL s.heap t2 i2 l2 k2) (a4:a9 s.heap t1 l1 xs) (a5:a9 s.heap t2 l2 ys) (sG:xs[k1]?=Y\/ys[k2]?=Y)
  (hQ:∀h',(∀c o,c≠z->c≠TO->c≠i1->c≠i2->s.heap.get? c=Z o->h'.get? c=Z o)->Q Y {s with heap:=h'}):wpAny (model prog w) A (pyNext (.ref z)) Q E s:=by
 let hT:s.TypeIs (.ref z) "zip":=(_,hz,U);let fin:∀h' e,(∀c o,c≠z->c≠TO->c≠i1->c≠i2->s.heap.get? c=Z o->h'.get? c=Z o)->(∃o,h'.get? e=Z o/\o.cls=.type "StopIteration") ->
   wpAny (model prog w) A (do if <- isInstance (.ref e) (.type "StopIteration")then pure Y else throw (.ref e)) Q E {s with heap:=h'}:=λh' e hk he=>by
  let(o,ho,hc):=he;refine dD (V4 (o,ho,hc) isSubtype_stop ?_);exact kL (hQ _ hk)
 refine dD (Wf (wpAny_callSpecial?_slot hT F.slot_zip_next
  (Es F.slot_zip_next hT F.entry_zip_next ?_ (F.args_zip_next_1 _))))
 show wpAny _ _ (field (.ref z) 2 >>= _) _ _ _;refine dD (wpAny_field hz U (x:=.bool ϊ) U ?_);refine dD (wpAny_field hz U U ?_);refine dD (wpAny_seqItems a7 U ?_);refine dD ?_;refine dD (wpAny_field hz U U (kL ?_));refine dD (Wb (dD (wpAny_field hz U (x:=.ref TO) U (dD (wpAny_setField_rec hz (by simp) λh₁ az g=>?_)))))
 refine dD ?_;simp only[Yr,List.zipIdx_nil,WR,List.forIn_nil];refine dD (dD (wpAny_onRaise ?_));cases hx:xs[k1]? with
 |none =>
  refine dD (next_end hh (h1.at λo e=>g.extBut _ o D.i1z e) (a4.at λo e=>g.extBut _ o D.l1z e) hx λa3 e q he=>?_)
  let(oe,P,aK):=he;let av:=q _ _ D.i1z.symm az;let aN:e≠z:=λx=>by subst x;rw[av]at P;cases P;simp at aK
  refine wpAny_setField_rec av (by simp) λaM _ K=>fin aM e (λc o c1 _ c3 _ x=>K.extBut _ _ c1 (q _ _ c3 (g.extBut _ _ c1 x))) (oe,K.extBut _ _ aN P,aK)
 |some x =>
  let hy:ys[k2]?=none:=by obtain h|h:=sG;rw[hx]at h;cases h;exact h
  refine dD (next_item (h1.at λo e=>g.extBut _ o D.i1z e) (a4.at λo e=>g.extBut _ o D.l1z e) hx λa3 bt q=>kL ?_)
  let IM:=q.extBut _ _ D.TOi1 (g.extBut _ _ D.TOz a6);refine dD (wpAny_seqItems IM U (dD (wpAny_updateSeq_pair IM λaM TJ K=>(dD (wpAny_letGo (kL (dD (dD (wpAny_onRaise ?_)))))))))
  refine dD (next_end hh (h2.at λo e=>K.extBut _ o D.TOi2.symm (q.extBut _ o D.i12.symm (g.extBut _ o D.i2z e)))
   (a5.at λo e=>K.extBut _ o D.l2TO (q.extBut _ o D.l2i1 (g.extBut _ o D.l2z e))) hy λbx e aF he=>?_)
  let(oe,P,aK):=he;let V:=aF _ _ D.i2z.symm (K.extBut _ _ D.TOz.symm (q.extBut _ _ D.i1z.symm az));let aN:e≠z:=λx=>by subst x;rw[V]at P;cases P;simp at aK
  refine wpAny_setField_rec V (by simp) λaP _ aD=>fin aP e (λc o c1 c2 c3 c4 x=>aD.extBut _ _ c1 (aF _ _ c4 (K.extBut _ _ c2 (q.extBut _ _ c3 (g.extBut _ _ c1 x))))) (oe,aD.extBut _ _ aN P,aK)
end
variable{ws:List Str}
def M3:inV (.str w) (ws.map V.str)=O ↔ w∈ws:=by
 constructor
 ·intro h;by_cases hm:w∈ws
  ·exact hm
  ·exfalso
   unfold inV at h;rw[Wq]at h;let(x,hx,e):=h;let(z,g,U):=tE.mp hx
   have:=eq_of_beq (show(z==w)=O from e)
   exact hm (this▸g)
 ·intro h;unfold inV;rw[Wq];exact(.str w,tE.mpr (w,h,U),show(w==w)=O from beq_self_eq_true w)
def marks(rs:List Str):List (Key×V):=rs.map λs=>(.inr s,.bl O)
def EB{as:List Str}:∀{bs:List Str},as.Nodup->(∀x∈as,x∈bs)->as.length<=bs.length:=by
 induction as with
 |nil=>intro bs _ _;exact JG _
 |cons a as g =>
  intro bs nd sub;rw[u3]at nd;let ha:=sub a (by simp)
  let z:=g nd.2 λx hx=>(List.mem_erase_of_ne (λ(e:x=a)=>nd.1 (by rw[<- e];exact hx))).mpr (sub x (by simp[hx]))
  rw[List.length_erase_of_mem ha]at z
  have:=XA ha
  simp only[rl]
  lia
variable{X:Cx}{gV:List (J×Obj)}{H:Hp}{t':Nat}{fp:List J}
def Inv.pQ{σ:St}(I:Inv X gV σ H s)(k:∀b o,b ∉ fp->s.heap.get? b=Z o->h'.get? b=Z o)(hf:∀b∈fp,tJ X gV H b):
  Inv X gV σ H {s with heap:=h',toks:=t'}:=by
 let K:∀b u,H b=Z u->b ∉ fp:=λb u e z=>by
  have:=(hf b z).1
  rw[e]at this;cases this
 refine I.step (λb P=>?_) (λb o _ _ g e _=>k b o g e) (λb o _ _ g e _=>(o.slots,k b o g e)) (λ_ _ _ _ n=>n)
  (λb o g e=>(o,k b o g e)) (λ_ _ e=>e) (λ_ _ _ e=>e) (λb ps e=>(#[],by rw[e];simp)) (λm hm=>?_) (λb u e=>?_) I.bare
 ·let(f0,f1,f2,V,f4,Q):=hf b P;exact(V,f1,f4,Q)
 ·let(o,es,ep,ho,r):=hm;exact(o,es,ep,k _ o (λz=>(hf _ z).2.1 U) ho,r)
 ·refine(I.hok b u e).cx (λc v g q=>k c v ?_ q) (λ_ q=>q) λ_ _ q=>q
  obtain z|z:=g
  ·rw[z];exact K b u e
  ·exact K c _ z
def SqB(K:BT)(tp:Bool)(H:Hp)(a:J)(xs:List V):Prop:=if tp=O then SqT K H a xs else SqL K H a xs
variable{a:J}
def Inv.nB{σ:St}{xs:List V}(I:Inv X gV σ H s)(h:SqB X.K tp H a xs):∃its:List B,Vals xs its/\a9 s.heap tp a its.toArray/\xs.length<=mu:=by
 cases tp with
 |true =>
  let(its,r,p,z):=I.tuple (h);exact(its,r,(p),z)
 |false =>
  let(its,r,p,z):=I.list (h);exact(its,r,p.isList,z)
def Inv.qX{σ:St}{xs ys:List V}(I:Inv X gV σ H s)(h:SqB X.K tp H a xs)(h2:SqB X.K tp H a ys):xs=ys:=by
 cases tp with
 |true=>exact I.uJ (h) (h2)
 |false=>exact I.zm (h) (h2)
def Itz(K:BT)(t1 t2:Bool)(l1 l2:J):It :=
 (λi H=>∃xs ys x y,SqB K t1 H l1 xs/\SqB K t2 H l2 ys/\xs[i]?=Z x/\ys[i]?=Z y,
   λi H v H'=>∃(p:J)(x y:V),H p=Y/\v=.ref p/\H'=upd H p (.tup [x,y])/\(∀xs,SqB K t1 H l1 xs->xs[i]?=Z x)/\∀ys,SqB K t2 H l2 ys->ys[i]?=Z y,
   λi H=>∃xs ys,SqB K t1 H l1 xs/\SqB K t2 H l2 ys/\(xs.length<=i\/ys.length<=i))
variable{P:Da}{elts:List Ev}
theorem FD{K:BT}(z TI TO i1 i2 l1 l2:J)(D:ZipApart z TI TO i1 i2 l1 l2):
  Turn P w K (.Tuple elts x1 pos) (Itz K t1 t2 l1 l2) [z,TI,TO,i1,i2] z (λi h=>IsZip h z TI TO .none/\IsPair h TI (.ref i1) (.ref i2)/\(∃a b,IsPair h TO a b)/\aL h t1 i1 l1 i/\aL h t2 i2 l2 i) where
 mem:=by simp
 obj:=by
  rintro i h ⟨h1,h2,⟨a,b,h3⟩,h4,h5⟩ c V
  simp only[kz,B9,or_false]at V;obtain rfl|rfl|rfl|rfl|rfl:=V
  ·exact(_,h1,λv e=>by cases e)
  ·exact(_,h2,λv e=>by cases e)
  ·exact(_,h3,λv e=>by cases e)
  ·exact h4.obj
  ·exact h5.obj
 keep:=by
  rintro i h h' ⟨h1,h2,⟨a,b,h3⟩,h4,h5⟩ k
  exact(k z (by simp) _ h1,k TI (by simp) _ h2,(a,b,k TO (by simp) _ h3),h4.at λo e=>k i1 (by simp) o e,h5.at λo e=>k i2 (by simp) o e)
 item:=by
  intro X hP hw hK V i gV s σ H E I hf st hg;subst hP hw hK;let(h1,h2,(a,b,h3),h4,h5):=st;let(xs,ys,x,y,q1,q2,e1,e2):=hg;let(EM,Q,o1,z1):=I.nB q1;let(bK,q,o2,z2):=I.nB q2;let(u1,a6,aK):=Q.get e1;let(u2,a5,aF):=q.get e2;refine yd D h1 h2 h3 h4 h5 o1 o2 (x:=u1) (y:=u2) (by simpa using a6) (by simpa using a5) λh' a4 TK Vn Vm a7 Va av=>(_,U,(wpAny_letOwnedTupleGo_zip a4 λaD U8 Qu=>?_))
  let hn:=I.hok.fresh (m9 s.heap.objs.size);let lz:=kS h1;let a3:=kS h2;let aP:=kS h3;let(bx,Vx,_):=h4.obj;let(bt,Vw,_):=h5.obj;let aN:=kS Vx;let aM:=kS Vw;let P2:∀b ∈ [z,TI,TO,i1,i2],b≠s.heap.objs.size:=λb g=>by
   simp only[kz,B9,or_false]at g;obtain rfl|rfl|rfl|rfl|rfl:=g
   ·exact ui lz
   ·exact ui a3
   ·exact ui aP
   ·exact ui aN
   ·exact ui aM
  let up:∀c o,c≠z->h'.get? c=Z o->aD.get? c=Z o:=λc o V e=>Qu.extBut _ _ V e
  let I1:Inv X gV σ (upd H s.heap.objs.size (.tup [x,y])) {s with heap:=s.heap.push {cls:=.type "tuple",data:=.seq #[u1,u2]}} :=
   I.laid (λb u e=>j3 _ e) (m9 _) (by show 2<=mu;decide,[u1,u2],.cons aK (.cons aF .nil),((_,p6 _ U,U,_,U),_,p6 _ U,U))
  let az:∀b ∈ [z,TI,TO,i1,i2],tJ X gV (upd H s.heap.objs.size (.tup [x,y])) b:=λb g=>by
   let(f0,r):=hf b g;exact(by rw[aj (P2 b g)];exact f0,r)
  let I2:=by
   refine I1.pQ (h':=aD) (t':=s.toks) (λb o g e=>?_) az
   simp only[kz,B9,or_false,not_or]at g;let(b1,b2,b3,b4,b5):=g;obtain⟨rfl,rfl⟩|e':=XS e
   ·exact up _ _ b1 a7
   ·exact up _ _ b1 (av b o b1 b3 b4 b5 e')
  exact(.ref s.heap.objs.size,upd H s.heap.objs.size (.tup [x,y]),I2,U,(_,x,y,hn,U,U,λzs hz=>by rw[I.qX hz q1];exact e1,λzs hz=>by rw[I.qX hz q2];exact e2),((U8,up _ _ D.TIz (av TI _ D.TIz D.TITO D.TIi1 D.TIi2 h2),(_,_,up _ _ D.TOz TK),Vn.at λo e=>up _ _ D.i1z e,Vm.at λo e=>up _ _ D.i2z e)),λb g=>(az b g).1)
 done:=by
  intro X hP hw hK V i gV s σ H E I hf st hg;subst hP hw hK;let(h1,h2,(a,b,h3),h4,h5):=st;let(xs,ys,q1,q2,sG):=hg;let(EM,Q,o1,z1):=I.nB q1;let(bK,q,o2,z2):=I.nB q2;let g1:=Q.length;let g2:=q.length;refine BX (I.ok.hd V) D h1 h2 h3 h4 h5 o1 o2 ?_ λh' k=>(U,I.pQ (λb o g e=>?_) hf)
  ·obtain e|e:=sG
   ·simp;lia
   ·simp;lia
  ·simp only[kz,B9,or_false,not_or]at g;exact k b o g.1 g.2.2.1 g.2.2.2.1 g.2.2.2.2 e
 self:=λ_ _ _ _ _ st h=>wpAny_pyIter_zip st.1 h
def itc(tp:Bool):String:=if tp=O then "tuple_iterator" else "list_iterator"
variable{prog:Da}{A:Db}{E:B->ϋ->Prop}
def jL{s:ϋ}(h:a9 s.heap tp l xs)
  (g:Q (.ref s.heap.objs.size) {s with heap:=s.heap.push {cls:=.type (itc tp),data:=.fields #[.ref l,.int 0 0]}}):wpAny (model prog w) A (pyIter (.ref l)) Q E s:=by
 cases tp with
 |true=>exact wpAny_pyIter_tuple (h) g
 |false=>exact wpAny_pyIter_list (h) g
abbrev zH1(t1:Bool)(h:Do)(l1:J):Do:=h.push {cls:=.type (itc t1),data:=.fields #[.ref l1,.int 0 0]}
abbrev zH2(t1 t2:Bool)(h:Do)(l1 l2:J):Do:=(zH1 t1 h l1).push {cls:=.type (itc t2),data:=.fields #[.ref l2,.int 0 0]}
abbrev zH3(t1 t2:Bool)(h:Do)(l1 l2:J):Do:=(zH2 t1 t2 h l1 l2).push {cls:=.type "tuple",data:=.seq #[.ref h.objs.size,.ref (zH1 t1 h l1).objs.size]}
abbrev zH4(t1 t2:Bool)(h:Do)(l1 l2:J):Do:=(zH3 t1 t2 h l1 l2).push {cls:=.type "tuple",data:=.seq #[.none,.none]}
abbrev zH5(t1 t2:Bool)(h:Do)(l1 l2:J):Do:=(zH4 t1 t2 h l1 l2).push {cls:=.type "zip",data:=.fields #[.none,.bool ϊ,.bool ϊ,.ref (zH2 t1 t2 h l1 l2).objs.size,.ref (zH3 t1 t2 h l1 l2).objs.size]}
def uo(t1 t2:Bool)(l1 l2:J)(xs ys:Array B):
  Meets (Builtin.«zip.__new__» ([.type "zip",.ref l1,.ref l2],[])) (λ_ R s=>a9 s.heap t1 l1 xs/\a9 s.heap t2 l2 ys /\
   R (.ok (.ret (.ref (zH4 t1 t2 s.heap l1 l2).objs.size))) {s with heap:=zH5 t1 t2 s.heap l1 l2}) :=
 .of_wp λprog w A R s h=>by
  let(hp,g,d,tk,os):=s;let(z,q,h):=h;let Q:=sub_zip;let P:=z;let K:a9 (ϋ.heap (hp.push {cls:=.type (itc t1),data:=.fields #[.ref l1,.int 0 0]},g,d,tk,os)) t2 l2 ys:=q.at λo e=>j3 _ e
  wp_walk using jL P,jL K
  exact(_,U,h)
def jz(e:h.get? it=Z {cls:=.type (itc tp),data:=.fields #[.ref l,.int 0 0]}):aL h tp it l 0:=by
 cases tp with
 |true=>exact((_,e,U,U))
 |false=>exact((_,e,U,U))
theorem jb{A:Db}{E:B->ϋ->Prop}{s:ϋ}(P:a9 s.heap t1 l1 xs)(K:a9 s.heap t2 l2 ys)
  (h:∀h',IsZip h' (s.heap.objs.size+4) (s.heap.objs.size+2) (s.heap.objs.size+3) .none->IsPair h' (s.heap.objs.size+2) (.ref s.heap.objs.size) (.ref (s.heap.objs.size+1)) ->
   IsPair h' (s.heap.objs.size+3) .none .none->aL h' t1 s.heap.objs.size l1 0->aL h' t2 (s.heap.objs.size+1) l2 0 ->
   (∀c o,s.heap.get? c=Z o->h'.get? c=Z o)->Q (.ref (s.heap.objs.size+4)) {s with heap:=h'}):
  wpAny (model prog w) A (call (.type "zip") [.ref l1,.ref l2]) Q E s:=by
 refine callType_new F.called_zip (by decide) (F.typeCall_zip_2 _ _) (F.newCall_zip_2 _ _) (λobj=>F.args_object_init_3 obj _ _) F.entry_zip_new
  (uo t1 t2 l1 l2 xs ys) (P,K,?_)
 let z:(zH1 t1 s.heap l1).objs.size=s.heap.objs.size+1:=Fs ..;let q:(zH2 t1 t2 s.heap l1 l2).objs.size=s.heap.objs.size+2:=by rw[Fs,z]
 let g:(zH3 t1 t2 s.heap l1 l2).objs.size=s.heap.objs.size+3:=by rw[Fs,q]
 let z4:(zH4 t1 t2 s.heap l1 l2).objs.size=s.heap.objs.size+4:=by rw[Fs,g]
 let V:(zH5 t1 t2 s.heap l1 l2).get? (zH4 t1 t2 s.heap l1 l2).objs.size=Z _:=p6 _ U;let g4:(zH5 t1 t2 s.heap l1 l2).get? (zH3 t1 t2 s.heap l1 l2).objs.size=Z _:=j3 _ (p6 _ U);let g3:(zH5 t1 t2 s.heap l1 l2).get? (zH2 t1 t2 s.heap l1 l2).objs.size=Z _:=j3 _ (j3 _ (p6 _ U));let g2:(zH5 t1 t2 s.heap l1 l2).get? (zH1 t1 s.heap l1).objs.size=Z _:=j3 _ (j3 _ (j3 _ (p6 _ U)));let g1:(zH5 t1 t2 s.heap l1 l2).get? s.heap.objs.size=Z _:=j3 _ (j3 _ (j3 _ (j3 _ (p6 _ U))));rw[q,g,z4]at V;rw[z,q]at g3;rw[g]at g4;rw[z]at g2;rw[z4];exact((_,V,U),h _ V g3 g4 (jz g1) (jz g2) λc o x =>
  j3 _ (j3 _ (j3 _ (j3 _ (j3 _ x)))))
def Qs(K:BT)(t1 t2:Bool)(ta:TA):TI:=λσ H R=>ta σ H λvs H1=>∃l1 l2,vs=[.ref l1,.ref l2]/\(∃xs,SqB K t1 H1 l1 xs)/\(∃ys,SqB K t2 H1 l2 ys)/\R (Itz K t1 t2 l1 l2) H1
def a9.obj(x:a9 h tp l xs):∃o,h.get? l=Z o:=by
 cases tp with
 |true=>let(o,ho,_):=(x);exact(o,ho)
 |false=>let(o,ho,_):=(x);exact(o,ho)
variable{n:Nat}
def jv{l1 l2:Nat}(h1:l1<n)(h2:l2<n):ZipApart (n+4) (n+2) (n+3) n (n+1) l1 l2:=by
 constructor <;>(intro z;refine absurd (show @Eq Nat _ _ from z) ?_;lia)
variable{pos':Pos}{b:Ev}
def PD{x1}{a:Ev}{p pos:Pos}(hg:Gl X "zip")(hm:X.mg "zip"=Y)(gw:bootBuiltins "zip"=Z (.type "zip"))(ha:PA X [a,b] ta)(hs:kh [a,b] X.env=[(ϊ,eval a X.env),(ϊ,eval b X.env)]:=by rfl)(g:AD X b:=by rfl):
  PI X (.Tuple elts x1 pos') (.Call (.Name "zip" p) [a,b] [] pos) (Qs X.K t1 t2 ta):=by
 intro gV s σ H R I h;refine Call_ (dQ I hg hm gw (PyProof.Rows.callWith_type1 (thn (ha pos gV s σ H _ I h) λus s1 (vs,H1,P,r1,q1)=>?_) (by rw[hs,g]) (by rw[g];rfl)))
 let(l1,l2,e,(xs,q2),(ys,q3),q):=q1;subst e;let(u1,u2,U,V,Q):=vals2 r1;cases V;cases Q;let(EM,aM,o1,z1):=P.nB q2;let(bK,aK,o2,z2):=P.nB q3;let(aP,e1):=o1.obj;let(aN,e2):=o2.obj;let g1:=kS e1;let g2:=kS e2;refine jb o1 o2 λh' hz aF aD az av hk=>wpAny_pyIter_zip hz ?_
 refine(_,[s1.heap.objs.size+4,s1.heap.objs.size+2,s1.heap.objs.size+3,s1.heap.objs.size,s1.heap.objs.size+1],_,_,H1,U,P.kept hk,FD _ _ _ _ _ l1 l2 ?_,(hz,aF,(_,_,aD),az,av),λc hc=>?_,q)
 ·exact jv g1 g2
 ·let z:s1.heap.objs.size<=c:=by
   simp only[kz,B9,or_false]at hc;obtain rfl|rfl|rfl|rfl|rfl:=hc <;> first|exact Nat.le_add_right _ _|exact m9 _
  exact P.IV z (P.hok.fresh z)
def Eb(h:ws.Nodup):(ws.drop t++ws.take t).Nodup :=
 (List.perm_append_comm).nodup_iff.mp (by rw[W2];exact h)
variable{d:J}
def ng.other(D:ng H d l)(h1:q≠d)(h2:q≠l):ng (upd H q o) d l:=by
 let(s,n,ls,D):=D;exact(s,n,ls,by rw[aj h1.symm];exact D.hd,by rw[aj h2.symm];exact D.hl,D.s0,D.s1,D.n0,D.l0)
def names(ks:List Kd):List Str:=ks.flatMap λk=>k.2.map (·.1)
variable{x:Str}
def take_one{xs:List Str}(h:xs[i]?=Z x):xs.take i ++ [x]=xs.take (i+1):=by rw[wh,h];rfl
variable{es:List Ev}
theorem fk{K:BT}{k:Nat}{pos:Pos}(z:X.K=K)(q:X.calm=O)(h:PGs X es t)
  (hn:(assignEach es X.env).length=n:=by rfl) (g:(assignEach es X.env).findIdx? (·.1)=none:=by rfl):PG X (.Tuple es k pos) (Nb K n t):=z▸PH q h hn g
abbrev oy(h:Do)(z TI TO:J)(a:J)(f:Bool):Prop :=
 h.get? z=Z {cls:=.type "zip",dict:=Y,data:=.fields #[rawInt a,.bool f,.bool ϊ,.ref TI,.ref TO],slots:=#[]}
variable{oa:Obj}
section
variable{w:Cl}{s:ϋ}
theorem y7{TI TO:J}{f:Bool}{Q:Bool->ϋ->Prop}(K:oy s.heap z TI TO a f)(ha:s.heap.get? a=Z oa)
  (V:∀h',oy h' z TI TO a O->WC z s.heap h'->Q ϊ {s with heap:=h'}):wpAny (model prog w) A (Builtin.SmallTypes.ownedTupleIsFree (.ref z)) Q E s:=by
 refine dD (wpAny_field K U U ?_);show wpAny _ _ (loadIfAlive ((a:Int).toNat) >>= _) _ _ _;refine dD (W.kdx_alive ha ?_);refine dD (wpAny_field K U (x:=.bool f) U ?_);cases f with
 |true =>
  exact kL (V _ K (Heap.SameBut.refl _ _))
 |false =>
  exact dD (wpAny_setField_rec K (by simp) λP q g=>(kL (V _ q g)))
theorem J0{TI TO:J}{f:Bool}{x y:B}{Q:Option B->ϋ->Prop}(D:ZipApart z TI TO i1 i2 l1 l2)
  (hz:oy s.heap z TI TO a f) (ha:s.heap.get? a=Z oa) (aK:IsPair s.heap TI (.ref i1) (.ref i2))
  (h1:aL s.heap t1 i1 l1 k1) (h2:aL s.heap t2 i2 l2 k2) (aF:a9 s.heap t1 l1 xs) (aD:a9 s.heap t2 l2 ys) (hx:xs[k1]?=Z x) (hy:ys[k2]?=Z y)
  (hQ:∀h',oy h' z TI TO a O->aL h' t1 i1 l1 (k1+1)->aL h' t2 i2 l2 (k2+1)->IsPair h' s.heap.objs.size x y->h'.objs.size=s.heap.objs.size+1 ->
   (∀c o,c≠z->c≠i1->c≠i2->s.heap.get? c=Z o->h'.get? c=Z o)->Q (Z (.ref s.heap.objs.size)) {s with heap:=h'}):
  wpAny (model prog w) A (pyNext (.ref z)) Q E s:=by
 let hT:s.TypeIs (.ref z) "zip":=(_,hz,U);refine dD (Wf (wpAny_callSpecial?_slot hT F.slot_zip_next
  (Es F.slot_zip_next hT F.entry_zip_next ?_ (F.args_zip_next_1 _))))
 show wpAny _ _ (field (.ref z) 2 >>= _) _ _ _;refine dD (wpAny_field hz U (x:=.bool ϊ) U ?_);refine dD (wpAny_field hz U U ?_);refine dD (wpAny_seqItems aK U ?_);refine dD (y7 hz ha λh₁ V g=>?_)
 simp only[WU,if_false];rw[<- X9];simp only[WR];refine dD (dD (dD (Fq ?_)));refine dD (next_item (h1.at λo e=>g.extBut _ o D.i1z e) (aF.at λo e=>g.extBut _ o D.l1z e) hx λaM az q=>kL (kL (dD (dD (Fq ?_)))))
 refine dD (next_item (h2.at λo e=>q.extBut _ o D.i12.symm (g.extBut _ o D.i2z e)) (aD.at λo e=>q.extBut _ o D.l2i1 (g.extBut _ o D.l2z e)) hy λP av K=>kL (kL (kL ?_)))
 show wpAny _ _ (newTuple [x,y] >>= _) _ _ _;refine dD (wpAny_newTuple ?_);let hsz:P.objs.size=s.heap.objs.size:=by rw[K.1,q.1,g.1]
 let up:∀c o,c≠z->c≠i1->c≠i2->s.heap.get? c=Z o->(P.push {cls:=.type "tuple",data:=.seq #[x,y]}).get? c=Z o:=λc o c1 c2 c3 e =>
  j3 _ (K.extBut _ _ c3 (q.extBut _ _ c2 (g.extBut _ _ c1 e)))
 refine kL (_,U,kL ?_);rw[hsz];refine hQ _ (j3 _ (K.extBut _ _ D.i2z.symm (q.extBut _ _ D.i1z.symm V))) ?_ ?_ ?_ ?_ up
 ·exact az.at λo e=>j3 _ (K.extBut _ o D.i12 e)
 ·exact av.at λo e=>j3 _ e
 ·rw[<- hsz];exact p6 _ U
 ·rw[Fs,hsz]
theorem yb{TI TO:J}{f:Bool}{Q:Option B->ϋ->Prop}(hh:A.handled=Y)(D:ZipApart z TI TO i1 i2 l1 l2)
  (hz:oy s.heap z TI TO a f) (ha:s.heap.get? a=Z oa) (aF:IsPair s.heap TI (.ref i1) (.ref i2))
  (h1:aL s.heap t1 i1 l1 k1) (h2:aL s.heap t2 i2 l2 k2) (av:a9 s.heap t1 l1 xs) (aD:a9 s.heap t2 l2 ys) (sG:xs[k1]?=Y\/ys[k2]?=Y)
  (hQ:∀h',(∀c o,c≠z->c≠i1->c≠i2->s.heap.get? c=Z o->h'.get? c=Z o)->Q Y {s with heap:=h'}):
  wpAny (model prog w) A (pyNext (.ref z)) Q E s:=by
 let hT:s.TypeIs (.ref z) "zip":=(_,hz,U);let fin:∀h' e,(∀c o,c≠z->c≠i1->c≠i2->s.heap.get? c=Z o->h'.get? c=Z o)->(∃o,h'.get? e=Z o/\o.cls=.type "StopIteration") ->
   wpAny (model prog w) A (do if <- isInstance (.ref e) (.type "StopIteration")then pure Y else throw (.ref e)) Q E {s with heap:=h'}:=λh' e hk he=>by
  let(o,ho,hc):=he;refine dD (V4 (o,ho,hc) isSubtype_stop ?_);exact kL (hQ _ hk)
 refine dD (Wf (wpAny_callSpecial?_slot hT F.slot_zip_next
  (Es F.slot_zip_next hT F.entry_zip_next ?_ (F.args_zip_next_1 _))))
 show wpAny _ _ (field (.ref z) 2 >>= _) _ _ _;refine dD (wpAny_field hz U (x:=.bool ϊ) U ?_);refine dD (wpAny_field hz U U ?_);refine dD (wpAny_seqItems aF U ?_);refine dD (y7 hz ha λh₁ az g=>?_)
 simp only[WU,if_false];rw[<- X9];simp only[WR];refine dD (dD (dD (Fq ?_)));cases hx:xs[k1]? with
 |none =>
  exact dD (next_end hh (h1.at λo e=>g.extBut _ o D.i1z e) (av.at λo e=>g.extBut _ o D.l1z e) hx λK e q he=>(fin K e (λc o c1 c2 _ x=>q _ _ c2 (g.extBut _ _ c1 x)) he))
 |some x =>
  let hy:ys[k2]?=none:=by obtain h|h:=sG;rw[hx]at h;cases h;exact h
  refine dD (next_item (h1.at λo e=>g.extBut _ o D.i1z e) (av.at λo e=>g.extBut _ o D.l1z e) hx λK aK q=>kL (kL (dD (dD (Fq ?_)))))
  exact dD (next_end hh (h2.at λo e=>q.extBut _ o D.i12.symm (g.extBut _ o D.i2z e)) (aD.at λo e=>q.extBut _ o D.l2i1 (g.extBut _ o D.l2z e)) hy λV e P he=>(fin V e (λc o c1 c2 c3 x=>P _ _ c3 (q.extBut _ _ c2 (g.extBut _ _ c1 x))) he))
end
structure ZSt(h:Do)(z TI TO i1 i2 l1 l2 S:J)(t1 t2:Bool)(i:Nat):Prop where
 ti:IsPair h TI (.ref i1) (.ref i2)
 s1:aL h t1 i1 l1 i
 s2:aL h t2 i2 l2 i
 st:(IsZip h z TI TO .none/\∃a b,IsPair h TO a b)\/∃(a:J)(f:Bool)(oa:Obj),oy h z TI TO a f/\h.get? a=Z oa/\a≠z/\a≠S/\a≠i1/\a≠i2
variable{S:J}
def ZSt.keep{TI TO:J}(x:ZSt h z TI TO i1 i2 l1 l2 S t1 t2 i)(k:∀b o,b≠S->h.get? b=Z o->h'.get? b=Z o)(Q:z≠S)(q:TI≠S)(g:TO≠S)(h1:i1≠S)(h2:i2≠S):ZSt h' z TI TO i1 i2 l1 l2 S t1 t2 i :=
 (k _ _ q x.ti,x.s1.at λo e=>k _ o h1 e,x.s2.at λo e=>k _ o h2 e,by
  obtain⟨e,a,b,K⟩|⟨a,f,oa,e,K,V,P,n3⟩:=x.st
  ·exact .inl (k _ _ Q e,a,b,k _ _ g K)
  ·exact .inr (a,f,oa,k _ _ Q e,k _ _ P K,V,P,n3))
structure ZG(xs ys:Array B)(lo:Nat)(h:Do)(as:List J):Prop where
 rise:as.Pairwise (· < ·)
 above:∀a∈as,lo<=a
 pairs:∀(j:Nat)(a:J),as[j]?=Z a->∃x y,xs[j]?=Z x/\ys[j]?=Z y/\IsPair h a x y
def ZG.there{lo:Nat}(g:ZG xs ys lo h as)(ha:a∈as):a<h.objs.size:=by
 let(j,hj):=List.mem_iff_getElem?.mp ha;let(_,_,_,_,e):=g.pairs j a hj;exact kS e
section
variable{w:Cl}{s:ϋ}
def BU{E:B->ϋ->Prop}{TI TO:J}{k:Nat}{x y:B}{Q:Option B->ϋ->Prop}(D:ZipApart z TI TO i1 i2 l1 l2)
  (st:ZSt s.heap z TI TO i1 i2 l1 l2 S t1 t2 k) (hS:S<s.heap.objs.size) (P:a9 s.heap t1 l1 xs) (K:a9 s.heap t2 l2 ys) (hx:xs[k]?=Z x) (hy:ys[k]?=Z y)
  (hQ:∀h',ZSt h' z TI TO i1 i2 l1 l2 S t1 t2 (k+1)->IsPair h' s.heap.objs.size x y->h'.objs.size=s.heap.objs.size+1 ->
   (∀c o,c≠z->c≠TO->c≠i1->c≠i2->s.heap.get? c=Z o->h'.get? c=Z o)->Q (Z (.ref s.heap.objs.size)) {s with heap:=h'}):
  wpAny (model prog w) A (pyNext (.ref z)) Q E s:=by
 let(o1,g1,_):=st.s1.obj;let(o2,g2,_):=st.s2.obj;obtain⟨V,a,b,av⟩|⟨a,f,oa,V,ha,n1,n2,n3,n4⟩:=st.st
 ·refine yd D V st.ti av st.s1 st.s2 P K hx hy λh' g TK e1 e2 hp hsz q=>hQ h' (q _ _ D.TIz D.TITO D.TIi1 D.TIi2 st.ti,e1,e2,.inr (s.heap.objs.size,ϊ,_,g,hp,?_,?_,?_,?_)) hp hsz q
  ·exact QX (kS V)
  ·exact QX hS
  ·exact QX (kS g1)
  ·exact QX (kS g2)
 ·exact J0 D V ha st.ti st.s1 st.s2 P K hx hy λh' g e1 e2 hp hsz q=>hQ h' (q _ _ D.TIz D.TIi1 D.TIi2 st.ti,e1,e2,.inr (a,O,oa,g,q a oa n1 n3 n4 ha,n1,n2,n3,n4)) hp hsz λc o c1 _ c3 c4 e=>q c o c1 c3 c4 e
def BV{TI TO:J}{k:Nat}{Q:Option B->ϋ->Prop}(hh:A.handled=Y)(D:ZipApart z TI TO i1 i2 l1 l2)
  (st:ZSt s.heap z TI TO i1 i2 l1 l2 S t1 t2 k) (q:a9 s.heap t1 l1 xs) (g:a9 s.heap t2 l2 ys) (V:xs[k]?=Y\/ys[k]?=Y)
  (hQ:∀h',(∀c o,c≠z->c≠TO->c≠i1->c≠i2->s.heap.get? c=Z o->h'.get? c=Z o)->Q Y {s with heap:=h'}):wpAny (model prog w) A (pyNext (.ref z)) Q E s:=by
 obtain⟨K,a,b,P⟩|⟨a,f,oa,K,ha,n1,n2,n3,n4⟩:=st.st
 ·exact BX hh D K st.ti P st.s1 st.s2 q g V hQ
 ·exact yb hh D K ha st.ti st.s1 st.s2 q g V λh' hk=>hQ h' λc o c1 _ c3 c4 e=>hk c o c1 c3 c4 e
def JW{TI TO:J}{t1 t2:Bool}{lo:Nat}(hh:A.handled=Y)(D:ZipApart z TI TO i1 i2 l1 l2)(av:z≠S)(xp:TI≠S)(n6:TO≠S)(aK:i1≠S)(aF:i2≠S)(xo:l1≠S)(xn:l2≠S)
  (oS:S<lo) (oz:z<lo) (aM:TO<lo) (o1:i1<lo) (o2:i2<lo) (en:n=min xs.size ys.size) (hn:n<=mu) (res:B) {h₁:Do}
  (hR:∀h' tk acc c as,(∀b o,b≠S->b≠z->b≠TO->b≠i1->b≠i2->h₁.get? b=Z o->h'.get? b=Z o)->h'.get? S=Z {cls:=.type "list",dict:=Y,data:=.seq acc c,slots:=#[]}->as.length=n->ZG xs ys lo h' as ->
   acc.toList=as.map B.ref->R (.ok (.ret res)) {s with heap:=h',toks:=tk}):
  ∀(k i:Nat)(h:Do)(tk c:Nat)(acc:Array B)(as:List J),n - i=k->i<=n->ZSt h z TI TO i1 i2 l1 l2 S t1 t2 i->a9 h t1 l1 xs->a9 h t2 l2 ys->(∀b o,b≠S->b≠z->b≠TO->b≠i1->b≠i2->h₁.get? b=Z o->h.get? b=Z o) ->
   h.get? S=Z {cls:=.type "list",dict:=Y,data:=.seq acc c,slots:=#[]}->acc.toList=as.map B.ref->as.length=i->ZG xs ys lo h as->lo<=h.objs.size ->
   codeAny (model prog w) A (.builtin "list.extend.loop" ([.ref S,.ref z,res],[])) R {s with heap:=h,toks:=tk}:=by
 let ne:∀{a b:Nat},a<lo->lo<=b->b≠a:=λh1 h2=>by omega
 intro k
 induction k with
 |zero =>
  intro i h tk c acc as hk hi az V Q sF hS js K P aD;refine U7 PySem.F.entry_extend_loop ?_;refine dD (BV (A:=A.in1) hh D az V Q ?_ λh' he=>?_)
  ·by_cases q:xs.size<=i
   ·exact .inl (Wk q)
   ·exact .inr (Wk (by omega))
  refine kL (hR h' tk acc c as (λb o b1 b2 b3 b4 b5 e=>he b o b2 b3 b4 b5 (sF b o b1 b2 b3 b4 b5 e)) (he S _ av.symm n6.symm aK.symm aF.symm hS) (by omega) (P.rise,P.above,λj a hj=>?_) js)
  let(x,y,e1,e2,e3):=P.pairs j a hj;let ab:=P.above a (px hj);exact(x,y,e1,e2,he a _ (ne oz ab) (ne aM ab) (ne o1 ab) (ne o2 ab) e3)
 |succ k ih =>
  intro i h tk c acc as hk hi az V Q sF hS js K P aD;let aN:=WI hk;let hm:=Yx.mp (en▸aN);let hx:=RK hm.1;let hy:=RK hm.2;let hsz:acc.size=i:=by rw[<- V9,js,ej,K]
  refine U7 PySem.F.entry_extend_loop ?_;refine dD (BU (S:=S) D az (kS hS) V Q hx hy λh' ux ht hz g=>?_)
  let a3:=g S _ av.symm n6.symm aK.symm aF.symm hS;let up:∀b o,b≠S->h'.get? b=Z o->(h'.update S (Vc (·.push (B.ref h.objs.size)))).get? b=Z o:=λb o hb e=>(z6 _ _ (Ne.symm hb)).trans e
  let aP:=kS hS;refine dD ?_;refine V1 a3 U (kL (Rn PySem.F.plain_extend_loop _,ih (i+1) _ tk _ (acc.push (B.ref h.objs.size)) (as ++ [h.objs.size]) (by rw[Xk,hk];rfl) aN (ux.keep up av xp n6 aK aF)
   (V.at λo e=>up _ o xo (g _ o D.l1z D.l1TO D.l1i1 D.l1i2 e)) (Q.at λo e=>up _ o xn (g _ o D.l2z D.l2TO D.l2i1 D.l2i2 e))
   (λb o b1 b2 b3 b4 b5 e=>up b o b1 (g b o b2 b3 b4 b5 (sF b o b1 b2 b3 b4 b5 e))) (Fv _ a3 U) (by rw[Array.toList_push,js,zY];rfl) (by rw[pL,K];rfl) (?_,?_,?_) ?_)) (by rw[hsz];omega) (by rw[Array.size_push,hsz];omega)
  ·refine List.pairwise_append.mpr (P.rise,List.pairwise_singleton _ _,λa ha b hb=>?_)
   rw[g5.mp hb];exact P.there ha
  ·intro a ha;obtain ha|ha:=p7.mp ha
   ·exact P.above a ha
   ·rw[g5.mp ha];exact aD
  ·intro j b hj;obtain h1|h1|h1:=Nat.lt_trichotomy j as.length
   ·rw[u4 h1]at hj;let(x',y',e1,e2,e3):=P.pairs j b hj;let ab:=P.above b (px hj);exact(x',y',e1,e2,up b _ (ne oS ab) (g b _ (ne oz ab) (ne aM ab) (ne o1 ab) (ne o2 ab) e3))
   ·subst h1;let hb:=by simpa using hj
    subst hb;exact(_,_,by rw[K];exact hx,by rw[K];exact hy,up _ _ (QX aP) ht)
   ·let Tr:(as ++ [h.objs.size])[j]?=none:=VX (by rw[pL,XJ];omega)
    rw[Tr]at hj;cases hj
  ·let e:=up _ _ (QX aP) ht
   have:=kS e
   let Vv:=aD;exact xZ Vv (QH this)
end
def Ae:typeLookup (.type "zip") "__len__"=pure none:=by kernel_rfl
def yc:typeLookup (.type "zip") "__length_hint__"=pure none:=by kernel_rfl
section
variable{w:Cl}{s:ϋ}
theorem DP{TI TO:J}(hh:A.handled=Y)(D:ZipApart z TI TO i1 i2 l1 l2)(q:z≠S)(xp:TI≠S)(n6:TO≠S)(az:i1≠S)(av:i2≠S)(xo:l1≠S)(xn:l2≠S)
  (hz:IsZip s.heap z TI TO .none) {ta tb:B} (V:IsPair s.heap TO ta tb) (aD:IsPair s.heap TI (.ref i1) (.ref i2)) (Q:aL s.heap t1 i1 l1 0) (P:aL s.heap t2 i2 l2 0) (aK:a9 s.heap t1 l1 xs) (aF:a9 s.heap t2 l2 ys)
  (en:n=min xs.size ys.size) (hn:n<=mu) (res:B) (c₀:Nat) (hS:s.heap.get? S=Z {cls:=.type "list",data:=.seq #[] c₀})
  (hR:∀h' tk acc c as,(∀b o,b≠S->b≠z->b≠TO->b≠i1->b≠i2->s.heap.get? b=Z o->h'.get? b=Z o)->h'.get? S=Z {cls:=.type "list",dict:=Y,data:=.seq acc c,slots:=#[]}->as.length=n->ZG xs ys s.heap.objs.size h' as ->
   acc.toList=as.map B.ref->R (.ok (.ret res)) {s with heap:=h',toks:=tk}):
  wpAny (model prog w) A.in1 (Builtin.List.listExtendWith (.ref S) (.ref z) res)
   (λfin s'=>match fin with|.done f=>R (.ok f) s' |.again c'=>c'.quiet=O/\codeAny (model prog w) A c' R s') (λe s'=>R (.error e) s') s:=by
 let hT:s.TypeIs (.ref z) "zip":=(_,hz,U);let(aN,g1,_):=Q.obj;let(aM,g2,_):=P.obj;refine dD (V7 hT ?_);let e1:Builtin.List.listSameRef (.ref S) (.ref z)=false:=by simp[Builtin.List.listSameRef,q.symm]
 let e2:(B.type "zip" == B.type "list")=false:=by decide
 let e3:(B.type "zip" == B.type "tuple")=false:=by decide
 simp only[e1,e2,e3,if_false];refine dD (wpAny_pyIter_zip hz (dD (Fq ?_)));refine dD (VP hT Ae ?_);refine dD (VP hT yc (kL ?_));refine dD (Wb (dD ?_));refine dD (V1 hS U ?_);let g:=Fv (Vc (·.push B.none)) hS U;refine V1 g U ?_;let K:=Fv (Vc (·.pop)) g U;let oth:∀b o,b≠S->s.heap.get? b=Z o->((s.heap.update S (Vc (·.push B.none))).update S (Vc (·.pop))).get? b=Z o :=
  λb o hb e=>(z6 _ _ (Ne.symm hb)).trans ((z6 _ _ (Ne.symm hb)).trans e)
 let hsz:((s.heap.update S (Vc (·.push B.none))).update S (Vc (·.pop))).objs.size=s.heap.objs.size:=by
  rw[(Heap.SameBut.update (a:=S) ..).1,(Heap.SameBut.update (a:=S) ..).1]
 refine kL (Rn F.plain_extend_loop _,JW (s:=s) (n:=n) hh D q xp n6 az av xo xn (kS hS) (kS hz) (kS V) (kS g1) (kS g2) en hn res hR n 0 _ _ _ _ [] (by omega) (JG _)
  (oth _ _ xp aD,Q.at λo e=>oth _ o az e,P.at λo e=>oth _ o av e,.inl (oth _ _ q hz,ta,tb,oth _ _ n6 V)) (aK.at λo e=>oth _ o xo e) (aF.at λo e=>oth _ o xn e) (λb o b1 _ _ _ _ e=>oth b o b1 e) K U U (List.Pairwise.nil,λ_ z=>(nomatch z),λj a hj=>by simp at hj) (by rw[hsz];exact m9 _))
def JX{TI TO:J}(hh:A.handled=Y)(D:ZipApart z TI TO i1 i2 l1 l2)(q:z≠S)(xp:TI≠S)(n6:TO≠S)(P:i1≠S)(K:i2≠S)(xo:l1≠S)(xn:l2≠S)
  (hz:IsZip s.heap z TI TO .none) {ta tb:B} (av:IsPair s.heap TO ta tb) (az:IsPair s.heap TI (.ref i1) (.ref i2)) (V:aL s.heap t1 i1 l1 0) (Q:aL s.heap t2 i2 l2 0) (aK:a9 s.heap t1 l1 xs) (aF:a9 s.heap t2 l2 ys)
  (en:n=min xs.size ys.size) (hn:n<=mu) (hS:s.heap.get? S=Z {cls:=.type "list",data:=.seq #[]})
  (hR:∀h' tk acc c as,(∀b o,b≠S->b≠z->b≠TO->b≠i1->b≠i2->s.heap.get? b=Z o->h'.get? b=Z o)->h'.get? S=Z {cls:=.type "list",dict:=Y,data:=.seq acc c,slots:=#[]}->as.length=n->ZG xs ys s.heap.objs.size h' as ->
   acc.toList=as.map B.ref->R (.ok (.ret .none)) {s with heap:=h',toks:=tk}):
  wpAny (model prog w) A.in1 (Builtin.«list.__init__» ([.ref S,.ref z],[]))
   (λfin s'=>match fin with|.done f=>R (.ok f) s' |.again c'=>c'.quiet=O/\codeAny (model prog w) A c' R s') (λe s'=>R (.error e) s') s:=by
 refine dD ?_;refine dD (wpAny_seqItems hS U (kL ?_));refine dD (V1 hS U ?_);let g:=Fv (Vc (λ_=>(#[]))) hS U
 let oth:∀b o,b≠S->s.heap.get? b=Z o->(s.heap.update S (Vc (λ_=>(#[])))).get? b=Z o :=
  λb o hb e=>(z6 _ _ (Ne.symm hb)).trans e
 let hsz:(s.heap.update S (Vc (λ_=>(#[])))).objs.size=s.heap.objs.size:=(Heap.SameBut.update (a:=S) ..).1
 refine DP (xs:=xs) (ys:=ys) (n:=n) hh D q xp n6 P K xo xn (oth _ _ q hz) (oth _ _ n6 av) (oth _ _ xp az) (V.at λo e=>oth _ o P e) (Q.at λo e=>oth _ o K e) (aK.at λo e=>oth _ o xo e) (aF.at λo e=>oth _ o xn e) en hn .none _ g (λh' tk acc c as hk aD hl hG js=>?_)
 rw[hsz]at hG;exact hR h' tk acc c as (λb o b1 b2 b3 b4 b5 e=>hk b o b1 b2 b3 b4 b5 (oth b o b1 e)) aD hl hG js
def JY{E:B->ϋ->Prop}{Q:B->ϋ->Prop}{TI TO:J}(hh:A.handled=Y)(D:ZipApart z TI TO i1 i2 l1 l2)
  (hz:IsZip s.heap z TI TO .none) {ta tb:B} (P:IsPair s.heap TO ta tb) (V:IsPair s.heap TI (.ref i1) (.ref i2)) (K:aL s.heap t1 i1 l1 0) (q:aL s.heap t2 i2 l2 0) (az:a9 s.heap t1 l1 xs) (av:a9 s.heap t2 l2 ys)
  (en:n=min xs.size ys.size) (hn:n<=mu)
  (hQ:∀h' tk acc c as,(∀b o,b≠z->b≠TO->b≠i1->b≠i2->s.heap.get? b=Z o->h'.get? b=Z o)->h'.get? s.heap.objs.size=Z {cls:=.type "list",dict:=Y,data:=.seq acc c,slots:=#[]}->as.length=n->ZG xs ys (s.heap.objs.size+1) h' as ->
   acc.toList=as.map B.ref->Q (.ref s.heap.objs.size) {s with heap:=h',toks:=tk}):
  wpAny (model prog w) A (call (.type "list") [.ref z]) Q E s:=by
 refine callType_codes (Q₁:=λobj g=>obj=.ref s.heap.objs.size/\g={s with heap:=s.heap.push {cls:=.type "list",data:=.seq #[]}}) PySem.F.called_list (PySem.F.typeCall_list_1 _) PySem.F.entry_list_init
  (code_list_new _ (U,U)) λobj g h₁=>?_
 let(U,U):=h₁;let hS:(s.heap.push {cls:=.type "list",data:=.seq #[]}).get? s.heap.objs.size=Z {cls:=.type "list",data:=.seq #[]}:=p6 _ U;let(aN,g1,_):=K.obj;let(aM,g2,_):=q.obj;let(aK,g3):=az.obj;let(aF,g4):=av.obj;let up:∀b o,s.heap.get? b=Z o->(s.heap.push {cls:=.type "list",data:=.seq #[]}).get? b=Z o:=λb o e=>j3 _ e
 refine((_,hS,U),PySem.F.args_list_init_2 _ _,JX hh D (ui (kS hz)) (ui (kS V)) (ui (kS P)) (ui (kS g1)) (ui (kS g2)) (ui (kS g3)) (ui (kS g4))
  (up _ _ hz) (up _ _ P) (up _ _ V) (K.at λo e=>up _ o e) (q.at λo e=>up _ o e) (az.at λo e=>up _ o e) (av.at λo e=>up _ o e) en hn hS (λh' tk acc c as hk aD hl hG js=>?_))
 rw[Fs]at hG;exact(U,hQ h' tk acc c as (λb o b2 b3 b4 b5 e=>hk b o (ui (kS e)) b2 b3 b4 b5 (up b o e)) aD hl hG js)
end
def E2(h:Do)(m:Nat):Do:={h with objs:=h.objs.extract 0 m}
def mT{m b:Nat}(g:b<m):(E2 h m).get? b=h.get? b:=by
 unfold E2 Heap.get?;let e:(h.objs.extract 0 m)[b]?=h.objs[b]?:=by
  rw[Array.getElem?_extract];by_cases q:b<h.objs.size
  ·rw[if_pos (by lia),Nat.zero_add]
  ·rw[if_neg (by lia),Wk (by lia)]
 simp only[e]
def sP(hm:m<=h.objs.size):(E2 h m).objs.size=m:=by
 unfold E2;rw[Array.size_extract]
 lia
def Np{b:J}(hm:m<=h.objs.size)(e:(E2 h m).get? b=Z u):h.get? b=Z u:=by
 have:=kS e
 rw[sP hm]at this;rw[<- mT this];exact e
def nk(H:Hp):List (J×HO)->Hp
 |[]=>H
 |p::r=>nk (upd H p.1 p.2) r
theorem ni:∀{os:List (J×HO)}{H:Hp}{c:J},c ∉ os.map (·.1)->nk H os c=H c
 |[],_,_,_=>rfl
 |p::r,H,c,h=>by
  show nk (upd H p.1 p.2) r c=H c;rw[ni (λz=>h (j0 _ z)),aj λz=>h (by rw[z];exact jf)]
theorem nj:∀{os:List (J×HO)}{H:Hp}{p:J×HO},(os.map (·.1)).Nodup->p∈os->nk H os p.1=Z p.2
 |q::r,H,p,hn,hp=>by
  let h':=u3.mp hn;show nk (upd H q.1 q.2) r p.1=Z p.2;obtain rfl|hp:=kz.mp hp
  ·rw[ni h'.1,aw]
  ·exact nj h'.2 hp
theorem yg:∀as:List J,Vals (as.map V.ref) (as.map B.ref)
 |[]=>.nil
 |a::r=>.cons U (yg r)
theorem Inv.Io{σ:St}{s:ϋ}:∀{os:List (J×HO)}{H:Hp}{m:Nat},Inv X gV σ H {s with heap:=E2 h' m}->m<=h'.objs.size->(os.map (·.1)).Pairwise (· < ·)->(∀p∈os,m<=p.1/\p.1<h'.objs.size) ->
  (∀p∈os,∀(H2:Hp)(P:Do),P.get? p.1=h'.get? p.1->c7 X.prog X.w H2 P p.1 p.2)->Inv X gV σ (nk H os) {s with heap:=h'}
 |[],H,m,I,hm,_,_,_=>I.kept λb u e=>Np hm e
 |p::r,H,m,I,hm,hp,Q,ho=>by
  let g:=Ya.mp hp;let(b1,b2):=Q p jf;let K:=b2;let V:=by
   refine I.laid (t':=s.toks) (λb u e=>?_) ?_ (ho p jf _ _ (mT (Wn _)))
   ·let lt:=kS e;rw[sP hm]at lt;let z:=zZ lt (xZ b1 (Nat.le_succ _));rw[mT z,<- mT lt];exact e
   ·rw[sP hm];exact b1
  exact Inv.Io (os:=r) V K g.2 (λq hq=>(g.1 q.1 (tE.mpr (q,hq,U)),(Q q (j0 _ hq)).2)) λq hq=>ho q (j0 _ hq)
def qM(K:BT)(tl:TA):TE:=λσ H R=>tl σ H λvs H1=>Q4 λl1 l2 xs ys=>vs=[.ref l1,.ref l2]/\SqT K H1 l1 xs/\SqT K H1 l2 ys/\∀(H2:Hp)(L:J)(ps:List J),H1 L=Y->ps.length=min xs.length ys.length->ps.Nodup->(∀p∈ps,H1 p=Y/\p≠L)->(∀c,c ∉ ps->c≠L->H2 c=H1 c)->H2 L=Z (.lst (ps.map V.ref))->(∀(j:Nat) p x y,ps[j]?=Z p->xs[j]?=Z x->ys[j]?=Z y->H2 p=Z (.tup [x,y]))->R (.ref L) H2
section
variable{a:Ev}{tl:TA}{pos p bZ p2:Pos}
def Be(hg:Gl X "list")(hm:X.mg "list"=Y)(bx:Gl X "zip")(a5:X.mg "zip"=Y)(ha:PA X [a,b] tl)(hs:kh [a,b] X.env=[(ϊ,eval a X.env),(ϊ,eval b X.env)])(aK:AD X b)
  (aF:kh [.Call (.Name "zip" p2) [a,b] [] bZ] X.env=(ϊ,eval (.Call (.Name "zip" p2) [a,b] [] bZ) X.env)::kh [] X.env) (hc:X.calm=O):
  PE X (.Call (.Name "list" p) [.Call (.Name "zip" p2) [a,b] [] bZ] [] pos) (qM X.K tl):=by
 intro gV s σ H R I h;refine Call_ (dQ I hg hm (by kernel_rfl) (PyProof.Rows.callWith_type1 (T:="list") ?_ aF (by rfl)))
 rw[aF];refine Calls.spliced_cons ?_;refine Call_ (dQ I bx a5 (by kernel_rfl) (PyProof.Rows.callWith_type1 (T:="zip") (thn (ha bZ gV s σ H _ I h) λus s1 (vs,H1,P,r1,q1)=>?_) (by rw[hs,aK]) (by rw[aK];rfl)))
 let(l1,l2,xs,ys,e,q2,q3,q):=q1;subst e;let(u1,u2,U,aN,aM):=vals2 r1;cases aN;cases aM;let(EM,av,o1,z1):=P.nB (tp:=O) q2;let(bK,Q,o2,z2):=P.nB (tp:=O) q3;let(b7,e1):=o1.obj;let(b0,e2):=o2.obj;let g1:l1<s1.heap.objs.size:=kS e1;let g2:l2<s1.heap.objs.size:=kS e2;refine jb o1 o2 λh1 hz bL bG bt a7 hk=>?_
 refine Calls.spliced_nil ?_;let nz:s1.heap.objs.size+4<h1.objs.size:=kS hz;let a4:=av.length;let aP:=Q.length;refine JY (t1:=O) (t2:=O) (xs:=EM.toArray) (ys:=bK.toArray) (n:=min xs.length ys.length) (P.ok.hd hc) (jv g1 g2) hz bG bL bt a7 (o1.at λo e=>hk _ o e) (o2.at λo e=>hk _ o e) (by simp[a4,aP]) (by omega) λh' tk acc c as a6 hS hl g js=>?_
 let fr:∀b u,s1.heap.get? b=Z u->h'.get? b=Z u:=λb u e=>by
  let lt:b<s1.heap.objs.size:=kS e;let ne:∀m:Nat,s1.heap.objs.size<=m->b≠m:=λm hm z=>absurd (z▸lt:m<s1.heap.objs.size) (by omega)
  exact a6 b u (ne _ (by omega)) (ne _ (by omega)) (ne _ (m9 _)) (ne _ (by omega)) (hk b u e)
 let I2:=P.kept (t':=tk) λb u e=>by rw[mT (kS e)];exact fr b u e
 let lS:h1.objs.size<h'.objs.size:=kS hS;let keys:(((Prod.mk h1.objs.size (HO.lst (as.map V.ref))) ::(as.zip (xs.zip ys)).map λp=>(Prod.mk p.1 (HO.tup [p.2.1,p.2.2]))).map (·.1))=h1.objs.size::as:=by
  rw[xY,Qo]
  congr 1
  have:((λx:J×HO=>x.1) ∘ λp:J×V×V=>(p.1,HO.tup [p.2.1,p.2.2]))=Prod.fst:=rfl
  rw[this,Ys (by rw[NN];omega)]
 let pw:(h1.objs.size::as).Pairwise (· < ·):=Ya.mpr (λa ha=>g.above a ha,g.rise)
 let at':∀(j:Nat)(p:J×V×V),(as.zip (xs.zip ys))[j]?=Z p->as[j]?=Z p.1/\xs[j]?=Z p.2.1/\ys[j]?=Z p.2.2:=λj p hp=>by
  let h1:=NO.mp hp;let h2:=NO.mp h1.2;exact(h1.1,h2.1,h2.2)
 let I3:=Inv.Io (X:=X) (s:={s1 with toks:=tk}) (m:=s1.heap.objs.size) (h':=h') I2 (by omega) (by rw[keys];exact pw) (λp hp=>?_) (λp hp H2 hh e=>?_)
 ·let nd:(h1.objs.size::as).Nodup:=pw.imp λh=>ui h
  let aD:=u3.mp nd;refine(.ref h1.objs.size,_,I3,U,q _ h1.objs.size as (P.hok.fresh (by omega)) hl aD.2 (λp hp=>(P.hok.fresh ?_,λz=>aD.1 (z▸hp))) (λc c1 c2=>?_) ?_ (λj p x y hp hx hy=>?_))
  ·have:=g.above p hp
   exact xZ (show s1.heap.objs.size<=h1.objs.size+1 by omega) this
  ·exact ni (by rw[keys];exact λz=>(kz.mp z).elim c2 c1)
  ·exact nj (by rw[keys];exact nd) jf
  ·let hz:(as.zip (xs.zip ys))[j]?=Z (p,x,y):=NO.mpr (hp,NO.mpr (hx,hy));exact nj (p:=(p,HO.tup [x,y])) (by rw[keys];exact nd) (j0 _ (tE.mpr (_,px hz,U)))
 ·have:p.1∈h1.objs.size::as:=by rw[<- keys];exact tE.mpr (p,hp,U)
  obtain z|z:=kz.mp this
  ·rw[z];exact(by omega,lS)
  ·let ab:=g.above p.1 z;exact(xZ (show s1.heap.objs.size<=h1.objs.size+1 by omega) ab,g.there z)
 ·obtain rfl|hp:=kz.mp hp
  ·refine(by rw[ej];omega,acc.toList,c,by rw[js];exact yg as,?_)
   rw[e];exact hS
  ·let(t,ht,U):=tE.mp hp;let(j,hj):=WM ht;let(a1,a2,a3):=at' j t hj;let(x,y,x1,y1,pr):=g.pairs j t.1 a1;let(u1,w1,r1):=av.get a2;let(u2,w2,r2):=Q.get a3;rw[WJ,w1]at x1;cases x1;rw[WJ,w2]at y1;cases y1;let az:hh.get? t.1=_:=e.trans pr;exact(by show 2<=mu;decide,[x,y],.cons r1 (.cons r2 .nil),((_,az,U,_,U),_,az,U))
end
section
variable{w:Cl}{s:ϋ}
theorem EU{i:Nat}{x old:B}{Q:Option B->ϋ->Prop}
  (he:IsEnum s.heap e it i old) (hit:aL s.heap tp it l i) (hl:a9 s.heap tp l items) (hx:items[i]?=Z x) (K:e≠it)
  (hQ:∀h',IsEnumOut h' e it ((i:Int)+1) x s.heap.objs.size->aL h' tp it l (i+1)->h'.get? s.heap.objs.size=Z {cls:=.type "tuple",data:=.seq #[.int i s.toks,x]}->h'.objs.size=s.heap.objs.size+1 ->
   (∀b o,b≠e->b≠it->s.heap.get? b=Z o->h'.get? b=Z o)->Q (Z (.ref s.heap.objs.size)) {s with heap:=h',toks:=s.toks+1}):wpAny (model prog w) A (pyNext (.ref e)) Q E s:=by
 let hT:s.TypeIs (.ref e) "enumerate":=(_,he,U);let(hp,g,d,tk,os):=s;refine dD (Wf (wpAny_callSpecial?_slot hT F.slot_enumerate_next (Es F.slot_enumerate_next hT F.entry_enumerate_next ?_ (F.args_enumerate_next_1 _))));show wpAny _ _ (field (.ref e) 2 >>= _) _ _ _;refine dD (wpAny_field he U U ?_);refine dD (next_item hit hl hx λh1 Vi az=>?_)
 let aD:=(az.2 e K).trans he;refine dD (wpAny_field aD U U ?_);refine dD (wpAny_field aD U U ?_);refine dD (wpAny_mkInt ?_);refine dD (wpAny_setField_rec aD (by simp) λh2 bG av=>?_)
 refine dD (wpAny_setField_rec bG (by simp) λh3 bx V=>?_)
 show wpAny _ _ (newTuple [.int i tk,x] >>= _) _ _ (h3,g,d,tk+1,os);refine dD (wpAny_newTuple ?_);let P:IsEnum (h3.push {cls:=.type "tuple",data:=.seq #[.int i tk,x]}) e it ((i)+1) old:=j3 _ bx;let hsz:h3.objs.size=hp.objs.size:=by rw[V.1,av.1,az.1]
 let a5:=kS he;let aM:(h3.push {cls:=.type "tuple",data:=.seq #[.int i tk,x]}).get? hp.objs.size=Z {cls:=.type "tuple",data:=.seq #[.int i tk,x]}:=by rw[<- hsz];exact p6 _ U
 let aK:(h3.push {cls:=.type "tuple",data:=.seq #[.int i tk,x]}).objs.size=hp.objs.size+1:=by rw[Fs,hsz]
 let a4:∀b o,b≠e->b≠it->hp.get? b=Z o->(h3.push {cls:=.type "tuple",data:=.seq #[.int i tk,x]}).get? b=Z o:=λb o q aF hb=>j3 _ (V.extBut b o q (av.extBut b o q (az.extBut b o aF hb)))
 let Tv:aL (h3.push {cls:=.type "tuple",data:=.seq #[.int i tk,x]}) tp it l (i+1):=Vi.at λo eo=>j3 _ (V.extBut _ o K.symm (av.extBut _ o K.symm eo))
 generalize h3.push {cls:=.type "tuple",data:=.seq #[.int i tk,x]}=h4 at P aM aK a4 Tv
 rw[hsz];refine dD ?_;refine dD (wpAny_field P U U (kL ?_));refine dD (Wb (dD (wpAny_field P U (x:=old) U (dD (wpAny_setField_rec P (by simp) λh5 bt a3=>?_)))))
 refine dD ?_;refine dD (wpAny_setField_rec bt (by simp) λh6 a7 aP=>?_)
 refine wpAny_setField_rec a7 (by simp) λh7 a6 aN=>?_
 let up:∀c o,c≠e->h4.get? c=Z o->h7.get? c=Z o:=λc o hc z=>aN.extBut _ _ hc (aP.extBut _ _ hc (a3.extBut _ _ hc z))
 refine dD (wpAny_letGo (kL (_,U,kL (hQ h7 a6 (Tv.at λo eo=>up _ o K.symm eo) (up _ _ (QX a5) aM) ?_ λb o q aF hb=>up b o q (a4 b o q aF hb)))))
 rw[aN.1,aP.1,a3.1,aK]
theorem Ja{i:Nat}{old:B}{Q:Option B->ϋ->Prop}(z:A.handled=Y)
  (he:IsEnum s.heap e it i old) (hit:aL s.heap tp it l i) (hl:a9 s.heap tp l items) (hx:items[i]?=Y) (P:∀h',XR it s.heap h'->Q Y {s with heap:=h'}):wpAny (model prog w) A (pyNext (.ref e)) Q E s:=by
 let hT:s.TypeIs (.ref e) "enumerate":=(_,he,U);refine dD (Wf (wpAny_callSpecial?_slot hT F.slot_enumerate_next (Es F.slot_enumerate_next hT F.entry_enumerate_next ?_ (F.args_enumerate_next_1 _))));show wpAny _ _ (field (.ref e) 2 >>= _) _ _ _;refine dD (wpAny_field he U U ?_);refine dD (next_end z hit hl hx λh' x q g=>?_)
 let(o,ho,K):=g;refine dD (V4 (o,ho,K) isSubtype_stop ?_);exact kL (P _ q)
abbrev eH1(tp:Bool)(h:Do)(l:J):Do:=h.push {cls:=.type (itc tp),data:=.fields #[.ref l,.int 0 0]}
abbrev eH2(tp:Bool)(h:Do)(l:J):Do:=(eH1 tp h l).push {cls:=.type "enumerate",data:=.fields #[.none,.bool ϊ,.ref h.objs.size,rawInt 0,.none,.none]}
def sg(tp:Bool)(l:J)(xs:Array B):
  Meets (Builtin.«enumerate.__new__» ([.type "enumerate",.ref l],[])) (λ_ R s=>a9 s.heap tp l xs/\R (.ok (.ret (.ref (eH1 tp s.heap l).objs.size))) {s with heap:=eH2 tp s.heap l}) :=
 .of_wp λprog w A R s h=>by
  let(hl,h):=h;let q:=sub_enumerate;let g:=hl
  wp_walk
  refine wpAny_stack_any λst=>kL ?_
  split
  ·rename_i c _ _ _ _ _
   cases(c==B.type "enumerate")
   ·wp_walk using jL g
    exact(_,U,h)
   ·wp_walk using jL g
    exact(_,U,h)
  ·wp_walk using jL g
   exact(_,U,h)
theorem uB(hl:a9 s.heap tp l xs)
  (h:∀h',IsEnum h' (s.heap.objs.size+1) s.heap.objs.size 0 .none->aL h' tp s.heap.objs.size l 0->(∀b o,s.heap.get? b=Z o->h'.get? b=Z o)->Q (.ref (s.heap.objs.size+1)) {s with heap:=h'}):
  wpAny (model prog w) A (call (.type "enumerate") [.ref l]) Q E s:=by
 refine callType_new F.called_enumerate (by decide) (F.typeCall_enumerate_1 _) (F.newCall_enumerate_1 _) (λobj=>F.args_object_init_2 obj _) F.entry_enumerate_new (sg tp l xs) (hl,?_)
 let g:(eH1 tp s.heap l).objs.size=s.heap.objs.size+1:=Fs ..;let g2:(eH2 tp s.heap l).get? (eH1 tp s.heap l).objs.size=Z _:=p6 _ U;let g1:(eH2 tp s.heap l).get? s.heap.objs.size=Z _:=j3 _ (p6 _ U);rw[g]at g2 ⊢;exact((_,g2,U),h _ g2 (jz g1) λc o x=>j3 _ (j3 _ x))
end
def Ite(K:BT)(tp:Bool)(l:J):It :=
 (λi H=>∃xs x,SqB K tp H l xs/\xs[i]?=Z x,
   λi H v H'=>∃(p:J)(x:V),H p=Y/\v=.ref p/\H'=upd H p (.tup [.int i,x])/\∀xs,SqB K tp H l xs->xs[i]?=Z x,
   λi H=>∃xs,SqB K tp H l xs/\xs.length<=i)
theorem DU{K:BT}(e it l:J)(Q:e≠it):
  Turn P w K (.Tuple elts x1 pos) (Ite K tp l) [e,it] e (λi h=>(∃old,IsEnum h e it i old)/\aL h tp it l i) where
 mem:=by simp
 obj:=by
  rintro i h ⟨⟨old,h1⟩,h2⟩ c q
  simp only[kz,B9,or_false]at q;obtain rfl|rfl:=q
  ·exact(_,h1,λv e=>by cases e)
  ·exact h2.obj
 keep:=by
  rintro i h h' ⟨⟨old,h1⟩,h2⟩ k
  exact((old,k e (by simp) _ h1),h2.at λo z=>k it (by simp) o z)
 item:=by
  intro X hP hw hK q i gV s σ H E I hf st hg;subst hP hw hK;let((old,h1),h2):=st;let(xs,x,q1,e1):=hg;let(its,rv,o1,z1):=I.nB q1;let(u1,aD,az):=rv.get e1;refine EU h1 h2 o1 (x:=u1) (by simpa using aD) Q λh' aF aM aN Va aK=>(_,U,(wpAny_letOwnedTupleGo_enum aF λav Vp Qu=>?_))
  let hn:=I.hok.fresh (m9 s.heap.objs.size);let le:=kS h1;let(oi,aP,_):=h2.obj;let li:=kS aP;let P2:∀b ∈ [e,it],b≠s.heap.objs.size:=λb g=>by
   simp only[kz,B9,or_false]at g;obtain rfl|rfl:=g
   ·exact ui le
   ·exact ui li
  let up:∀c o,c≠e->h'.get? c=Z o->av.get? c=Z o:=λc o q z=>Qu.extBut _ _ q z
  let I1:Inv X gV σ (upd H s.heap.objs.size (.tup [.int i,x])) {s with heap:=s.heap.push {cls:=.type "tuple",data:=.seq #[.int i s.toks,u1]},toks:=s.toks+1} :=
   I.laid (λb u z=>j3 _ z) (m9 _) (by show 2<=mu;decide,[.int i s.toks,u1],.cons (_,U) (.cons az .nil),((_,p6 _ U,U,_,U),_,p6 _ U,U))
  let V:∀b ∈ [e,it],tJ X gV (upd H s.heap.objs.size (.tup [.int i,x])) b:=λb g=>by
   let(f0,r):=hf b g;exact(by rw[aj (P2 b g)];exact f0,r)
  let I2:=by
   refine I1.pQ (h':=av) (t':=s.toks+1) (λb o g z=>?_) V
   simp only[kz,B9,or_false,not_or]at g;let(b1,b2):=g;obtain⟨rfl,rfl⟩|z':=XS z
   ·exact up _ _ b1 aN
   ·exact up _ _ b1 (aK b o b1 b2 z')
  exact(.ref s.heap.objs.size,upd H s.heap.objs.size (.tup [.int i,x]),I2,U,(_,x,hn,U,U,λzs hz=>by rw[I.qX hz q1];exact e1),(((_,by simpa using Vp),aM.at λo z=>up _ _ Q.symm z)),λb g=>(V b g).1)
 done:=by
  intro X hP hw hK q i gV s σ H E I hf st hg;subst hP hw hK;let((old,h1),h2):=st;let(xs,q1,sG):=hg;let(its,rv,o1,z1):=I.nB q1;let g1:=rv.length;refine Ja (I.ok.hd q) h1 h2 o1 (by simp;lia) λh' k=>(U,I.pQ (λb o g z=>?_) hf)
  simp only[kz,B9,or_false,not_or]at g;exact k b o g.2 z
 self:=λ_ _ _ _ _ st h=>let((_,z),_):=st;wpAny_pyIter_enum z h
def zw(K:BT)(tp:Bool)(ta:TA):TI:=λσ H R=>ta σ H λvs H1=>∃l,vs=[.ref l]/\(∃xs,SqB K tp H1 l xs)/\R (Ite K tp l) H1
def LQ{a:Ev}(hg:Gl X "enumerate")(hm:X.mg "enumerate"=Y)(gw:bootBuiltins "enumerate"=Z (.type "enumerate"))(ha:PA X [a] ta)(hs:AD X a:=by rfl):
  PI X (.Tuple elts x1 pos') (.Call (.Name "enumerate" p) [a] [] pos) (zw X.K tp ta):=by
 intro gV s σ H R I h;refine Call_ (dQ I hg hm gw (PyProof.Rows.callWith_type1 (thn (ha pos gV s σ H _ I h) λus s1 (vs,H1,P,r1,q1)=>?_) hs U))
 let(l,e,(xs,q2),q):=q1;subst e;let(u1,U,Q):=vals1 r1;cases Q;let(its,rv,o1,z1):=P.nB q2;refine uB o1 λh' he hi hk=>wpAny_pyIter_enum he ?_
 refine(_,[s1.heap.objs.size+1,s1.heap.objs.size],_,_,H1,U,P.kept hk,DU _ _ l (λz=>absurd (show @Eq Nat _ _ from z) (by lia)),((_,he),hi),λc V=>?_,q)
 let g:s1.heap.objs.size<=c:=by
  simp only[kz,B9,or_false]at V;obtain rfl|rfl:=V <;> first|exact Nat.le_add_right _ _|exact m9 _
 exact P.IV g (P.hok.fresh g)
end L2
namespace PySem
open Sem (wp)
section
variable{prog:Da}{w:Cl}{K:Type}[DecidableEq K]{knd:KeyKind prog w K}{A:Db}{E:B->ϋ->Prop}{s:ϋ}
def Pairs.at_(h:Pairs knd es kvs):∀{i:Nat}{e:DictEntry},es[i]?=Z e->∃kv,kvs[i]?=Z kv/\knd.is kv.1 e.key=O/\e.val=kv.2:=by
 induction h with
 |nil=>intro i e h;simp at h
 |cons h1 h2 _ g =>
  intro i e he;cases i with
  |zero=>simp at he;subst he;exact(_,U,h1,h2)
  |succ i=>simpa using g (by simpa using he)
def zC{kvs:List (K×B)}:∀{i:Nat}{kv:K×B},(kvs.map (·.1)).Nodup->kvs[i]?=Z kv->(kvs.findIdx? λp=>decide (p.1=kv.1))=Z i:=by
 induction kvs with
 |nil=>intro i kv _ h;simp at h
 |cons p r q =>
  intro i kv hn h;let g:=u3.mp hn;cases i with
  |zero=>simp at h;subst h;simp[Yb]
  |succ i =>
   let h:r[i]?=Z kv:=by simpa using h
   let ne:¬ p.1=kv.1:=λz=>g.1 (tE.mpr (kv,px h,z.symm))
   rw[Yb,decide_eq_false ne,q g.2 h];rfl
def AA{a b:J}{kvs kvs':List (K×B)}{Q:Bool->ϋ->Prop}(a3:(a==sysModules)=ϊ)(aP:(b==sysModules)=ϊ)(ha:s.heap.DictOf knd a kvs)(hb:s.heap.DictOf knd b kvs')(hk:kvs.map (·.1)=kvs'.map (·.1))
  (hv:∀(i:Nat)(p p':K×B),kvs[i]?=Z p->kvs'[i]?=Z p'->∀Q':Bool->ϋ->Prop,Q' O s->wpAny (model prog w) A (eqBool p.2 p'.2) Q' E s) (hQ:Q O s):wpAny (model prog w) A (Builtin.Dict.samePairs nm a b) Q E s:=by
 let(oa,g,b7,z,bL,P,a6,aK,bG):=ha;let(ob,eb,b0,av,bK,aD,a5,V,a4):=hb;let la:g.size=kvs.length:=by rw[<- aK.length];simp
 let lb:eb.size=kvs'.length:=by rw[<- V.length];simp
 let lk:kvs.length=kvs'.length:=by have:=congrArg V3 hk;simpa using this
 unfold Builtin.Dict.samePairs Builtin.Dict.showsAll;rw[if_neg (by rw[a3];exact qE),if_neg (by rw[aP];exact qE)]
 refine dD (kL (dD (kL ?_)));refine dD (wpAny_dictEntries z P ?_);refine dD (wpAny_dictEntries av aD ?_);rw[if_neg (by simp;omega)]
 refine dD (wpAny_dictEpoch z P ?_);refine dD ?_;rw[Std.Legacy.Range.forIn_eq_forIn_range'];simp only[Std.Legacy.Range.size,Nat.sub_zero,Nat.add_sub_cancel,Nat.div_one];refine wpAny_forIn_list _ (λrest st s'=>∃i,st=(Y,())/\s'=s/\rest=List.range' i (g.size - i)/\i<=g.size) _ ?_ ?_ _ _ (0,U,U,by simp,JG _)
 ·rintro x rest st s' ⟨i,rfl,rfl,hr,hi⟩
  let az:i<g.size:=by
   obtain h|h:=Nat.lt_or_ge i g.size
   ·exact h
   ·rw[Nat.sub_eq_zero_of_le h]at hr;simp at hr
  obtain⟨rfl,Tq⟩:x=i/\rest=List.range' (i+1) (g.size - (i+1)):=by
   let e:g.size - i=(g.size - (i+1))+1:=by omega
   rw[e,List.range'_succ]at hr;injection hr with h1 h2
   exact(h1,h2)
  refine dD (wpAny_dictEntries z P ?_);let hx:g[x]?=Z g[x]:=RK az;rw[hx];let(kv,aM,aN,U9):=aK.at_ (i:=x) (e:=g[x]) (by simpa using hx)
  obtain⟨q,M7⟩:∃q,kvs'[x]?=Z q:=(kvs'[x]'(by omega),by simp)
  let ek:kv.1=q.1:=by
   let h1:(kvs.map (·.1))[x]?=Z kv.1:=by rw[j5,aM];rfl
   let h2:(kvs'.map (·.1))[x]?=Z q.1:=by rw[j5,M7];rfl
   rw[hk,h2]at h1;exact(Option.some.inj h1).symm
  let(k0,a7,bt):=a6 g[x] (Array.getElem_mem az);let e0:k0=kv.1:=by
   have:=KeyKind.is_eq_decide aN k0
   rw[a7]at this;exact of_decide_eq_true this.symm
  refine dD (Fq ?_);rw[bt,e0];refine dD (wpAny_dictFind_of aN av aD a5 ?_);let Vk:(eb.findIdx? λe=>knd.is kv.1 e.key)=Z x:=by
   let h1:=V.findIdx kv.1;rw[ek,zC a4 M7]at h1;rw[ek,<- h1];let⟨l⟩:=eb;simp
  rw[Vk];refine dD (wpAny_dictEntries av aD ?_);let IF:x<eb.size:=by omega
  let aF:eb[x]?=Z eb[x]:=RK IF;rw[aF];let(bx,Tt,_,Ti):=V.at_ (i:=x) (e:=eb[x]) (by simpa using aF)
  rw[M7]at Tt;cases Tt;refine Fq ?_;rw[U9,Ti];refine hv x kv q aM M7 _ ?_;rw[if_neg (by decide)]
  refine dD (wpAny_dictEpoch z P ?_);rw[if_neg (by simp)]
  exact kL (x+1,U,U,Tq,az)
 ·rintro st s' ⟨i,rfl,rfl,hr,hi⟩
  exact kL hQ
end
def Gr:mroOf (.type "reversed")=pure [.type "reversed",.type "object"]:=by kernel_rfl
def OX:typeLookup (.type "reversed") "__new__"=pure (Z (.builtin "reversed.__new__")):=by kernel_rfl
def wc:Slot "reversed" "__init__" "object.__init__" :=
 .of (owner:="object") (n:="__init__") (by kernel_rfl) (by decide +kernel) (by decide +kernel) (by decide +kernel) (by exact .inl (by decide +kernel)) (by kernel_rfl)
def Gp:isSubtype (.type "reversed") (.type "reversed")=pure true:=by kernel_rfl
def Ea:TypeCalled "reversed" "reversed.__new__" "object.__init__" :=
 (by decide +kernel,by decide +kernel,(_,_,Gr),madeBy_type Gr OX (by decide +kernel),by decide +kernel,by kernel_rfl,wc)
def yt(a:B):checkTypeCall "reversed" ([a],[])=pure ():=by kernel_rfl
def AL(a:B):checkBuiltinCall "reversed.__new__" ([.type "reversed",a],[])=pure ():=by kernel_rfl
def we:entryFor table "reversed.__new__"=Z Builtin.«reversed.__new__»:=entryFor_of_tree (by kernel_rfl)
def Gq:Manifest.owners.lookup (String.ofList ['d','e','s','r','e','v','e','r'].reverse)=Z Manifest.sig_reversed:=by kernel_rfl
def d5:Slot "reversed" "__next__" "reversed.__next__" :=
 .of (owner:="reversed") (n:="__next__") (by kernel_rfl) (by decide +kernel) (by decide +kernel) (by decide +kernel) (by exact .inl (by decide +kernel)) (by kernel_rfl)
def kM:entryFor table "reversed.__next__"=Z Builtin.«reversed.__next__»:=entryFor_of_tree (by kernel_rfl)
def me(a:B):argsOk "reversed.__next__" ([a],[]):=by
 kernel_rfl
def l9:Slot "reversed" "__iter__" "reversed.__iter__" :=
 .of (owner:="reversed") (n:="__iter__") (by kernel_rfl) (by decide +kernel) (by decide +kernel) (by decide +kernel) (by exact .inl (by decide +kernel)) (by kernel_rfl)
def wg(a:B):argsOk "reversed.__iter__" ([a],[]):=by
 unfold argsOk;rw[signature?_of (n:=['_','_','r','e','t','i','_','_']) (by kernel_rfl) Gq]
 kernel_rfl
def tZ:entryFor table "reversed.__iter__"=Z Builtin.«dict_keyiterator.__iter__» :=
 entryFor_alias (id':="dict_keyiterator.__iter__") (by kernel_rfl) (by rfl) (by decide +kernel) (by kernel_rfl)
def iL:Slot "reversed" "__length_hint__" "reversed.__length_hint__" :=
 .of (owner:="reversed") (n:="__length_hint__") (by kernel_rfl) (by decide +kernel) (by decide +kernel) (by decide +kernel) (by exact .inr (by decide +kernel)) (by kernel_rfl)
def t5:entryFor table "reversed.__length_hint__"=Z Builtin.«reversed.__length_hint__»:=entryFor_of_tree (by kernel_rfl)
def wj(a:B):argsOk "reversed.__length_hint__" ([a],[]):=by
 kernel_rfl
def D9:typeLookup (.type "reversed") "__len__"=pure none:=by kernel_rfl
def An:typeLookup (.type "tuple") "__reversed__"=pure none:=by kernel_rfl
def vK:isSubtype (.type "tuple") (.type "dict")=pure false:=by kernel_rfl
section
variable{prog:Da}{w:Cl}{A:Db}{E:B->ϋ->Prop}{s:ϋ}
def NY(l:J)(i:Int):Obj:={cls:=.type "reversed",data:=.fields #[.ref l,rawInt i]}
abbrev Fh(h:Do)(a l:J)(i:Int):Prop:=h.get? a=Z {cls:=.type "reversed",dict:=Y,data:=.fields #[.ref l,rawInt i],slots:=#[]}
theorem Gs(l:J)(items:Array B)(z:(items.size:Int)<2 ^ 63):
  Meets (Builtin.«reversed.__new__» ([.type "reversed",.ref l],[])) (λ_ R s=>s.heap.IsTuple l items /\
   R (.ok (.ret (.ref s.heap.objs.size))) {s with heap:=s.heap.push (NY l ((items.size:Int) - 1)),toks:=s.toks+1+1}) :=
 .of_wp λprog w A R s h=>by
  let(hp,g,d,tk,os):=s;let(hl,h):=h;let hT:((hp,g,d,tk,os):ϋ).TypeIs (.ref l) "tuple":=by let(o,ho,q,_):=id hl;exact(o,ho,q)
  refine dD (WB (a:=(B.type "reversed",[B.ref l])) ?_ ?_)
  ·unfold Builtin.SmallTypes.newClass;simp only[isType,Gp,pure_bind,Bool.not_true,WU,if_false]
  refine dD (WB (a:=()) (by first|rfl|kernel_rfl) (dD (WB (a:=()) (by first|rfl|kernel_rfl) (dD (VP hT An (dD ?_))))))
  refine dD (V4 hT vK ?_);refine dD (VP hT F.slot_tuple_getitem.lookup ?_);show wpAny _ _ (if(_:List String).contains "tuple.__getitem__"=O then _ else _) _ _ _
  refine kL ?_;refine dD (PyProof.Rows.len_tuple hl (by omega) ?_)
  refine dD (WB U ?_);refine dD ?_;unfold Builtin.SmallTypes.newRecord;exact Wh (kL (_,U,h))
theorem KH{items:Array B}{Q:B->ϋ->Prop}(g:(items.size:Int)<2 ^ 63)(hl:s.heap.IsTuple l items)
  (h:Q (.ref s.heap.objs.size) {s with heap:=s.heap.push (NY l ((items.size:Int) - 1)),toks:=s.toks+1+1}):wpAny (model prog w) A (call (.type "reversed") [.ref l]) Q E s :=
 callType_new Ea (by decide) (yt _) (AL _) (λobj=>F.args_object_init_2 obj _) we (Gs l items g) (hl,(_,p6 _ U,U),h)
theorem KD{i:Nat}{items:Array B}{x:B}{Q:Option B->ϋ->Prop}(uy:(items.size:Int)<2 ^ 63)(hr:Fh s.heap a l (i:Int))(hl:s.heap.IsTuple l items)(hx:items[i]?=Z x)
  (V:∀h',Fh h' a l ((i:Int) - 1)->WC a s.heap h'->Q (Z x) {s with heap:=h',toks:=s.toks+1}):wpAny (model prog w) A (pyNext (.ref a)) Q E s:=by
 let hT:s.TypeIs (.ref a) "reversed":=(_,hr,U);let z:s.TypeIs (.ref l) "tuple":=by let(o,ho,P,_):=id hl;exact(o,ho,P)
 let K:=(Array.getElem?_eq_some_iff.mp hx).1;refine dD (Wf (wpAny_callSpecial?_slot hT d5 (Es d5 hT kM ?_ (me _))));show wpAny _ _ (field (.ref a) 0 >>= _) _ _ _;refine dD (wpAny_field hr U U ?_);refine dD (wpAny_field hr U U ?_);show wpAny _ _ (if(i:Int)<0 then _ else _) _ _ s
 refine dD (VP z F.slot_tuple_getitem.lookup ?_);refine dD (wpAny_mkInt (dD (Wf (PyProof.Rows.getItem_tuple (j:=i) (x:=x) hl (by omega) (by omega) ?_ hx ?_))))
 ·unfold seqIndex?;simp
  lia
 refine dD (wpAny_field hr U U ?_);exact dD (wpAny_setField_rec hr (by simp) λh' q g=>(kL (_,U,kL (V h' q g))))
def OY{Q:Option B->ϋ->Prop}(V:A.handled=Y)(hr:Fh s.heap a l (-1))(hQ:∀h',XR a s.heap h'->Q Y {s with heap:=h'}):wpAny (model prog w) A (pyNext (.ref a)) Q E s:=by
 let hT:s.TypeIs (.ref a) "reversed":=(_,hr,U);refine dD (Wf (wpAny_callSpecial?_slot hT d5 (Es d5 hT kM ?_ (me _))));show wpAny _ _ (field (.ref a) 0 >>= _) _ _ _;refine dD (wpAny_field hr U (x:=.ref l) U ?_);refine dD (wpAny_field hr U U ?_);show wpAny _ _ (if(-1)<0 then _ else _) _ _ s
 refine dD (Wb (dD ?_));refine dD (wpAny_setField_rec hr (by simp) λh1 z q=>?_)
 refine wpAny_setField_rec z (by simp) λh2 P g=>(dD ?_)
 refine dD ?_;refine dD (m:=firstArgMember _ _) (WB (by rfl) ?_)
 refine Wh ?_ (by size_fits)
 refine dD (wpAny_handled ?_);rw[V];refine dD (kL (wpAny_throw ?_));refine dD (V4 (_,p6 _ U,U) isSubtype_stop ?_);exact kL (hQ _ (λb o K e=>j3 _ (j3 _ (g.extBut b o K (q.extBut b o K e)))))
def KC{Q:B->ϋ->Prop}(hr:Fh s.heap a l i)(h:Q (.ref a) s):wpAny (model prog w) A (pyIter (.ref a)) Q E s:=by
 let hT:s.TypeIs (.ref a) "reversed":=(_,hr,U);refine wpAny_pyIter_slot hT l9 (Es l9 hT tZ ?_ (wg _));exact kL (_,U,"reversed",_,hT,d5.lookup,h)
end
section
variable{prog:Da}{w:Cl}{A:Db}{E:B->ϋ->Prop}{s:ϋ}
def KG{items:Array B}{i:Nat}{Q:Bool->ϋ->Prop}(V:items.size<=mu)(P:(items.size:Int)<2 ^ 63)(hi:i<=items.size)(hr:Fh s.heap I l ((i:Int) - 1))(hl:s.heap.IsTuple l items)(z:∀b tk,s.toks<=tk->Q b {s with toks:=tk}):
  wpAny (model prog w) A (Builtin.List.listLengthHint (.ref I)) Q E s:=by
 let hT:s.TypeIs (.ref I) "reversed":=(_,hr,U);refine dD (VP hT D9 ?_);refine dD (VP hT iL.lookup ?_)
 generalize g:("reversed.__length_hint__")=q
 subst g;refine dD (V4 hT Gp ?_);refine dD (Wb (dD (WB (iL.bind _) (dD (Wf (Es iL hT t5 ?_ (wj _)))))));show wpAny _ _ (field (.ref I) 0 >>= _) _ _ _;refine dD (wpAny_field hr U U ?_);refine dD (PyProof.Rows.len_tuple hl (by omega) ?_)
 show wpAny _ _ (field (.ref I) 1 >>= _) _ _ _;refine dD (wpAny_field hr U U ?_);show wpAny _ _ (if(items.size:Int)<(i:Int) - 1+1 then _ else _) _ _ _
 rw[if_neg (by omega)]
 refine dD (wpAny_mkInt (kL (_,U,?_)));refine dD (WB U ?_);let f1:Builtin.List.listFitsIndex ((i:Int) - 1+1)=true:=by unfold Builtin.List.listFitsIndex;simp;omega
 let f2:¬((i:Int) - 1+1)<0:=by omega
 let K:Builtin.List.listTooLong ((i:Int) - 1+1).toNat=false:=by unfold Builtin.List.listTooLong;simp;omega
 dsimp only;rw[if_neg (by rw[f1];decide),if_neg f2,if_neg (by rw[K];decide)]
 exact kL (z _ _ (by omega))
def Walks.rv(hh:A.handled=Y)(I l:J)(K:l≠I)(items:Array B)(uy:(items.size:Int)<2 ^ 63):
  Walks prog w A I [I,l] [I] items.size (λi v=>items[items.size - 1 - i]?=Z v) (λi h=>i<=items.size/\Fh h I l (((items.size - i:Nat):Int) - 1)/\h.IsTuple l items) where
 sub:=λb g=>by simp at g;simp[g]
 frame:=λ_ _ _ x hk=>(x.1,hk I (by simp) _ x.2.1,let(o,ho,r):=x.2.2;(o,hk l (by simp) o ho,r))
 item:=λi s Q E hi x z=>by
  let e:((items.size - i:Nat):Int) - 1=((items.size - 1 - i:Nat)):=by lia
  let hit:=x.2.1;rw[e]at hit;let hx:items[items.size - 1 - i]?=Z (items[items.size - 1 - i]'(by omega)):=RK (by omega)
  refine KD uy hit x.2.2 hx λh' Tw q=>?_
  let e2:((items.size - 1 - i:Nat):Int) - 1=((items.size - (i+1):Nat)) - 1:=by lia
  rw[e2]at Tw;exact z _ h' _ hx (hi,Tw,let(o,ho,r):=x.2.2;(o,q.extBut _ _ K ho,r)) λb o g V=>q.extBut b o (λh=>g (by simp[h])) V
 done:=λs Q E x z=>by
  let hit:=x.2.1;rw[WD]at hit;exact OY hh hit λh' P=>z h' s.toks λb o g V=>P b o (λh=>g (by simp[h])) V
 self:=λ_ _ _ _ x z=>KC x.2.1 z
end
end PySem
namespace L2
open PySem PySem.Spec PyProof.Rows
def nt(K:BT)(te:TE):TE:=λσ H Q=>te σ H λx H1=>∃l ys,x=.ref l/\SqT K H1 l ys/\∀q,H1 q=Y->Q (.ref q) (upd H1 q (.lst ys.reverse))
variable{X:Cx}{e:Ev}{te:TE}
def yT{p1 p2 bZ pos:Pos}(hc:X.calm=O)(aF:Gl X "list")(az:X.mg "list"=Y)(aD:Gl X "reversed")(av:X.mg "reversed"=Y)(he:PE X e te)
  (g:AD X e:=by rfl) (V:kh [.Call (.Name "reversed" p2) [e] [] bZ] X.env=[(ϊ,eval (.Call (.Name "reversed" p2) [e] [] bZ) X.env)]:=by rfl):
  PE X (.Call (.Name "list" p1) [.Call (.Name "reversed" p2) [e] [] bZ] [] pos) (nt X.K te):=by
 left;refine TH (dQ I aF az boot_list (PyProof.Rows.callWith_type1 ?_ V U));refine Calls.spliced_cons (TH (dQ I aD av boot_reversed (PyProof.Rows.callWith_type1 ?_ g U)));rw[g];refine Calls.spliced_cons (thn (he gV s σ H _ I h) λu s1 aK=>?_)
 let(x,H1,I1,r1,l,ys,ex,hl,q):=aK;subst ex;cases r1;refine Calls.spliced_nil ?_;let(its,rv,pl,hz):=I1.tuple hl;let hlen:=rv.length;let aM:=iY;let P:(its.toArray.size:Int)<2 ^ 63:=by rw[pM];lia
 let z:l<s1.heap.objs.size:=by let(_,e,_):=id pl;exact kS e
 refine KH P pl (Calls.spliced_nil ?_);let W:=Walks.rv (prog:=X.prog) (w:=X.w) (A:=X.A.in1.in1) (I.ok.hd hc) s1.heap.objs.size l (ui z) its.toArray P;exact ve I1 z W (λi s' st=>(_,st.2.1,U)) (by decide) (by decide) (λs' Q' E' st hq=>KG (by rw[pM];omega) P (m9 _) (by simpa using st.2.1) st.2.2 hq)
  (JG _,by exact p6 _ U,let(o,ho,r):=pl;(o,j3 _ ho,r)) (λacc h=>yf (by simpa using rv) h) (by rw[VT];exact hz) (by rw[pM];omega) q
def Paired.at_{r:α->β->Prop}{xs:List α}(h:Paired r xs ys):∀{i:Nat}{y:β},ys[i]?=Z y->∃x,xs[i]?=Z x/\r x y:=by
 induction h with
 |nil=>intro i y h;simp at h
 |cons h1 _ q =>
  intro i y g;cases i with
  |zero=>simp at g;subst g;exact(_,U,h1)
  |succ i=>simpa using q (by simpa using g)
variable{kvs:List (Key×V)}
section
variable{gV:List (J×Obj)}{σ:St}{H:Hp}{s:ϋ}{a:J}{u u':HO}
def Inv.Cj(I:Inv X gV σ H s)(ha:H a=Z u)(h1:∀xs,u ≠ .tup xs)(h2:∀c,u ≠ .own c)(h3:∀ps,u ≠ .tbl ps)(K:∀o v,X.H₀ a≠Z (.frz o v))(new:c7 X.prog X.w (upd H a u') s.heap a u'):Inv X gV σ (upd H a u') s:=by
 let ne:∀{b:J},H b=Y->b≠a:=λ{b} e z=>by rw[z,ha]at e;cases e
 refine(I.ok,I.os,I.bare,(I.base.keep,I.base.slot,λb o e n hx=>?_,I.base.there,λb xs e=>?_,λb o v e=>?_,λb ps e=>?_),I.loc,I.cell,?_,λx c e=>?_,λp hp=>?_,λb o e=>?_,I.len)
 ·have:=I.base.free b o e n hx
  rw[aj (ne this)];exact this
 ·have:=I.base.qK b xs e
  rw[aj λz=>by rw[z,ha]at this;exact h1 xs (Option.some.inj this)]
  exact this
 ·have:=I.base.lC b o v e
  rw[aj λz=>by rw[z]at e;exact K o v e]
  exact this
 ·let(more,this):=I.base.qL b ps e;refine(more,?_);rw[aj λz=>by rw[z,ha]at this;exact h3 _ (Option.some.inj this)]
  exact this
 ·rw[aj (ne I.free)];exact I.free
 ·rw[aj (ne (I.gx x c e))];exact I.gx x c e
 ·let(p1,p2,p3):=I.pin p hp;exact(p1,by rw[aj (ne p2)];exact p2,p3)
 ·by_cases g:b=a
  ·subst g;rw[aw]at e;cases e;exact new
  ·rw[aj g]at e;refine(I.hok b o e).cx (λ_ _ _ q=>q) (λc q=>?_) λc xs q=>?_
   ·rw[aj λz=>by rw[z,ha]at q;exact h2 _ (Option.some.inj q)];exact q
   ·rw[aj λz=>by rw[z,ha]at q;exact h1 _ (Option.some.inj q)];exact q
def Inv.freeze(I:Inv X gV σ H s)(ha:H a=Z (.dK kvs)):(∀o v,X.H₀ a≠Z (.frz o v))/\∃o,Inv X gV σ (upd H a (.frz o (.dK kvs))) s:=by
 let g:∀o v,X.H₀ a≠Z (.frz o v):=λo v e=>by
  have:=I.base.lC a o v e
  rw[ha]at this;cases this
 let(z,hs,vs,r,o,es,q,e,c):=(I.hok a _ ha);exact(g,o,I.Cj ha (λ_ z=>nomatch z) (λ_ z=>nomatch z) (λ_ z=>nomatch z) g (e,z,hs,vs,r,o,es,q,e,c))
end
end L2
namespace PySem
open Sem (wp)
end PySem
namespace PySem
open Sem (wp)
open Builtin Builtin.ObjectAttr
section
variable{nm q:Str}{C N x:J}{bs bm bmB:List B}{sn:List Str}{sub:List B}{ab Qz:Bool}{col:Option Bool}{dd:Option J}{k0 k1 k2 k3 k5:Option B}{YA newId sa owner:String}
 {mN mA:Str->Option B} {name:Str} {v:B} {S:List Str}
end
end PySem
namespace PySem
open Sem (wp)
open Builtin Builtin.ObjectAttr
section
variable{nm q:Str}{C N x:J}{bs bm bmB:List B}{sn:List Str}{sub:List B}{ab Qz:Bool}{col:Option Bool}{dd:Option J}{k0 k1 k2 k3 k5:Option B}{YA newId:String}
 {mN mA:Str->Option B} {name:Str} {v:B} {S:List Str} {o:Obj}
end
end PySem
namespace PySem
open Sem (wp)
def Ro(h:Do)(e:J)(cls:B)(dx:Option J)(y:B):Prop :=
 ∃o vs a0,h.get? e=Z o/\o.cls=cls/\o.dict=dx/\o.data=.fields vs/\vs[0]?=Z a0/\vs[1]?=Z y
end PySem
namespace L2
open PySem PySem.Spec PyProof.Rows
def any_some{o:Option α}{f:α->Bool}(h:o.any f=O):∃a,o=Z a/\f a=true:=by
 cases o with
 |none=>cases h
 |some a=>exact(a,U,h)
def XAt(a C:J)(dx:Option J)(b:Bool)(h:Do):Prop:=∃y,Ro h a (.ref C) dx y/\(b=O->y=.none)
def XD(dx:J)(fs:List (Str×V))(h:Do):Prop:=∃mA,h.Ns1 dx mA/\(∀f,iD (fs.lookup f) (mA f))/\PySem.Within mA (fs.map (·.1))
def ExH(H:Hp)(a C:J)(b:Bool)(fs:List (Str×V)):Prop:=(fs=[]/\H a=Z (.ext (XAt a C Y b)))\/∃dx,dx≠a/\H a=Z (.ext (XAt a C (Z dx) b))/\H dx=Z (.ext (XD dx fs))
section
variable{P:Da}{w:Cl}{H:Hp}{h:Do}{d:J}{fs:List (Str×V)}
def XD.ok(x:XD d fs h):c7 P w H h d (.ext (XD d fs)):=by
 refine(x,?_,λh1 h2 (mA,(o,es,g,e,r),z) k=>(mA,(o,es,g,k o e,r),z))
 let(mA,(o,es,g,e,r),z):=x;exact(o,e)
end
end L2
namespace PySem
open Sem (wp)
end PySem
namespace L2
open PySem PySem.Spec PyProof.Rows
def len0{P:List B->Prop}(h:P [])(us:List B)(e:us.length=0):P us:=by rw[Rj.mp e];exact h
def S7{P:List B->Prop}(h:∀a,P [a])(us:List B)(e:us.length=1):P us:=by
 cases us with
 |nil=>cases e
 |cons a r=>exact len0 (P:=λr=>P (a::r)) (h a) r (Nat.succ.inj e)
def S6{P:List B->Prop}(h:∀a b,P [a,b])(us:List B)(e:us.length=2):P us:=by
 cases us with
 |nil=>cases e
 |cons a r=>exact S7 (P:=λr=>P (a::r)) (h a) r (Nat.succ.inj e)
def S5{P:List B->Prop}(h:∀a b c,P [a,b,c])(us:List B)(e:us.length=3):P us:=by
 cases us with
 |nil=>cases e
 |cons a r=>exact S6 (P:=λr=>P (a::r)) (h a) r (Nat.succ.inj e)
def S4{P:List B->Prop}(h:∀a b c d,P [a,b,c,d])(us:List B)(e:us.length=4):P us:=by
 cases us with
 |nil=>cases e
 |cons a r=>exact S5 (P:=λr=>P (a::r)) (h a) r (Nat.succ.inj e)
def U0{P:List B->Prop}(h:∀a b c d e,P [a,b,c,d,e])(us:List B)(e:us.length=5):P us:=by
 cases us with
 |nil=>cases e
 |cons a r=>exact S4 (P:=λr=>P (a::r)) (h a) r (Nat.succ.inj e)
set_option genInjectivity true in
inductive T where
 |n|b (x:Bool)|i (x:Int)|s (x:Str)|t (xs:List T)|l (xs:List T)|d (ks:List (Key×T))|df|z (ns:List Int)|ty (x:String)|k (ws:List Str)|q|fd (o:Obj) (vs:List (Key×V)) (ks:List (Key×T))|xc (C:J) (ns:List Str) (ts:List T)|rm (u:Int)|ob (C:J) (ns:List Str) (ts:List T)|dp (a:J) (ks:List (Key×T))|lp (a:J) (xs:List T)|zl (xs:List T)|rf (a:J)|om (a C:J) (ns:List Str) (ts:List T)
abbrev Dl:=List (J×J)
def FzL(K:BT)(H:Hp)(a:J)(xs:List V):Prop:=(∃o,H a=Z (.frz o (.lst xs))) \/
  ∃(o:Obj)(its:Array B)(n:Nat),K.lookup a=Z o/\o.cls=.type "list" /\ o.dict=Y/\o.data=.seq its n/\its.size<=mu/\Vals xs its.toList
variable{H:Hp}{a:J}
theorem FzL.sq{K:BT}(h:FzL K H a xs):SqL K H a xs:=by
 obtain h|h:=h
 ·exact .inl (.inr h)
 ·exact .inr h
def xT(a C dx:J)(h:Do):Prop:=h.get? a=Z (W.instObj C dx)
inductive ObH(H:Hp)(a C:J)(fs:List (Str×V)):Prop
 |mk(dx)(h1:dx≠a)(h2:H a=Z (.ext (xT a C dx)))(h3:H dx=Z (.ext (XD dx fs)))
mutual
inductive ay(K:BT)(dl:Dl)(H:Hp):V->T->List J->Prop where
 |n:ay K dl H .non .n []
 |b(x:Bool):ay K dl H (.bl x) (.b x) []
 |i(x:Int):ay K dl H (.int x) (.i x) []
 |s(x:Str):ay K dl H (.str x) (.s x) []
 |ty(x:String):ay K dl H (.ty x) (.ty x) []
 |t{a:J}{vs:List V}{ts:List T}{F:List J}:H a=Z (.tup vs)->aq K dl H vs ts F->ay K dl H (.ref a) (.t ts) F
 |l{a:J}{vs:List V}{ts:List T}{F:List J}:H a=Z (.lst vs)->aq K dl H vs ts F->ay K dl H (.ref a) (.l ts) (a::F)
 |d{a:J}{vs:List (Key×V)}{ts:List (Key×T)}{F:List J}:H a=Z (.dK vs)->aI K dl H vs ts F->ay K dl H (.ref a) (.d ts) (a::F)
 |x{a l:J}:(a,l)∈dl->ay K dl H (.ref a) .df []
 |z{a:J}{ns:List Int}:FzL K H a (ns.map V.int)->ay K dl H (.ref a) (.z ns) []
 |q{a:J}{xs:List V}:H a=Z (.lst xs)->ay K dl H (.ref a) .q []
 |fd{a:J}{o:Obj}{vs:List (Key×V)}{ts:List (Key×T)}:H a=Z (.frz o (.dK vs))->aI K dl H vs ts []->ay K dl H (.ref a) (.fd o vs ts) []
 |k{a:J}{ws:List Str}:(∀H':Hp,SqT K H' a (ws.map V.str))->ay K dl H (.ref a) (.k ws) []
 |e{a C:J}{b:Bool}{ns:List Str}{vs:List V}{ts:List T}:ExH H a C b (ns.zip vs)->aq K dl H vs ts []->ay K dl H (.ref a) (.xc C ns ts) []
 |rm{a:J}{x u:Int}:H a=Z (.room x)->x<=u->ay K dl H (.ref a) (.rm u) []
 |ob{a C:J}{ns:List Str}{vs:List V}{ts:List T}:ObH H a C (ns.zip vs)->aq K dl H vs ts []->ay K dl H (.ref a) (.ob C ns ts) []
 |dp{a:J}{vs:List (Key×V)}{ts:List (Key×T)}{F:List J}:H a=Z (.dK vs)->aI K dl H vs ts F->ay K dl H (.ref a) (.dp a ts) (a::F)
 |lp{a:J}{vs:List V}{ts:List T}{F:List J}:H a=Z (.lst vs)->aq K dl H vs ts F->ay K dl H (.ref a) (.lp a ts) (a::F)
 |zl{a:J}{o:Obj}{vs:List V}{ts:List T}:H a=Z (.frz o (.lst vs))->aq K dl H vs ts []->ay K dl H (.ref a) (.zl ts) []
 |rf(a:J):ay K dl H (.ref a) (.rf a) []
 |om{a C dx:J}{ns:List Str}{vs:List V}{ts:List T}{F:List J}:H a=Z (.ins C dx (ns.zip vs))->H dx=Z (.own a)->ns.length=ts.length->aq K dl H vs ts F->ay K dl H (.ref a) (.om a C ns ts) (a::dx::F)
inductive aq(K:BT)(dl:Dl)(H:Hp):List V->List T->List J->Prop where
 |nil:aq K dl H [] [] []
 |cons{v:V}{x:T}{vs:List V}{ts:List T}{F G:List J}:ay K dl H v x F->aq K dl H vs ts G->aq K dl H (v::vs) (x::ts) (F++G)
inductive aI(K:BT)(dl:Dl)(H:Hp):List (Key×V)->List (Key×T)->List J->Prop where
 |nil:aI K dl H [] [] []
 |cons{k:Key}{v:V}{x:T}{vs:List (Key×V)}{ts:List (Key×T)}{F G:List J}:ay K dl H v x F->aI K dl H vs ts G->aI K dl H ((k,v)::vs) ((k,x)::ts) (F++G)
end
def HO.mt:HO->Bool
 |.lst _=>O
 |.dK _=>O
 |.ins _ _ _=>O
 |.own _=>O
 |_=>ϊ
inductive fD(H:Hp)(b:J):Prop
 |mk(o)(h1:H b=Z o)(h2:o.mt=O)
def fD.no(h:fD H b)(e:H b=Y):False:=by
 let(_,h,_):=h;rw[e]at h;cases h
structure TF(H H':Hp):Prop where
 t:∀a vs,H a=Z (.tup vs)->H' a=Z (.tup vs)
 f:∀a o u,H a=Z (.frz o u)->H' a=Z (.frz o u)
 x:∀a φ,H a=Z (.ext φ)->H' a=Z (.ext φ)
 q:∀a xs,H a=Z (.lst xs)->∃ys,H' a=Z (.lst ys)
 r:∀a x,H a=Z (.room x)->∃y,y<=x/\H' a=Z (.room y)
variable{H':Hp}{C:J}
def ObH.tf(h:ObH H a C fs)(k:TF H H'):ObH H' a C fs:=by
 let(d,h1,h2,h3):=h;exact(d,h1,k.x _ _ h2,k.x _ _ h3)
def ExH.tf(h:ExH H a C b fs)(k:TF H H'):ExH H' a C b fs:=by
 obtain⟨h1,h2⟩|⟨d,h1,h2,h3⟩:=h
 ·exact .inl (h1,k.x _ _ h2)
 ·exact .inr (d,h1,k.x _ _ h2,k.x _ _ h3)
theorem FzL.tf{K:BT}(h:FzL K H a vs)(k:TF H H'):FzL K H' a vs:=by
 obtain⟨o,h⟩|h:=h
 ·exact .inl (o,k.f _ _ _ h)
 ·exact .inr h
def b6{α:Type}{p:α->Prop}:∀b∈([]:List α),p b:=λ_ h=>absurd h B9
variable{dl':Dl}
theorem ay.cx{K:BT}{dl:Dl}(k:TF H H')(hd:∀p∈dl,p∈dl'){t:T}(h:ay K dl H v t F):(∀b∈F,∀o,H b=Z o->H' b=Z o)->ay K dl' H' v t F :=
 ay.rec (motive_2:=λv t F _=>(∀b∈F,∀o,H b=Z o->H' b=Z o)->aq K dl' H' v t F) (motive_3:=λv t F _=>(∀b∈F,∀o,H b=Z o->H' b=Z o)->aI K dl' H' v t F)
  (λ_=>.n) (λx _=>.b x) (λx _=>.i x) (λx _=>.s x) (λx _=>.ty x) (λh _ g q=>.t (k.t _ _ h) (g q))
  (λh _ g q=>.l (q _ jf _ h) (g λb P=>q b (j0 _ P))) (λh _ g q=>.d (q _ jf _ h) (g λb P=>q b (j0 _ P)))
  (λh _=>.x (hd _ h)) (λh _=>.z (h.tf k)) (λh _=>Exists.elim (k.q _ _ h) λ_ e=>.q e) (λh _ g _=>.fd (k.f _ _ _ h) (g b6)) (λh _=>.k h) (λh _ g _=>.e (h.tf k) (g b6))
  (λh hx _=>Exists.elim (k.r _ _ h) λ_ e=>.rm e.2 (Wc e.1 hx)) (λh _ g _=>.ob (h.tf k) (g b6)) (λh _ g q=>.dp (q _ jf _ h) (g λb P=>q b (j0 _ P))) (λh _ g q=>.lp (q _ jf _ h) (g λb P=>q b (j0 _ P))) (λh _ g _=>.zl (k.f _ _ _ h) (g b6)) (λa _=>.rf a) (λh1 h2 h3 _ g q=>.om (q _ jf _ h1) (q _ (j0 _ jf) _ h2) h3 (g λb P=>q b (j0 _ (j0 _ P))))
  (λ_=>.nil) (λ_ _ i1 i2 q=>.cons (i1 λb P=>q b (qF _ P)) (i2 λb P=>q b (p5 _ P)))
  (λ_=>.nil) (λ_ _ i1 i2 q=>.cons (i1 λb P=>q b (qF _ P)) (i2 λb P=>q b (p5 _ P))) h
@[elab_as_elim]
theorem aq.ind{K:BT}{dl:Dl}{M:List V->List T->List J->Prop}(nil:M [] [] [])(cons:∀v x vs ts F G,ay K dl H v x F->aq K dl H vs ts G->M vs ts G->M (v::vs) (x::ts) (F++G)){vs:List V}{ts:List T}{F:List J}(h:aq K dl H vs ts F):M vs ts F :=
 aq.rec (motive_1:=λ_ _ _ _=>True) (motive_3:=λ_ _ _ _=>True) trivial (λ_=>trivial) (λ_=>trivial) (λ_=>trivial) (λ_=>trivial) (λ_ _ _=>trivial) (λ_ _ _=>trivial) (λ_ _ _=>trivial)
  (λ_=>trivial) (λ_=>trivial) (λ_=>trivial) (λ_ _ _=>trivial) (λ_=>trivial) (λ_ _ _=>trivial) (λ_ _=>trivial) (λ_ _ _=>trivial) (λ_ _ _=>trivial) (λ_ _ _=>trivial) (λ_ _ _=>trivial) (λ_=>trivial) (λ_ _ _ _ _=>trivial) nil (λh r _ g=>cons _ _ _ _ _ _ h r g) trivial (λ_ _ _ _=>trivial) h
@[elab_as_elim]
theorem aI.ind{K:BT}{dl:Dl}{M:List (Key×V)->List (Key×T)->List J->Prop}(nil:M [] [] [])(cons:∀k v x vs ts F G,ay K dl H v x F->aI K dl H vs ts G->M vs ts G->M ((k,v)::vs) ((k,x)::ts) (F++G)){vs:List (Key×V)}{ts:List (Key×T)}{F:List J}(h:aI K dl H vs ts F):M vs ts F :=
 aI.rec (motive_1:=λ_ _ _ _=>True) (motive_2:=λ_ _ _ _=>True) trivial (λ_=>trivial) (λ_=>trivial) (λ_=>trivial) (λ_=>trivial) (λ_ _ _=>trivial) (λ_ _ _=>trivial) (λ_ _ _=>trivial)
  (λ_=>trivial) (λ_=>trivial) (λ_=>trivial) (λ_ _ _=>trivial) (λ_=>trivial) (λ_ _ _=>trivial) (λ_ _=>trivial) (λ_ _ _=>trivial) (λ_ _ _=>trivial) (λ_ _ _=>trivial) (λ_ _ _=>trivial) (λ_=>trivial) (λ_ _ _ _ _=>trivial) trivial (λ_ _ _ _=>trivial) nil (λh r _ g=>cons _ _ _ _ _ _ _ h r g) h
theorem aq.cx{K:BT}{dl dl':Dl}(k:TF H H')(hd:∀p∈dl,p∈dl')(h:aq K dl H vs ts F):(∀b∈F,∀o,H b=Z o->H' b=Z o)->aq K dl' H' vs ts F :=
 h.ind (λ_=>.nil) (λ_ _ _ _ _ _ h _ z q=>.cons (h.cx k hd λb g=>q b (qF _ g)) (z λb g=>q b (p5 _ g)))
theorem aI.cx{K:BT}{dl dl':Dl}(k:TF H H')(hd:∀p∈dl,p∈dl')(h:aI K dl H vs ts F):(∀b∈F,∀o,H b=Z o->H' b=Z o)->aI K dl' H' vs ts F :=
 h.ind (λ_=>.nil) (λ_ _ _ _ _ _ _ h _ z q=>.cons (h.cx k hd λb g=>q b (qF _ g)) (z λb g=>q b (p5 _ g)))
variable{G:List J}
def nq(h:∀b∈F,fD H b)(r:∀b∈G,fD H b):∀b∈F++G,fD H b:=λb g=>(p7.mp g).elim (h b) (r b)
theorem ay.there{K:BT}{dl:Dl}{t:T}(h:ay K dl H v t F):∀b∈F,fD H b :=
 ay.rec
  b6 (λ_=>b6) (λ_=>b6) (λ_=>b6) (λ_=>b6) (λ_ _ g=>g)
  (λh _ g b q=>(kz.mp q).elim (λe=>by rw[e];exact(_,h,U)) (g b)) (λh _ g b q=>(kz.mp q).elim (λe=>by rw[e];exact(_,h,U)) (g b))
  (λ_=>b6) (λ_=>b6) (λ_=>b6) (λ_ _ _=>b6) (λ_=>b6) (λ_ _ _=>b6)
  (λ_ _=>b6) (λ_ _ _=>b6) (λh _ g b q=>(kz.mp q).elim (λe=>by rw[e];exact(_,h,U)) (g b)) (λh _ g b q=>(kz.mp q).elim (λe=>by rw[e];exact(_,h,U)) (g b)) (λ_ _ _=>b6) (λ_=>b6) (λh1 h2 _ _ g b q=>(kz.mp q).elim (λe=>by rw[e];exact(_,h1,U)) λq=>(kz.mp q).elim (λe=>by rw[e];exact(_,h2,U)) (g b))
  b6 (λ_ _ i1 i2=>nq i1 i2) b6 (λ_ _ i1 i2=>nq i1 i2) h
theorem aq.there{K:BT}{dl:Dl}(h:aq K dl H vs ts F):∀b∈F,fD H b:=h.ind b6 (λ_ _ _ _ _ _ h _ g=>nq h.there g)
def Nd(dl:Dl)(b:J):Prop:=∀p∈dl,b≠p.1/\b≠p.2
def Dls(dl:Dl)(H:Hp):Prop:=∀p∈dl,ng H p.1 p.2
def Dls.nd{dl:Dl}(D:Dls dl H)(h:H b=Z o)(h1:∀xs,o ≠ .lst xs)(h2:∀ks,o ≠ .dK ks):Nd dl b:=λp hp=>by
 let(s,n,ls,Q):=D p hp;exact(il h Q.hd (h2 _),il h Q.hl (h1 _))
def Dls.nd0{dl:Dl}(D:Dls dl H)(h:H b=Y):Nd dl b:=λp hp=>by
 let(s,n,ls,Q):=D p hp;exact((bh Q.hd h).symm,(bh Q.hl h).symm)
def NR(o:HO):Prop:=∀x,o ≠ .room x
structure Evo(dl:Dl)(H H':Hp):Prop where
 k:∀b o,H b=Z o->Nd dl b->NR o->H' b=Z o
 d:Dls dl H'
 r:∀a x,H a=Z (.room x)->∃y,y<=x/\H' a=Z (.room y)
def NR.of(h:fD H b)(e:H b=Z o):NR o:=λx z=>by
 let(_,h,m):=h;rw[e,z]at h;cases h;cases m
def Evo.refl{dl:Dl}(D:Dls dl H):Evo dl H H:=(λ_ _ h _ _=>h,D,λ_ x h=>(x,NL _,h))
variable{H1:Hp}{H2:Hp}
def Evo.trans{dl:Dl}(a:Evo dl H H1)(b:Evo dl H1 H2):Evo dl H H2:=(λc o h n r=>b.k c o (a.k c o h n r) n r,b.d,λc x h=>let(y,q,e):=a.r c x h;let(z,g,e'):=b.r c y e;(z,Wc g q,e'))
def Evo.tf{dl:Dl}(e:Evo dl H H')(D:Dls dl H):TF H H' :=
 (λa vs h=>e.k a _ h (D.nd h (λ_ z=>nomatch z) λ_ z=>nomatch z) (λ_ z=>nomatch z),λa o u h=>e.k a _ h (D.nd h (λ_ z=>nomatch z) λ_ z=>nomatch z) (λ_ z=>nomatch z),λa φ h=>e.k a _ h (D.nd h (λ_ z=>nomatch z) λ_ z=>nomatch z) (λ_ z=>nomatch z),λa xs h=>(by
  by_cases hn:Nd dl a
  ·exact(xs,e.k a _ h hn (λ_ z=>nomatch z))
  ·obtain⟨p,hp,z⟩:∃p∈dl,¬(a≠p.1/\a≠p.2):=Classical.byContradiction λc=>hn λp hp=>Classical.byContradiction λz=>c (p,hp,z)
   let(s,n,ls,Q):=D p hp;let(s',n',ls',Q'):=e.d p hp;let h1:=il h Q.hd (λz=>nomatch z)
   let h2:=Classical.byContradiction λg=>z (h1,g)
   exact(_,by rw[h2];exact Q'.hl)),e.r)
theorem Evo.new{dl:Dl}(e:Evo dl H H1)(hp:H1 p=Y):Evo dl H (upd H1 p o) :=
 (λc u h n r=>by rw[aj (bh (e.k c u h n r) hp)];exact e.k c u h n r,λq hq=>(e.d q hq).new hp,λc x h=>let(y,g,e'):=e.r c x h;(y,g,by rw[aj (bh e' hp)];exact e'))
def Evo.free{dl:Dl}(e:Evo dl H H')(hp:H' p=Y):H p=none:=by
 cases q:H p with
 |none=>rfl
 |some o =>
  by_cases hn:NR o
  ·rw[e.k p o q (e.d.nd0 hp) hn]at hp;cases hp
  ·obtain⟨x,hx⟩:∃x,o=.room x:=Classical.byContradiction λc=>hn λx z=>c (x,z)
   subst hx;let(y,_,e'):=e.r p x q;rw[e']at hp;cases hp
structure Rp(K:BT)(dl:Dl)(H:Hp)(v:V)(t:T)(F:List J):Prop where
 r:ay K dl H v t F
 n:∀b∈F,Nd dl b
structure Rps(K:BT)(dl:Dl)(H:Hp)(vs:List V)(ts:List T)(F:List J):Prop where
 r:aq K dl H vs ts F
 n:∀b∈F,Nd dl b
theorem Rp.evo{K:BT}{dl:Dl}(h:Rp K dl H v t F)(D:Dls dl H)(e:Evo dl H H'):Rp K dl H' v t F :=
 (h.r.cx (e.tf D) (λ_ q=>q) λb g o q=>e.k b o q (h.n b g) (.of (h.r.there b g) q),h.n)
theorem Rps.evo{K:BT}{dl:Dl}(h:Rps K dl H v t F)(D:Dls dl H)(e:Evo dl H H'):Rps K dl H' v t F :=
 (h.r.cx (e.tf D) (λ_ q=>q) λb g o q=>e.k b o q (h.n b g) (.of (h.r.there b g) q),h.n)
inductive Sl where
 |no|o (t:T)|r (t:T)
abbrev Sq:=List Sl
def Sl.get:Sl->Option T
 |.no=>Y
 |.o t=>Z t
 |.r t=>Z t
structure RdR(K:BT)(dl:Dl)(H:Hp)(σ:St)(q:Sq):Prop where
 d:Dls dl H
 g:∀(i:Nat)(x:Sl)(t:T),q[i]?=Z x->x.get=Z t->∃v F,σ[i]?=Z (Z v)/\Rp K dl H v t F
theorem RdR.evo{K:BT}{dl:Dl}(h:RdR K dl H σ q)(e:Evo dl H H'):RdR K dl H' σ q :=
 (e.d,λi x t h1 h2=>let(v,F,h3,h4):=h.g i x t h1 h2;(v,F,h3,h4.evo h.d e))
abbrev QE:=Sq->(T->Prop)->Prop
abbrev QT:=Sq->(Bool->Prop)->Prop
abbrev QA:=Sq->(List T->Prop)->Prop
def gE(K:BT)(te:TE)(tq:QE):Prop:=∀(dl:Dl)(H:Hp)(σ:St)(q:Sq)(Q:T->Prop)(R:V->Hp->Prop),RdR K dl H σ q->tq q Q ->
 (∀v t F H',Evo dl H H'->Rp K dl H' v t F->Q t->R v H')->te σ H R
def ka(K:BT)(te:TE)(tq:QE):Prop:=∀(dl:Dl)(H:Hp)(σ:St)(q:Sq)(Q:T->Prop)(R:V->Hp->Prop),RdR K dl H σ q->tq q Q ->
 (∀v t F H',Evo dl H H'->Rp K dl H' v t F->(∀b∈F,H b=Y)->F.Nodup->Q t->R v H')->te σ H R
def lK(K:BT)(te:TT)(tq:QT):Prop:=∀(dl:Dl)(H:Hp)(σ:St)(q:Sq)(Q:Bool->Prop)(R:Bool->Hp->Prop),RdR K dl H σ q->tq q Q ->
 (∀b H',Evo dl H H'->Q b->R b H')->te σ H R
def zV(K:BT)(n:Nat)(te:TA)(tq:QA):Prop:=∀(dl:Dl)(H:Hp)(σ:St)(q:Sq)(Q:List T->Prop)(R:List V->Hp->Prop),RdR K dl H σ q->tq q Q ->
 (∀vs ts F H',Evo dl H H'->Rps K dl H' vs ts F->vs.length=n->Q ts->R vs H')->te σ H R
def Ui(K:BT)(n:Nat)(te:TA)(tq:QA):Prop:=∀(dl:Dl)(H:Hp)(σ:St)(q:Sq)(Q:List T->Prop)(R:List V->Hp->Prop),RdR K dl H σ q->tq q Q ->
 (∀vs ts F H',Evo dl H H'->Rps K dl H' vs ts F->vs.length=n->(∀b∈F,H b=Y)->F.Nodup->Q ts->R vs H')->te σ H R
structure QPE(X:Cx)(K:BT)(e:Ev)(te:TE)(tq:QE):Prop where
 h:PE X e te
 s:gE K te tq
structure QPF(X:Cx)(K:BT)(e:Ev)(te:TE)(tq:QE):Prop where
 h:PE X e te
 s:ka K te tq
structure QPT(X:Cx)(K:BT)(e:Ev)(te:TT)(tq:QT):Prop where
 h:PT X e te
 s:lK K te tq
structure QPW(X:Cx)(K:BT)(e:Ev)(te:TT)(tq:QT):Prop where
 h:PW X e te
 s:lK K te tq
structure QPA(X:Cx)(K:BT)(es:List Ev)(te:TA)(tq:QA):Prop where
 h:PA X es te
 s:zV K es.length te tq
structure xS(X:Cx)(K:BT)(es:List Ev)(te:TA)(tq:QA):Prop where
 h:PA X es te
 s:Ui K es.length te tq
variable{q:Sq}{x:Str}
section
variable{X:Cx}{K:BT}{a b e:Ev}{ta tb te:TE}{qa qb qe:QE}{pos:Pos}
def Za(h:QPF X K e te qe):QPE X K e te qe:=(h.h,λdl H σ q Q R rd hq k=>h.s dl H σ q Q R rd hq λv t F H' e r _ _ z=>k v t F H' e r z)
mutual
def T.im:T->Bool
 |.t xs=>T.ims xs
 |.l _=>ϊ
 |.d _=>ϊ
 |.dp _ _=>ϊ
 |.lp _ _=>ϊ
 |.om _ _ _ _=>ϊ
 |_=>O
def T.ims:List T->Bool
 |[]=>O
 |x::r=>x.im&&T.ims r
end
def sD{x y:Bool}(h:x=O->F=[])(r:y=O->G=[])(q:(x&&y)=O):F++G=[]:=by rw[h (tD _ _▸q).1,r (tD _ _▸q).2];rfl
theorem ay.im{dl:Dl}{t:T}(h:ay K dl H v t F):t.im=O->F=[] :=
 ay.rec (motive_3:=λ_ _ _ _=>True)
  (λ_=>rfl) (λ_ _=>rfl) (λ_ _=>rfl) (λ_ _=>rfl) (λ_ _=>rfl) (λ_ _ g=>g) (λ_ _ _ h=>absurd h qE) (λ_ _ _ h=>absurd h qE)
  (λ_ _=>rfl) (λ_ _=>rfl) (λ_ _=>rfl) (λ_ _ _ _=>rfl) (λ_ _=>rfl) (λ_ _ _ _=>rfl) (λ_ _ _=>rfl) (λ_ _ _ _=>rfl) (λ_ _ _ h=>absurd h qE) (λ_ _ _ h=>absurd h qE) (λ_ _ _ _=>rfl) (λ_ _=>rfl) (λ_ _ _ _ _ h=>absurd h qE) (λ_=>rfl) (λ_ _ i1 i2=>sD i1 i2) trivial (λ_ _ _ _=>trivial) h
theorem aq.im{dl:Dl}(h:aq K dl H v t F):T.ims t=O->F=[]:=h.ind (λ_=>rfl) (λ_ _ _ _ _ _ h _ g=>sD h.im g)
inductive Ex2{α:Type}(p:α->Prop)(Q:α->Prop):Prop
 |mk(x:α)(h:p x)(k:Q x)
inductive Ex3{α β:Type}(p:α->Prop)(g:α->β)(Q:β->Prop):Prop
 |mk(x:α)(h:p x)(k:Q (g x))
inductive Ex4{α β:Type}(p r:α->Prop)(g:α->β)(Q:β->Prop):Prop
 |mk(x:α)(h:p x)(h2:r x)(k:Q (g x))
def onO(q:Sq)(i:Nat)(P:T->Prop):Prop:=match q[i]? with|some (.o t)=>P t|_=>False
def onO.inv(h:onO q i P):∃t,q[i]?=Z (.o t)/\P t:=by
 unfold onO at h
 split at h
 ·exact(_,‹_›,h)
 ·exact h.elim
def on1(ts:List T)(P:T->Prop):Prop:=match ts with|[t]=>P t|_=>False
def on1.inv(h:on1 ts P):∃t,ts=[t]/\P t:=by
 cases ts with
 |nil=>exact h.elim
 |cons t r=>cases r with
  |nil=>exact(t,U,h)
  |cons=>exact h.elim
def on2(ts:List T)(P:T->T->Prop):Prop:=match ts with|[t,u]=>P t u|_=>False
def on2.inv(h:on2 ts P):∃t u,ts=[t,u]/\P t u:=by
 cases ts with
 |nil=>exact h.elim
 |cons t r=>cases r with
  |nil=>exact h.elim
  |cons u r=>cases r with
   |nil=>exact(t,u,U,h)
   |cons=>exact h.elim
def qIm(qe:QE):QE:=λq Q=>qe q λt=>t.im=O/\Q t
theorem Zb(h:QPE X K e te qe):QPF X K e te (qIm qe):=(h.h,λdl H σ q Q R rd hq k=>h.s dl H σ q _ R rd hq λv t F H' e r (P,g)=>by
 let f:=r.r.im P;subst f;exact k v t [] H' e r b6 k4 g)
def bo(i:Nat):QE:=λq Q=>match q[i]? with
 |some (.o t)=>Q t
 |some (.r t)=>Q t
 |_=>False
def Ki(i:Nat):gE K (bB i) (bo i):=by
 intro dl H σ q Q R rd hq k;unfold bo at hq
 split at hq
 ·rename_i t e;let(v,F,h1,h2):=rd.g i _ t e U;exact(v,h1,k v t F H (.refl rd.d) h2 hq)
 ·rename_i t e;let(v,F,h1,h2):=rd.g i _ t e U;exact(v,h1,k v t F H (.refl rd.d) h2 hq)
 ·exact hq.elim
def qv(i:Nat)(q:X.N[i]?=Z x:=by rfl)(hv:Vis X.env.scope x:=by first|exact Or.inl rfl|exact Or.inr (Or.inl U)|exact Or.inr (Or.inr U))(hd:AS x:=by decide)
  (g:(x ==("__classdict__":Str))=false:=by decide):QPE X K (.Name x pos) (bB i) (bo i):=(wO q hv hd g,Ki i)
def qC(t:T):QE:=λ_ Q=>Q t
def uQ(h:∀dl H,ay K dl H v t []):ka K (tC v) (qC t):=λdl H σ q Q R rd hq k=>k v t [] H (.refl rd.d) (h dl H,b6) b6 k4 hq
def bS:QPF X K (.Constant (.int i) j pos) (tC (.int i)) (qC (.i i)):=(bA,uQ λ_ _=>.i i)
def oF{b j pos}:QPF X K (.Constant (.bool b) j pos) (tC (.bl b)) (qC (.b b)):=(SO,uQ λ_ _=>.b b)
def cX:QPF X K (.Constant .none j pos) (tC .non) (qC .n):=(PL,uQ λ_ _=>.n)
def aA:QPF X K (.Constant (.str x) j pos) (tC (.str x)) (qC (.s x)):=(dq,uQ λ_ _=>.s x)
def uW(hg:Gl X x)(hm:X.mg x=Y)(hv:bootBuiltins x=Z (.type n))(hn:x ≠ "__name__":=by decide)(hd:AS x:=by decide):QPF X K (.Name x pos) (tC (.ty n)) (qC (.ty n)) :=
 (LZ hg hm hv U hn hd,uQ λ_ _=>.ty n)
def yH(hg:Gl X x)(hm:∃t,X.mg x=Z (.int y t))(hd:AS x:=by decide):QPF X K (.Name x pos) (tC (.int y)) (qC (.i y)):=(Hx hg hm hd,uQ λ_ _=>.i y)
theorem kZ{dl:Dl}:∀(ws:List Str),aq K dl H (ws.map V.str) (ws.map T.s) []
 |[]=>.nil
 |w::r=>.cons (.s w) (kZ r)
theorem rA{dl:Dl}:∀(ws:List Int),aq K dl H (ws.map V.int) (ws.map T.i) []
 |[]=>.nil
 |w::r=>.cons (.i w) (rA r)
abbrev Q2:=T->T->(T->Prop)->Prop
def Ff(K:BT)(r:R2)(rq:Q2):Prop:=∀(dl:Dl)(H:Hp)(x y:V)(t u:T)(F G:List J)(Q:T->Prop)(R:V->Hp->Prop),Dls dl H->Rp K dl H x t F->Rp K dl H y u G->rq t u Q ->
 (∀v z F' H',Evo dl H H'->Rp K dl H' v z F'->Q z->R v H')->r x y H R
def cO(K:BT)(r:R2)(rq:Q2):Prop:=∀(dl:Dl)(H:Hp)(x y:V)(t u:T)(F G:List J)(Q:T->Prop)(R:V->Hp->Prop),Dls dl H->Rp K dl H x t F->Rp K dl H y u G->rq t u Q ->
 (∀v z F' H',Evo dl H H'->Rp K dl H' v z F'->(∀b∈F',H b=Y)->F'.Nodup->Q z->R v H')->r x y H R
variable{rq:Q2}
def cO.w(h:cO K r rq):Ff K r rq:=λdl H x y t u F G Q R d a b hq k=>h dl H x y t u F G Q R d a b hq λv z F' H' e r _ _ g=>k v z F' H' e r g
def qOp(rq:Q2)(qa qb:QE):QE:=λq Q=>qa q λt=>qb q λu=>rq t u Q
def qR(ho:Ff K r rq)(ha:gE K ta qa)(hb:gE K tb qb):gE K (tOp r ta tb) (qOp rq qa qb):=by
 intro dl H σ q Q R rd hq k;exact ha dl H σ q _ _ rd hq λv t F H1 e1 r1 P=>(hb dl H1 σ q _ _ (rd.evo e1) P λw u G H2 V r2 g=>(ho dl H2 v w t u F G Q R V.d (r1.evo e1.d V) r2 g λv' z F' H3 e3 r3 hz=>k v' z F' H3 ((e1.trans V).trans e3) r3 hz))
def vP(ho:cO K r rq)(ha:gE K ta qa)(hb:gE K tb qb):ka K (tOp r ta tb) (qOp rq qa qb):=by
 intro dl H σ q Q R rd hq k;exact ha dl H σ q _ _ rd hq λv t F H1 P r1 av=>(hb dl H1 σ q _ _ (rd.evo P) av λw u G H2 g r2 V=>(ho dl H2 v w t u F G Q R g.d (r1.evo P.d g) r2 V λv' z F' H3 e3 r3 f3 n3 hz=>k v' z F' H3 ((P.trans g).trans e3) r3 (λb hb=>(P.trans g).free (f3 b hb)) n3 hz))
def nN(ho:OpR X (binaryOp op) r)(hs:cO K r rq)(ha:QPE X K a ta qa)(g:QPE X K b tb qb):QPF X K (.BinOp a op b pos) (tOp r ta tb) (qOp rq qa qb):=(cL ho ha.h g.h,vP hs ha.s g.s)
end
end L2
namespace L2
open PySem PySem.Spec PyProof.Rows
variable{x:Str}{C:J}{a:J}{ns:List Int}{ws:List Str}{G:List J}
section
variable{X:Cx}{K:BT}{dl:Dl}{H:Hp}{v:V}{F:List J}
def VQ(K:BT)(dl:Dl)(H:Hp)(v:V)(F:List J):T->Prop
 |.n=>v=.non/\F=[]
 |.b x=>v=.bl x/\F=[]
 |.i x=>v=.int x/\F=[]
 |.s x=>v=.str x/\F=[]
 |.ty x=>v=.ty x
 |.t ts=>∃a vs,v=.ref a/\H a=Z (.tup vs)/\aq K dl H vs ts F
 |.l ts=>∃a vs G,v=.ref a/\F=a::G/\H a=Z (.lst vs)/\aq K dl H vs ts G
 |.d ts=>∃a vs G,v=.ref a/\F=a::G/\H a=Z (.dK vs)/\aI K dl H vs ts G
 |.df=>∃a l,v=.ref a/\(a,l)∈dl/\F=[]
 |.z ns=>∃a,v=.ref a/\FzL K H a (ns.map V.int)/\F=[]
 |.k ws=>∃a,v=.ref a/\(∀H',SqT K H' a (ws.map V.str))/\F=[]
 |.xc C ns ts=>∃a b vs,v=.ref a/\F=[]/\ExH H a C b (ns.zip vs)/\aq K dl H vs ts []
 |.q=>True
 |.fd _ _ _=>True
 |.rm u=>∃a x,v=.ref a/\H a=Z (.room x)/\x<=u/\F=[]
 |.ob C ns ts=>∃a vs,v=.ref a/\F=[]/\ObH H a C (ns.zip vs)/\aq K dl H vs ts []
 |.dp a ts=>∃vs G,v=.ref a/\F=a::G/\H a=Z (.dK vs)/\aI K dl H vs ts G
 |.lp a ts=>∃vs G,v=.ref a/\F=a::G/\H a=Z (.lst vs)/\aq K dl H vs ts G
 |.zl ts=>∃a o vs,v=.ref a/\F=[]/\H a=Z (.frz o (.lst vs))/\aq K dl H vs ts []
 |.rf a=>v=.ref a/\F=[]
 |.om a C ns ts=>∃dx vs G,v=.ref a/\F=a::dx::G/\H a=Z (.ins C dx (ns.zip vs))/\H dx=Z (.own a)/\ns.length=ts.length/\aq K dl H vs ts G
def ay.inv{t:T}(h:ay K dl H v t F):VQ K dl H v F t :=
 ay.rec (motive_2:=λ_ _ _ _=>True) (motive_3:=λ_ _ _ _=>True) (U,U) (λ_=>(U,U)) (λ_=>(U,U)) (λ_=>(U,U)) (λ_=>rfl)
  (λh r _=>(_,_,U,h,r)) (λh r _=>(_,_,_,U,U,h,r)) (λh r _=>(_,_,_,U,U,h,r)) (λh=>(_,_,U,h,U)) (λh=>(_,U,h,U)) (λ_=>trivial) (λ_ _ _=>trivial) (λh=>(_,U,h,U)) (λh r _=>(_,_,_,U,U,h,r)) (λh hx=>(_,_,U,h,hx,U)) (λh r _=>(_,_,U,U,h,r)) (λh r _=>(_,_,U,U,h,r)) (λh r _=>(_,_,U,U,h,r)) (λh r _=>(_,_,_,U,U,h,r)) (λ_=>(U,U)) (λh1 h2 h3 r _=>(_,_,_,U,U,h1,h2,h3,r))
  trivial (λ_ _ _ _=>trivial) trivial (λ_ _ _ _=>trivial) h
theorem ay.int{x:Int}(h:ay K dl H v (.i x) F):v=.int x/\F=[]:=h.inv
theorem ay.str(h:ay K dl H v (.s x) F):v=.str x/\F=[]:=h.inv
theorem ay.bl{x:Bool}(h:ay K dl H v (.b x) F):v=.bl x/\F=[]:=h.inv
theorem ay.non(h:ay K dl H v .n F):v=.non/\F=[]:=h.inv
def ay.tyy{x:String}(h:ay K dl H v (.ty x) F):v=.ty x:=h.inv
theorem ay.tup(h:ay K dl H v (.t ts) F):∃a vs,v=.ref a/\H a=Z (.tup vs)/\aq K dl H vs ts F:=h.inv
theorem ay.lst(h:ay K dl H v (.l ts) F):∃a vs G,v=.ref a/\F=a::G/\H a=Z (.lst vs)/\aq K dl H vs ts G:=h.inv
def ay.dic(h:ay K dl H v (.d ts) F):∃a vs G,v=.ref a/\F=a::G/\H a=Z (.dK vs)/\aI K dl H vs ts G:=h.inv
def ay.roo(h:ay K dl H v (.rm u) F):∃a x,v=.ref a/\H a=Z (.room x)/\x<=u/\F=[]:=h.inv
def ay.obj{ns:List Str}(h:ay K dl H v (.ob C ns ts) F):∃a vs,v=.ref a/\F=[]/\ObH H a C (ns.zip vs)/\aq K dl H vs ts []:=h.inv
def ay.dpp(h:ay K dl H v (.dp a ts) F):∃vs G,v=.ref a/\F=a::G/\H a=Z (.dK vs)/\aI K dl H vs ts G:=h.inv
def ay.lpp(h:ay K dl H v (.lp a ts) F):∃vs G,v=.ref a/\F=a::G/\H a=Z (.lst vs)/\aq K dl H vs ts G:=h.inv
def ay.zls(h:ay K dl H v (.zl ts) F):∃a o vs,v=.ref a/\F=[]/\H a=Z (.frz o (.lst vs))/\aq K dl H vs ts []:=h.inv
def ay.rff(h:ay K dl H v (.rf a) F):v=.ref a/\F=[]:=h.inv
def ay.omm{ns:List Str}(h:ay K dl H v (.om a C ns ts) F):∃dx vs G,v=.ref a/\F=a::dx::G/\H a=Z (.ins C dx (ns.zip vs))/\H dx=Z (.own a)/\ns.length=ts.length/\aq K dl H vs ts G:=h.inv
def ay.dea(h:ay K dl H v .df F):∃a l,v=.ref a/\(a,l)∈dl/\F=[]:=h.inv
def ay.scr(h:ay K dl H v (.z ns) F):∃a,v=.ref a/\FzL K H a (ns.map V.int)/\F=[]:=h.inv
def ay.kst(h:ay K dl H v (.k ws) F):∃a,v=.ref a/\(∀H',SqT K H' a (ws.map V.str))/\F=[]:=h.inv
def aq.len(h:aq K dl H vs ts F):vs.length=ts.length:=h.ind U λ_ _ _ _ _ _ _ _ g=>congrArg (· + 1) g
def aI.len(h:aI K dl H vs ts F):vs.length=ts.length:=h.ind U λ_ _ _ _ _ _ _ _ _ g=>congrArg (· + 1) g
def aq.QG{i:Nat}(h:aq K dl H vs ts F)(e:ts[i]?=Z t):∃v G,vs[i]?=Z v/\ay K dl H v t G/\G.Sublist F :=
 h.ind (λ_ _ e=>nomatch e) (λv x vs ts F G h _ g i t e=>by
  cases i with
  |zero=>cases e;exact(v,F,U,h,List.sublist_append_left _ _)
  |succ i =>
   let(w,q,h1,h2,h3):=g i t e;exact(w,q,h1,h2,h3.trans (Xq _ _))) i t e
def aq.get{i:Nat}(h:aq K dl H vs ts F)(e:ts[i]?=Z t):∃v G,vs[i]?=Z v/\ay K dl H v t G/\∀b∈G,b∈F :=
 Exists.elim (h.QG e) λv z=>Exists.elim z λG z=>(v,G,z.1,z.2.1,λ_ g=>z.2.2.subset g)
def aq.append{vs ws:List V}(h:aq K dl H vs ts F)(h2:aq K dl H ws us G):aq K dl H (vs++ws) (ts++us) (F++G) :=
 h.ind h2 λ_ _ _ _ _ _ h _ g=>by rw[Rl];exact .cons h g
def aq.iV(h:aq K dl H vs ts F):vs=[] ↔ ts=[]:=by
 cases h with
 |nil=>simp
 |cons _ _=>simp
theorem aq.drop:∀{vs:List V}{ts:List T}{F:List J}(n:Nat),aq K dl H vs ts F->∃G,aq K dl H (vs.drop n) (ts.drop n) G/\G.Sublist F
 |_,_,F,0,h=>(F,h,List.Sublist.refl _)
 |_,_,_,_+1,.nil=>([],.nil,List.Sublist.refl _)
 |_,_,_,n+1,.cons h r=>by
  let(G,h1,h2):=aq.drop n r;exact(G,h1,h2.trans (Xq _ _))
theorem aq.take:∀{vs:List V}{ts:List T}{F:List J}(n:Nat),aq K dl H vs ts F->∃G,aq K dl H (vs.take n) (ts.take n) G/\G.Sublist F
 |_,_,F,0,h=>([],.nil,List.nil_sublist _)
 |_,_,_,_+1,.nil=>([],.nil,List.Sublist.refl _)
 |_,_,_,n+1,.cons h r=>by
  let(G,h1,h2):=aq.take n r;exact(_,.cons h h1,h2.append_left _)
def Rp.sub(r:ay K dl H v t G)(n:∀b∈F,Nd dl b)(h:∀b∈G,b∈F):Rp K dl H v t G:=(r,λb g=>n b (h b g))
def Rp.c(r:ay K dl H v t []):Rp K dl H v t []:=(r,b6)
theorem Rps.tup(h:Rps K dl H vs ts F)(D:Dls dl H)(hp:H p=Y):Rp K dl (upd H p (.tup vs)) (.ref p) (.t ts) F :=
 let h2:=h.evo D ((Evo.refl D).new hp)
 (.t aw h2.r,h2.n)
theorem Rps.lst(h:Rps K dl H vs ts F)(D:Dls dl H)(hp:H p=Y):Rp K dl (upd H p (.lst vs)) (.ref p) (.l ts) (p::F) :=
 let h2:=h.evo D ((Evo.refl D).new hp)
 (.l aw h2.r,λb g=>by
  obtain e|g:=kz.mp g
  ·rw[e];exact D.nd0 hp
  ·exact h2.n b g)
theorem Rps.fresh(h:Rps K dl H vs ts F)(hp:H p=Y)(hn:F.Nodup):(p::F).Nodup:=u3.mpr (λz=>(h.r.there p z).no hp,hn)
def qII(C:Int->Int->Prop)(g:Int->Int->T):Q2:=λt u Q=>match t with
 |.i a=>match u with|.i b=>C a b/\Q (g a b)|_=>False
 |_=>False
def Gj{C:Int->Int->Prop}(hg:∀a b dl H,ay K dl H (g a b) (g' a b) []):cO K (rI C g) (qII C g'):=by
 intro dl H x y t u F G Q R D P q hq k;unfold qII at hq
 split at hq
 ·split at hq
  ·let(U,U):=P.r.int;let(U,U):=q.r.int;exact(_,_,U,U,hq.1,k _ _ [] H (.refl D) (.c (hg _ _ _ _)) b6 k4 hq.2)
  ·exact hq.elim
 ·exact hq.elim
def qI0(g:Int->Int->T):Q2:=λt u Q=>match t with
 |.i a=>match u with|.i b=>Q (g a b)|_=>False
 |_=>False
def qU(hg:∀a b dl H,ay K dl H (g a b) (g' a b) []):cO K (rI0 g) (qI0 g'):=by
 intro dl H x y t u F G Q R D P q hq k;unfold qI0 at hq
 split at hq
 ·split at hq
  ·let(U,U):=P.r.int;let(U,U):=q.r.int;exact(_,_,U,U,k _ _ [] H (.refl D) (.c (hg _ _ _ _)) b6 k4 hq)
  ·exact hq.elim
 ·exact hq.elim
def Mn:OpR X (binaryOp .Add) (λx y H Q=>∃a b xs ys,x=.ref a/\y=.ref b/\SqT X.K H a xs/\SqT X.K H b ys/\xs.length+ys.length<=mu /\
  (xs=[]->Q (.ref b) H)/\(xs ≠ []->ys=[]->Q (.ref a) H)/\(xs ≠ []->ys ≠ []->∀p,H p=Y->Q (.ref p) (upd H p (.tup (xs++ys))))):=by
 intro gV s σ H x y v u Q I rx V h;let(a,b,xs,ys,U,U,ha,hb,hz,q0,q1,q2):=h;by_cases hx:xs=[]
 ·cases rx;cases V;let(its,r1,p1,_):=I.tuple ha;let(bK,r2,p2,_):=I.tuple hb;let e:=r1.iV.mpr hx;subst e;let((cls,dd,data,sl),ho,hc,n,hd):=id p1;let((VD,P,data2,q),g,z,n2,hd2):=id p2;subst hc hd z hd2;exact concat_meets (_,ho,U) (_,g,U) noFill_tuple_add seq_tuple_add PySem.F.slot_tuple_add PySem.F.entry_tuple_add (PySem.F.args_tuple_add_2 _ _)
   (tuple_addW0 a b ([]).toArray bK.toArray n n2 dd P sl q (by simp)) (ho,g,(.ref b,H,I,U,q0 hx))
 ·exact Mp gV s σ H _ _ v u Q I rx V (a,b,xs,ys,U,U,ha,hb,hx,hz,q1 hx,q2 hx)
def GH(K:BT):R2:=λx y H Q=>rI0 (λi j=>.int (i+j)) x y H Q\/(∃i j,x=.str i/\y=.str j/\i.length+j.length<=mu/\Q (.str (i++j)) H)\/R4 x y H Q \/
 (∃a b xs ys,x=.ref a/\y=.ref b/\SqT K H a xs/\SqT K H b ys/\xs.length+ys.length<=mu /\
  (xs=[]->Q (.ref b) H)/\(xs ≠ []->ys=[]->Q (.ref a) H)/\(xs ≠ []->ys ≠ []->∀p,H p=Y->Q (.ref p) (upd H p (.tup (xs++ys)))))
def Mr(g:X.K=K):OpR X (binaryOp .Add) (GH K):=by subst g;exact nQ.or (Bj.or (PU.or Mn))
def t6:Q2:=λt u Q=>match t with
 |.i a=>match u with|.i b=>Q (.i (a+b))|_=>False
 |.s a=>match u with|.s b=>a.length+b.length<=mu/\Q (.s (a++b))|_=>False
 |.l a=>match u with|.l b=>a.length+b.length<=mu/\T.ims a=O/\T.ims b=O/\Q (.l (a++b))|_=>False
 |.t a=>match u with|.t b=>a.length+b.length<=mu/\T.ims a=O/\T.ims b=O/\Q (.t (a++b))|_=>False
 |_=>False
def Kw:cO K (GH K) t6:=by
 intro dl H x y t u F G Q R D q g hq k;let no:∀b,b∈([])->H b=none:=b6
 cases t with
 |i a =>
  dsimp only[t6]at hq
  split at hq
  ·let(U,U):=q.r.int;let(U,U):=g.r.int;exact .inl (_,_,U,U,k _ _ [] H (.refl D) (.c (.i _)) no k4 hq)
  ·exact hq.elim
 |s a =>
  dsimp only[t6]at hq
  split at hq
  ·let(U,U):=q.r.str;let(U,U):=g.r.str;exact .inr (.inl (_,_,U,U,hq.1,k _ _ [] H (.refl D) (.c (.s _)) no k4 hq.2))
  ·exact hq.elim
 |l a =>
  dsimp only[t6]at hq
  split at hq
  ·let(a,vs,F1,U,U,h1,s1):=q.r.lst;let(b,ws,G1,U,U,h2,s2):=g.r.lst;obtain rfl:=s1.im hq.2.1;obtain rfl:=s2.im hq.2.2.1;refine .inr (.inr (.inl (a,b,vs,ws,U,U,h1,h2,by rw[s1.len,s2.len];exact hq.1,λp hp=>?_)))
   let rs:Rps K dl H (vs++ws) _ ([] ++ []):=(s1.append s2,λc V=>nomatch V)
   exact k _ _ _ _ ((Evo.refl D).new hp) (rs.lst D hp) (λb hb=>by rw[g5.mp hb];exact hp) (by simp) hq.2.2.2
  ·exact hq.elim
 |t a =>
  dsimp only[t6]at hq
  split at hq
  ·let(a,vs,U,h1,s1):=q.r.tup;let(b,ws,U,h2,s2):=g.r.tup;obtain rfl:=s1.im hq.2.1;obtain rfl:=s2.im hq.2.2.1;refine .inr (.inr (.inr (a,b,vs,ws,U,U,SqT.of h1,SqT.of h2,by rw[s1.len,s2.len];exact hq.1,λe=>?_,λe1 e2=>?_,λ_ _ p hp=>?_)))
   ·refine k _ _ [] H (.refl D) g no k4 ?_;let z:=s1.iV.mp e;subst z;exact hq.2.2.2
   ·refine k _ _ [] H (.refl D) q no k4 ?_;let z:=s2.iV.mp e2;subst z;let P:=hq.2.2.2;rw[tG]at P;exact P
   ·let rs:Rps K dl H (vs++ws) _ ([] ++ []):=(s1.append s2,λc V=>nomatch V)
    exact k _ _ _ _ ((Evo.refl D).new hp) (rs.tup D hp) no k4 hq.2.2.2
  ·exact hq.elim
 |_=>exact hq.elim
def Lu:Q2:=λt u Q=>match t with
 |.i a=>match u with|.i b=>JT a b/\Q (.i (a*b))|_=>False
 |.s a=>match u with|.i b=>0<=b/\b<=1000/\a.length<=1000/\Q (.s (jn a b.toNat))|_=>False
 |_=>False
def GA:R2:=λx y H Q=>rI JT (λi j=>.int (i*j)) x y H Q\/(∃z n,x=.str z/\y=.int n/\0<=n/\n<=1000/\z.length<=1000/\Q (.str (jn z n.toNat)) H)
def Ml:OpR X (binaryOp .Mult) GA:=lj.or Bh
def Kr:cO K GA Lu:=by
 intro dl H x y t u F G Q R D q g hq k;cases t with
 |i a =>
  dsimp only[Lu]at hq
  split at hq
  ·let(U,U):=q.r.int;let(U,U):=g.r.int;exact .inl (_,_,U,U,hq.1,k _ _ [] H (.refl D) (.c (.i _)) b6 k4 hq.2)
  ·exact hq.elim
 |s a =>
  dsimp only[Lu]at hq
  split at hq
  ·let(U,U):=q.r.str;let(U,U):=g.r.int;exact .inr (_,_,U,U,hq.1,hq.2.1,hq.2.2.1,k _ _ [] H (.refl D) (.c (.s _)) b6 k4 hq.2.2.2)
  ·exact hq.elim
 |_=>exact hq.elim
end
section
variable{X:Cx}{K:BT}{a b:Ev}{ta tb:TE}{qa qb:QE}{pos:Pos}
def aV(ha:QPE X K a ta qa)(g:QPE X K b tb qb)(q:X.K=K:=by rfl):QPF X K (.BinOp a .Add b pos) (tOp (GH K) ta tb) (qOp t6 qa qb):=nN (Mr q) Kw ha g
def rD(ha:QPE X K a ta qa)(g:QPE X K b tb qb):QPF X K (.BinOp a .Sub b pos) (tOp (rI0 λi j=>.int (i - j)) ta tb) (qOp (qI0 λi j=>.i (i - j)) qa qb):=nN Bg (qU λ_ _ _ _=>.i _) ha g
def rE(ha:QPE X K a ta qa)(g:QPE X K b tb qb):QPF X K (.BinOp a .Mult b pos) (tOp GA ta tb) (qOp Lu qa qb):=nN Ml Kr ha g
def GQ(ha:QPE X K a ta qa)(g:QPE X K b tb qb):QPF X K (.BinOp a .Mod b pos) (tOp (rI (λ_ j=>0<j) λi j=>.int (i % j)) ta tb) (qOp (qII (λ_ j=>0<j) λi j=>.i (i % j)) qa qb):=nN iU (Gj λ_ _ _ _=>.i _) ha g
def Ln(ha:QPE X K a ta qa)(g:QPE X K b tb qb):QPF X K (.BinOp a .FloorDiv b pos) (tOp (rI JU λi j=>.int (i / j)) ta tb) (qOp (qII JU λi j=>.i (i / j)) qa qb):=nN yY (Gj λ_ _ _ _=>.i _) ha g
def Pa(ha:QPE X K a ta qa)(g:QPE X K b tb qb):QPF X K (.BinOp a .Pow b pos) (tOp (rI Rr λi j=>.int (i ^ j.toNat)) ta tb) (qOp (qII Rr λi j=>.i (i ^ j.toNat)) qa qb):=nN HJ (Gj λ_ _ _ _=>.i _) ha g
end
variable{H:Hp}{neg:Bool}{op:CmpOp}{rq:Q2}{j:Nat}
section
variable{X:Cx}{K:BT}{a b c e:Ev}{es rest:List Ev}{ta tb te:TE}{qa qb qe:QE}{tA tB:TT}{qA qB:QT}{tl:TA}{ql:QA}{pos:Pos}
def T.v:T->V
 |.n=>.non|.b x=>.bl x|.i x=>.int x|.s x=>.str x|_=>.ty ""
def T.fl:T->Bool
 |.n=>O|.b _=>O|.i _=>O|.s _=>O|_=>ϊ
theorem ay.v{dl:Dl}{v:V}{t:T}(h:ay K dl H v t F)(f:t.fl=O):v=t.v/\F=[]:=by
 cases h <;> first|exact(U,U)|exact absurd (f) qE
def qEq:Q2:=λt u Q=>(t.fl&&u.fl&&Ky t.v u.v)=O/\Q (.b (decide (t.v=u.v)))
def qNe:Q2:=λt u Q=>(t.fl&&u.fl&&Ky t.v u.v)=O/\Q (.b (!decide (t.v=u.v)))
def OV:cO K rEq qEq:=by
 intro dl H x y t u F G Q R D q g hq k;let(h,hq):=hq;rw[tD,tD]at h;let(U,U):=q.r.v h.1.1;let(U,U):=g.r.v h.1.2;exact(h.2,k _ _ [] H (.refl D) (.c (.b _)) b6 k4 hq)
def Aw:cO K rNe qNe:=by
 intro dl H x y t u F G Q R D q g hq k;let(h,hq):=hq;rw[tD,tD]at h;let(U,U):=q.r.v h.1.1;let(U,U):=g.r.v h.1.2;exact(h.2,k _ _ [] H (.refl D) (.c (.b _)) b6 k4 hq)
def Eh(neg:Bool):Q2:=λt u Q=>match u with
 |.n=>Q (.b (match t with|.n=>!neg|_=>neg))
 |_=>False
def ay.UR{dl:Dl}{v:V}{t:T}(h:ay K dl H v t F):decide (v=.non)=match(generalizing:=false) t with|.n=>!false|_=>false:=by cases h <;> rfl
def ay.US{dl:Dl}{v:V}{t:T}(h:ay K dl H v t F):(!decide (v=.non))=match(generalizing:=false) t with|.n=>!true|_=>true:=by cases h <;> rfl
def lX:cO K (λx y H Q=>y=.non/\Q (.bl (decide (x=.non))) H) (Eh ϊ):=by
 intro dl H x y t u F G Q R D q g hq k;unfold Eh at hq
 split at hq
 ·let(U,U):=g.r.non;refine(U,k _ _ [] H (.refl D) (.c (.b _)) b6 k4 ?_)
  rw[q.r.UR];exact hq
 ·exact hq.elim
def lV:cO K (λx y H Q=>y=.non/\Q (.bl (!decide (x=.non))) H) (Eh O):=by
 intro dl H x y t u F G Q R D q g hq k;unfold Eh at hq
 split at hq
 ·let(U,U):=g.r.non;refine(U,k _ _ [] H (.refl D) (.c (.b _)) b6 k4 ?_)
  rw[q.r.US];exact hq
 ·exact hq.elim
def inT(x:T)(xs:List T):Bool:=xs.any λy=>eqV y.v x.v
def fls(xs:List T):Bool:=xs.all T.fl
theorem aq.vs{dl:Dl}{vs:List V}(h:aq K dl H vs ts F):fls ts=O->vs=ts.map T.v/\F=[] :=
 h.ind (λ_=>(U,U)) λ_ _ _ _ _ _ h _ g f=>by
  let f:(_&&_)=true:=f;rw[tD]at f;let(U,U):=h.v f.1;let(U,U):=g f.2;exact(U,U)
def sI(f:fls ts=O):(ts.map T.v).all eu=true:=by
 rw[NM];intro x hx;let(t,g,U):=tE.mp hx
 have:=NM.mp f t g
 cases t <;> first|rfl|exact absurd this qE
def xr{t:T}(f:t.fl=O):eu t.v=true:=by cases t <;> first|rfl|exact absurd f qE
def KQ(K:BT)(neg:Bool):R2:=λx y H Q=>rIn K neg x y H Q\/∃i j,x=.str i/\y=.str j/\Q (.bl (if neg then !(!(Builtin.Str.occurrences j i 0 j.length 1).isEmpty)else !(Builtin.Str.occurrences j i 0 j.length 1).isEmpty)) H
def HM(g:X.K=K):OpR X (compareOp .In) (KQ K ϊ):=by subst g;exact Et.or Er
def Ep(g:X.K=K):OpR X (compareOp .NotIn) (KQ K O):=by subst g;exact wW.or wV
def qIn(neg:Bool):Q2:=λt u Q=>match u with
 |.l xs=>(t.fl&&fls xs)=O/\Q (.b (if neg then !inT t xs else inT t xs))
 |.t xs=>(t.fl&&fls xs)=O/\Q (.b (if neg then !inT t xs else inT t xs))
 |.k ws=>match t with
  |.s y=>Q (.b (if neg then !inT (.s y) (ws.map T.s)else inT (.s y) (ws.map T.s)))
  |_=>False
 |.s z=>match t with
  |.s y=>Q (.b (if neg then !(!(Builtin.Str.occurrences z y 0 z.length 1).isEmpty)else !(Builtin.Str.occurrences z y 0 z.length 1).isEmpty))
  |_=>False
 |_=>False
def Ax:cO K (KQ K neg) (qIn neg):=by
 intro dl H x y t u F G Q R D q g hq k;let go:∀xs p vs,y=.ref p->(SqL K H p vs\/SqT K H p vs)->(∃G,aq K dl H vs xs G)->(t.fl&&fls xs)=O/\Q (.b (if neg then !inT t xs else inT t xs))->KQ K neg x y H R:=by
  rintro xs p vs rfl hs ⟨G,rs⟩ ⟨f,hq⟩
  rw[tD]at f;let(U,U):=q.r.v f.1;let(U,_):=rs.vs f.2;refine .inl (p,_,U,hs,xr f.1,sI f.2,k _ (.b _) [] H (.refl D) (.c (.b _)) b6 k4 ?_)
  let e:inV t.v (xs.map T.v)=inT t xs:=by unfold inV inT;rw[XC];rfl
  rw[e];exact hq
 cases u with
 |l xs =>
  let(p,vs,G,U,_,h1,h2):=g.r.lst;exact go _ p vs U (.inl (SqL.of h1)) (_,h2) hq
 |t xs =>
  let(p,vs,U,h1,h2):=g.r.tup;exact go _ p vs U (.inr (SqT.of h1)) (_,h2) hq
 |k ws =>
  dsimp only[qIn]at hq
  split at hq
  ·let(p,U,h1,_):=g.r.kst;refine go _ p _ U (.inr (h1 H)) (_,kZ _) (?_,hq);rw[tD];refine(U,?_);unfold fls;rw[Xj,NM];exact λ_ _=>rfl
  ·exact hq.elim
 |s z =>
  dsimp only[qIn]at hq
  split at hq
  ·let(U,U):=q.r.str;let(U,U):=g.r.str;exact .inr (_,_,U,U,k _ _ [] H (.refl D) (.c (.b _)) b6 k4 hq)
  ·exact hq.elim
 |_=>exact hq.elim
def iR(ho:OpR X (compareOp op) r)(hs:cO K r rq)(hm:behindInMarks op b=ϊ)(ha:QPE X K a ta qa)(g:QPE X K b tb qb):QPF X K (.Compare a [op] [b] pos) (tOp r ta tb) (qOp rq qa qb) :=
 (CG ho ha.h g.h hm,vP hs ha.s g.s)
def uX(qe:QE):QT:=λq Q=>qe q λt=>match t with
 |.b x=>Q x
 |_=>False
def F5(h:gE K te qe):lK K (B0 te) (uX qe):=by
 intro dl H σ q Q R rd hq k;refine h dl H σ q _ _ rd hq λv t F H' e r g=>?_
 split at g
 ·let(U,U):=r.r.bl;exact(_,U,k _ H' e g)
 ·exact g.elim
def cj(ho:OpR X (compareOp op) r)(hs:cO K r rq)(hm:behindInMarks op b=ϊ)(ha:QPE X K a ta qa)(g:QPE X K b tb qb):QPT X K (.Compare a [op] [b] pos) (B0 (tOp r ta tb)) (uX (qOp rq qa qb)) :=
 (mx ho ha.h g.h hm,F5 (qR hs.w ha.s g.s))
def Sb(qe:QE):QT:=λq Q=>qe q λt=>match t with
 |.b x=>Q x
 |.n=>Q ϊ
 |.i x=>Q (x != 0)
 |.s x=>x.length<=mu/\Q ((x.length:Int) != 0)
 |.l xs=>Q (!xs.isEmpty)
 |.t xs=>Q (!xs.isEmpty)
 |.d xs=>Q (!xs.isEmpty)
 |_=>False
def Kk(h:gE K te qe):lK K (λσ H Q=>te σ H λx H'=>∃k,NG K x H' k/\Q k H') (Sb qe):=by
 intro dl H σ q Q R rd hq k;refine h dl H σ q _ _ rd hq λv t F H' e r g=>?_
 let emp:∀{α β:Type}{xs:List α}{ys:List β},xs.length=ys.length->(!xs.isEmpty) = !ys.isEmpty:=λ{α β xs ys} h=>by
  cases xs <;> cases ys <;> first|rfl|(simp at h)
 cases t with
 |b x =>
  let(U,U):=r.r.bl;exact(_,U,k _ H' e g)
 |n =>
  let(U,U):=r.r.non;exact(_,U,k _ H' e g)
 |i x =>
  let(U,U):=r.r.int;exact(_,U,k _ H' e g)
 |s x =>
  let(U,U):=r.r.str;exact(_,(g.1,U),k _ H' e g.2)
 |l xs =>
  let(p,vs,G,U,_,h1,h2):=r.r.lst;exact(_,.inl (vs,SqL.of h1,U),k _ H' e (by rw[emp h2.len];exact g))
 |t xs =>
  let(p,vs,U,h1,h2):=r.r.tup;exact(_,.inr (.inl (vs,SqT.of h1,U)),k _ H' e (by rw[emp h2.len];exact g))
 |d xs =>
  let(p,vs,G,U,_,h1,h2):=r.r.dic;exact(_,.inr (.inr (vs,h1,U)),k _ H' e (by rw[emp h2.len];exact g))
 |_=>exact g.elim
def cK(h:QPE X K e te qe)(he:∀whole,isTrue e X.env whole=(do let v <- whole;standAt e.pos;holding [v] (truthy v)):=by intro _;rfl)(g:X.K=K:=by rfl):
  QPT X K e (λσ H Q=>te σ H λx H'=>∃k,NG K x H' k/\Q k H') (Sb qe):=(by subst g;exact Hc h.h he,Kk h.s)
def Sj(t:QT):QT:=λq Q=>t q λc=>Q (!c)
def SF(t u:QT):QT:=λq Q=>t q λc=>if c=O then u q Q else Q ϊ
def qOr(t u:QT):QT:=λq Q=>t q λc=>if c=O then Q O else u q Q
def Ko(h:lK K tA qA):lK K (OJ tA) (Sj qA):=λdl H σ q _ R rd hq k=>h dl H σ q _ _ rd hq λb H' e g=>k _ H' e g
def Kv(h:lK K tA qA)(h2:lK K tB qB):lK K (OO tA tB) (SF qA qB):=λdl H σ q Q R rd hq k=>h dl H σ q _ _ rd hq λb H' e g=>by
 cases b with
 |false=>exact k _ H' e g
 |true=>exact h2 dl H' σ q Q R (rd.evo e) g λc H2 P z=>k c H2 (e.trans P) z
def OU(h:lK K tA qA)(h2:lK K tB qB):lK K (tOr tA tB) (qOr qA qB):=λdl H σ q Q R rd hq k=>h dl H σ q _ _ rd hq λb H' e g=>by
 cases b with
 |true=>exact k _ H' e g
 |false=>exact h2 dl H' σ q Q R (rd.evo e) g λc H2 P z=>k c H2 (e.trans P) z
def nK(h:QPT X K a tA qA):QPT X K (.UnaryOp .Not a pos) (OJ tA) (Sj qA):=(Pp h.h,Ko h.s)
def mj(h:QPT X K a tA qA):QPW X K (.BoolOp .And [a] pos) tA qA:=(Cu h.h,h.s)
def nI(h:QPT X K a tA qA):QPW X K (.BoolOp .Or [a] pos) tA qA:=(Pn h.h,h.s)
def rB(h:QPT X K a tA qA)(h2:QPW X K (.BoolOp .And (b::rest) pos) tB qB):QPW X K (.BoolOp .And (a::b::rest) pos) (OO tA tB) (SF qA qB):=(Ha h.h h2.h,Kv h.s h2.s)
def oE(h:QPT X K a tA qA)(h2:QPW X K (.BoolOp .Or (b::rest) pos) tB qB):QPW X K (.BoolOp .Or (a::b::rest) pos) (tOr tA tB) (qOr qA qB):=(SG h.h h2.h,OU h.s h2.s)
theorem QPW.pt(h:QPW X K e tA qA):QPT X K e tA qA:=(h.h.pt,h.s)
def Ob(qa qb:QE):QE:=λq Q=>qa q λt=>match t with
 |.b c=>if c=O then qb q Q else Q (.b ϊ)
 |_=>False
def N6(qa:QE):QE:=λq Q=>qa q λt=>match t with
 |.b c=>Q (.b (!c))
 |_=>False
def Gi(h:gE K ta qa)(h2:ka K tb qb):ka K (B2 ta tb) (Ob qa qb):=λdl H σ q Q R rd hq k=>h dl H σ q _ _ rd hq λv t F H' e r g=>by
 split at g
 ·rename_i c;let(U,U):=r.r.bl;refine(c,U,?_);cases c with
  |false=>exact k _ _ [] H' e r b6 k4 g
  |true=>exact h2 dl H' σ q Q R (rd.evo e) g λw u G H2 e2 P f2 V z=>k w u G H2 (e.trans e2) P (λb hb=>e.free (f2 b hb)) V z
 ·exact g.elim
def F8(h:gE K ta qa):ka K (FJ ta) (N6 qa):=λdl H σ q Q R rd hq k=>h dl H σ q _ _ rd hq λv t F H' e r g=>by
 split at g
 ·rename_i c;let(U,U):=r.r.bl;exact(c,U,k _ _ [] H' e (.c (.b _)) b6 k4 g)
 ·exact g.elim
def AW{op}(h:QPF X K a ta qa):QPF X K (.BoolOp op [a] pos) ta qa:=(Hu h.h,h.s)
def AY(ha:QPE X K a ta qa)(g:QPF X K (.BoolOp .And (b::rest) pos) tb qb):QPF X K (.BoolOp .And (a::b::rest) pos) (B2 ta tb) (Ob qa qb):=(HB ha.h g.h,Gi ha.s g.s)
def Pb(ha:QPE X K a ta qa):QPF X K (.UnaryOp .Not a pos) (FJ ta) (N6 qa):=(PJ ha.h,F8 ha.s)
def qIf(t:QT)(qa qb:QE):QE:=λq Q=>t q λc=>if c=O then qa q Q else qb q Q
def R8(hc:QPT X K c tA qA)(ha:QPF X K a ta qa)(g:QPF X K b tb qb):QPF X K (.IfExp c a b pos) (tIf tA ta tb) (qIf qA qa qb):=(Hw hc.h ha.h g.h,λdl H σ q Q R rd hq k=>hc.s dl H σ q _ _ rd hq λd H' e hz=>by
 cases d with
 |true=>exact ha.s dl H' σ q Q R (rd.evo e) hz λw u G H2 e2 P f2 V z=>k w u G H2 (e.trans e2) P (λb g=>e.free (f2 b g)) V z
 |false=>exact g.s dl H' σ q Q R (rd.evo e) hz λw u G H2 e2 P f2 V z=>k w u G H2 (e.trans e2) P (λb g=>e.free (f2 b g)) V z)
def gY(ha:QPE X K a ta qa):QPF X K (.UnaryOp .USub a pos) (tUn (rU λi=>.int (-i)) ta) (λq Q=>qa q λt=>match t with|.i x=>Q (.i (-x))|_=>False):=(Hs Aj ha.h,λdl H σ q Q R rd hq k=>ha.s dl H σ q _ _ rd hq λv t F H' e r g=>by
 split at g
 ·let(U,U):=r.r.int;exact(_,U,k _ _ [] H' e (.c (.i _)) b6 k4 g)
 ·exact g.elim)
def fc:QA:=λ_ Q=>Q []
def aJ(qa:QE)(ql:QA):QA:=λq Q=>qa q λt=>ql q λts=>Q (t::ts)
def ak:xS X K [] f6 fc:=(eh,λdl H σ q Q R rd hq k=>k [] [] [] H (.refl rd.d) (.nil,b6) U b6 k4 hq)
def xS.w(h:xS X K es tl ql):QPA X K es tl ql:=(h.h,λdl H σ q Q R rd hq k=>h.s dl H σ q Q R rd hq λvs ts F H' e r l _ _ z=>k vs ts F H' e r l z)
theorem Rps.cons{dl:Dl}(h:Rp K dl H v t F)(r:Rps K dl H vs ts G):Rps K dl H (v::vs) (t::ts) (F++G):=(.cons h.r r.r,λb g=>(p7.mp g).elim (h.n b) (r.n b))
def ae(ha:QPE X K e te qe)(hr:QPA X K es tl ql)(hs:AC X e es:=by rfl):QPA X K (e::es) (dh te tl) (aJ qe ql) :=
 (bN ha.h hr.h hs,λdl H σ q Q R rd hq k=>ha.s dl H σ q _ _ rd hq λv t F H1 g r1 hz=>hr.s dl H1 σ q _ _ (rd.evo g) hz λvs ts G H2 P V l2 z=>k _ _ _ H2 (g.trans P) (.cons (r1.evo g.d P) V) (by simp[l2]) z)
def af(ha:QPF X K e te qe)(hr:xS X K es tl ql)(hs:AC X e es:=by rfl):xS X K (e::es) (dh te tl) (aJ qe ql) :=
 (bN ha.h hr.h hs,λdl H σ q Q R rd hq k=>ha.s dl H σ q _ _ rd hq λv t F H1 g r1 f1 n1 hz=>hr.s dl H1 σ q _ _ (rd.evo g) hz λvs ts G H2 e2 r2 l2 f2 n2 z =>
  k _ _ _ H2 (g.trans e2) (.cons (r1.evo g.d e2) r2) (by simp[l2]) (λb P=>(p7.mp P).elim (f1 b) λP=>g.free (f2 b P)) (Fj.mpr (n1,n2,λx hx y hy V=>by
   subst V;exact(r1.r.there x hx).no (f2 x hy))) z)
def yI(ql:QA):QE:=λq Q=>ql q λts=>Q (.t ts)
def Lv(ql:QA):QE:=λq Q=>ql q λts=>Q (.l ts)
def ax(h:xS X K es tl ql)(hz:es.length<=1000:=by decide):QPF X K (.Tuple es P pos) (OG tl) (yI ql):=(Ht h.h,λdl H σ q Q R rd hq k=>h.s dl H σ q _ _ rd hq λvs ts F H1 g V l1 f1 n1 z =>
 (QH (aG (by lia)),λp hp=>k _ _ F _ (g.new hp) (V.tup g.d hp) f1 n1 z))
def Lf(h:QPA X K es tl ql)(hz:es.length<=1000:=by decide):QPE X K (.Tuple es P pos) (OG tl) (yI ql):=(Ht h.h,λdl H σ q Q R rd hq k=>h.s dl H σ q _ _ rd hq λvs ts F H1 g V l1 z =>
 (QH (aG (by omega)),λp hp=>k _ _ F _ (g.new hp) (V.tup g.d hp) z))
def aH(h:xS X K es tl ql)(hz:es.length<=1000:=by decide):QPF X K (.List es pos) (RG tl) (Lv ql):=(PN h.h,λdl H σ q Q R rd hq k=>h.s dl H σ q _ _ rd hq λvs ts F H1 P V l1 f1 n1 z =>
 (QH (aG (by omega)),λp hp=>k _ _ (p::F) _ (P.new hp) (V.lst P.d hp) (λb g=>by
  obtain e|g:=kz.mp g
  ·rw[e];exact P.free hp
  ·exact f1 b g) (V.fresh hp n1) z))
def mw(h:strsOf es=Z ws)(hl:es.length=ws.length:=by rfl):xS X K es (λ_ H Q=>Q (ws.map V.str) H) (λ_ Q=>Q (ws.map T.s)) :=
 (L0 h,λdl H σ q Q R rd hq k=>k _ _ [] H (.refl rd.d) (kZ ws,b6) (by rw[ej];exact hl.symm) b6 k4 hq)
def qIx:Q2:=λt u Q=>match u with
 |.i k=>match t with
  |.l xs=>Ex2 (λx=>atI xs k=Z x) Q
  |.t xs=>Ex2 (λx=>atI xs k=Z x) Q
  |.z ns=>Ex3 (λx=>atI ns k=Z x) (λx=>(.i x)) Q
  |.zl xs=>Ex2 (λx=>atI xs k=Z x) Q
  |.s z=>z.length<=mu/\Ex3 (λc=>atI z.cps.toList k=Z c) (λc=>(.s ⟨#[c]⟩)) Q
  |_=>False
 |_=>False
def mZ{ys:List β}{x:α}(h:atI xs k=Z x)(hl:xs.length=ys.length):∃j:Nat,xs[j]?=Z x/\ixN ys.length k=Z j:=by
 unfold atI at h;cases e:ixN xs.length k with
 |none=>rw[e]at h;cases h
 |some j=>rw[e]at h;exact(j,h,by rw[<- hl];exact e)
def lJ{xs:List α}{x:α}(h:ixN xs.length k=Z j)(hx:xs[j]?=Z x):atI xs k=Z x:=by unfold atI;rw[h];exact hx
def Gb:Ff K (rIx K) qIx:=by
 intro dl H x y t u F G Q R D g r2 hq k;unfold qIx at hq
 split at hq
 ·rename_i k0;let(U,U):=r2.r.int;cases t with
  |l xs =>
   let(p,vs,G,U,U,h1,h2):=g.r.lst;let(z,q,hq):=hq;let(j,hj,hi):=mZ q h2.len.symm;let(v,P,hv,rv,hs):=h2.get hj;exact .inl (p,vs,k0,v,U,U,SqL.of h1,lJ hi hv,k v z P H (.refl D) (Rp.sub rv g.n λb hb=>j0 _ (hs b hb)) hq)
  |t xs =>
   let(p,vs,U,h1,h2):=g.r.tup;let(z,q,hq):=hq;let(j,hj,hi):=mZ q h2.len.symm;let(v,P,hv,rv,hs):=h2.get hj;exact .inr (.inl (p,vs,k0,v,U,U,SqT.of h1,lJ hi hv,k v z P H (.refl D) (Rp.sub rv g.n hs) hq))
  |z ns =>
   let(p,U,h1,_):=g.r.scr;let(z,q,hq):=hq;refine .inl (p,_,k0,.int z,U,U,h1.sq,?_,k _ _ [] H (.refl D) (.c (.i _)) hq);let(j,hj,hi):=mZ (ys:=(_:List Int).map V.int) q (by rw[ej])
   exact lJ hi (by rw[j5,hj];rfl)
  |zl xs =>
   let(p,o,vs,U,U,h1,h2):=g.r.zls;let(z,q,hq):=hq;let(j,hj,hi):=mZ q h2.len.symm;let(v,P,hv,rv,hs):=h2.get hj;exact .inl (p,vs,k0,v,U,U,.inl (.inr (o,h1)),lJ hi hv,k v z P H (.refl D) (Rp.sub rv g.n hs) hq)
  |s z =>
   let(U,U):=g.r.str;let(hl,c,hc,hq):=hq;exact .inr (.inr (_,k0,c,U,U,hl,hc,k _ _ [] H (.refl D) (.c (.s _)) hq))
  |_=>exact hq.elim
 ·exact hq.elim
def ar(ha:QPE X K a ta qa)(g:QPE X K b tb qb)(hs:gN b:=by intro _ _;rfl)(q:X.K=K:=by rfl):QPE X K (.Subscript a b pos) (tOp (rIx K) ta tb) (qOp qIx qa qb):=(by subst q;exact oG sA ha.h g.h hs,qR Gb ha.s g.s)
end
variable{prog:Da}{A:Db}{E:B->ϋ->Prop}{items:Array B}{Q:B->ϋ->Prop}{p2:Pos}{n:Nat}{r:List V->Hp->VK->Prop}{us:List B}
section
variable{X:Cx}{K:BT}{a b c e:Ev}{es:List Ev}{te:TE}{qe:QE}{tl:TA}{ql:QA}{pos p:Pos}
abbrev QO:=Sq->(Option Int->Prop)->Prop
def VN(K:BT)(t:TO)(tq:QO):Prop:=∀(dl:Dl)(H:Hp)(σ:St)(q:Sq)(Q:Option Int->Prop)(R:Option Int->Hp->Prop),RdR K dl H σ q->tq q Q->(∀o H',Evo dl H H'->Q o->R o H')->t σ H R
structure QPO(X:Cx)(K:BT)(e:Option Ev)(t:TO)(tq:QO):Prop where
 h:PO X e t
 s:VN K t tq
def iQ:QPO X K Y B1 (λ_ Q=>Q Y):=(LN,λ_ _ _ _ _ _ rd hq k=>k Y _ (.refl rd.d) hq)
def iP(h:QPE X K e te qe):QPO X K (Z e) (NT te) (λq Q=>qe q λt=>match t with|.i x=>Q (Z x)|_=>False):=(wI h.h,λdl H σ q Q R rd hq k=>h.s dl H σ q _ _ rd hq λv t F H' e r g=>by
 split at g
 ·let(U,U):=r.r.int;exact(_,U,k _ H' e g)
 ·exact g.elim)
def eV{α:Type}(xs:List α)(lo hi:Option Int):List α:=(xs.drop (HT.sIx xs.length 0 lo)).take (HT.sIx xs.length xs.length hi - HT.sIx xs.length 0 lo)
def aq.cut{dl:Dl}{vs:List V}(lo hi:Option Int)(h:aq K dl H vs ts F):∃G,aq K dl H (mU vs lo hi) (eV ts lo hi) G/\G.Sublist F:=by
 unfold mU eV;rw[h.len];let(G,h1,s1):=h.drop (HT.sIx ts.length 0 lo);let(g,h2,s2):=h1.take (HT.sIx ts.length ts.length hi - HT.sIx ts.length 0 lo);exact(g,h2,s2.trans s1)
def kF{s:ϋ}{t sl:J}{V P:B}{lo hi:Option Int}(g:IsTup s.heap t items)(hs:s.heap.IsSliceOf sl V P .none)(pl:IsPart V lo)(pu:IsPart P hi)
  (hw:HT.sIx items.size 0 lo=0/\HT.sIx items.size items.size hi=items.size)
  (h:Q (.ref t) s):wpAny (model prog w) A (getItem (.ref t) (.ref sl)) Q E s:=by
 let(os,q,z,av):=id hs;let K:s.TypeIs (.ref sl) "slice":=(os,q,z);let hT:=g.typeIs;unfold getItem
 try with_reducible refine Fq ?_
 refine dD (wpAny_sequenceKey g.typeIs (by decide) ?_)
 refine dD (wpAny_callSpecial?_slot g.typeIs PyProof.Rows.slot_tuple_getitem
  (Es PyProof.Rows.slot_tuple_getitem g.typeIs entry_tuple_getitem ?_ (args_tuple_getitem _ _)))
 show wpAny _ _ (Builtin.Tuple.tupleItemsOf (.ref t) >>= _) _ _ s;refine dD (tupleItemsOf_ g (dD (V7 K ?_)));refine dD (HT.ib hs pl pu ?_);let hy:(((HT.sIx items.size 0 lo):Int)==0&&(1:Int)==1&&(HT.sIx items.size items.size hi - HT.sIx items.size 0 lo)==items.size)=true:=by
  rw[hw.1,hw.2];simp
 show wpAny _ _ (if(((HT.sIx items.size 0 lo):Int)==0&&(1)==1&&(HT.sIx items.size items.size hi - HT.sIx items.size 0 lo)==items.size)=O then _ else _) _ _ s
 rw[if_pos hy];exact dD (dD (V7 hT (kL (by rw[if_pos (by decide)];exact dD (Wb (kL (_,U,kL h)))))))
inductive RQ(K:BT)(x:V)(lo:Option Int)(hi:Option Int)(H:Hp)(Q:VK):Prop
 |mk(a xs)(h1:x=.ref a)(h2:SqT K H a xs)(h3:((HT.sIx xs.length 0 lo=0/\HT.sIx xs.length xs.length hi=xs.length)->Q (.ref a) H))(h4:(¬(HT.sIx xs.length 0 lo=0/\HT.sIx xs.length xs.length hi=xs.length)->∀p,H p=Y->Q (.ref p) (upd H p (.tup (mU xs lo hi)))))
def Kh:SlR X (RQ X.K):=by
 intro gV s σ H x v P z lo hi sl Q I g hs pl pu h;let(a,xs,U,hx,q1,V):=h;by_cases hw:HT.sIx xs.length 0 lo=0/\HT.sIx xs.length xs.length hi=xs.length
 ·cases g;let(its,r,q,hz):=I.tuple hx;let hlen:its.toArray.size=xs.length:=by exact r.length.symm
  exact("tuple",_,PyProof.Rows.slot_tuple_getitem.lookup,q.typeIs,kF q hs pl pu (by rw[hlen];exact hw) (.ref a,H,I,U,q1 hw))
 ·exact OS gV s σ H _ v P z lo hi sl Q I g hs pl pu (a,xs,U,hx,hw,V hw)
def EZ{xs:List α}{lo hi:Option Int}(h:HT.sIx xs.length 0 lo=0/\HT.sIx xs.length xs.length hi=xs.length):eV xs lo hi=xs:=by
 unfold eV;rw[h.1,h.2];simp
def RT(K:BT):V->Option Int->Option Int->Hp->VK->Prop:=λx lo hi H Q=>RS K x lo hi H Q\/RQ K x lo hi H Q\/RR x lo hi H Q
def Uu(g:X.K=K):SlR X (RT K):=by subst g;exact Ca.or (Kh.or OT)
def qSl(qe:QE)(l u:QO):QE:=λq Q=>qe q λt=>l q λlo=>u q λhi=>match t with
 |.l xs=>T.ims xs=O/\Q (.l (eV xs lo hi))
 |.t xs=>T.ims xs=O/\Q (.t (eV xs lo hi))
 |.z ns=>Q (.l ((eV ns lo hi).map T.i))
 |.zl xs=>Q (.l (eV xs lo hi))
 |.s z=>z.length<=mu/\Q (.s (Txt.slice z lo hi))
 |_=>False
def gc(he:QPE X K e te qe)(hl:QPO X K l av aD)(hu:QPO X K u az aF)(hK:X.K=K:=by rfl):QPF X K (.Subscript e (.Slice l u Y p2) pos) (tSl (RT K) te av az) (qSl qe aD aF) :=
 (yS (Uu hK) he.h hl.h hu.h,λdl H σ q Q R rd hq k=>he.s dl H σ q _ _ rd hq λv t F H1 e1 r1 g=>hl.s dl H1 σ q _ _ (rd.evo e1) g λlo H2 e2 g=>hu.s dl H2 σ q _ _ ((rd.evo e1).evo e2) g λhi H3 e3 g=>by
  let r3:=(r1.evo e1.d e2).evo e2.d e3;let P:=(e1.trans e2).trans e3;let no:∀b,b∈([])->H b=none:=b6
  cases t with
  |l xs =>
   let(p,vs,G,U,U,h1,h2):=r3.r.lst;obtain rfl:=h2.im g.1;let(G,h3,s3):=h2.cut lo hi;obtain rfl:=W6.mp s3;refine .inl (p,vs,U,SqL.of h1,λp hp=>?_)
   let rs:Rps K dl H3 (mU vs lo hi) _ []:=(h3,λc hc=>nomatch hc)
   exact k _ _ _ _ (P.new hp) (rs.lst e3.d hp) (λb hb=>by rw[g5.mp hb];exact P.free hp) (by simp) g.2
  |t xs =>
   let(p,vs,U,h1,h2):=r3.r.tup;obtain rfl:=h2.im g.1;let(G,h3,s3):=h2.cut lo hi;obtain rfl:=W6.mp s3;refine .inr (.inl (p,vs,U,SqT.of h1,λhw=>?_,λ_ p hp=>?_))
   ·refine k _ _ _ _ P r3 no k4 ?_;rw[h2.len]at hw;let aK:=g.2;rw[EZ hw]at aK;exact aK
   ·let rs:Rps K dl H3 (mU vs lo hi) _ []:=(h3,λc hc=>nomatch hc)
    exact k _ _ _ _ (P.new hp) (rs.tup e3.d hp) no k4 g.2
  |z ns =>
   let(p,U,h1,_):=r3.r.scr;refine .inl (p,_,U,h1.sq,λp hp=>?_)
   let e:mU (ns.map V.int) lo hi=(eV ns lo hi).map V.int:=by unfold mU eV;rw[ej,<- Xu,<- W9]
   rw[e];let rs:Rps K dl H3 ((eV ns lo hi).map V.int) ((eV ns lo hi).map T.i) []:=(rA _,λc hc=>nomatch hc)
   exact k _ _ _ _ (P.new hp) (rs.lst e3.d hp) (λb hb=>by rw[g5.mp hb];exact P.free hp) (by simp) g
  |zl xs =>
   let(p,o,vs,U,U,h1,h2):=r3.r.zls;let(G,h3,s3):=h2.cut lo hi;obtain rfl:=W6.mp s3;refine .inl (p,vs,U,.inl (.inr (o,h1)),λp hp=>?_)
   let rs:Rps K dl H3 (mU vs lo hi) _ []:=(h3,λc hc=>nomatch hc)
   exact k _ _ _ _ (P.new hp) (rs.lst e3.d hp) (λb hb=>by rw[g5.mp hb];exact P.free hp) (by simp) g
  |s z =>
   let(U,U):=r3.r.str;exact .inr (.inr (_,U,g.1,k _ _ [] H3 P (.c (.s _)) no k4 g.2))
  |_=>exact g.elim)
abbrev QC:=List T->(T->Prop)->Prop
def ou(K:BT)(r:List V->Hp->VK->Prop)(rq:QC):Prop:=∀(dl:Dl)(H:Hp)(vs:List V)(ts:List T)(F:List J)(Q:T->Prop)(R:V->Hp->Prop),Dls dl H->Rps K dl H vs ts F->rq ts Q ->
 (∀v z F' H',Evo dl H H'->Rp K dl H' v z F'->(∀b∈F',H b=Y)->F'.Nodup->Q z->R v H')->r vs H R
def qCB(rq:QC)(ql:QA):QE:=λq Q=>ql q λts=>rq ts Q
def Gf{rq:QC}(h:ou K r rq)(hl:zV K n tl ql):ka K (tCB r tl) (qCB rq ql):=λdl H σ q Q R rd hq k=>hl dl H σ q _ _ rd hq λvs ts F H1 P r1 _ g =>
 h dl H1 vs ts F Q R P.d r1 g λv z F' H2 e2 V f2 n2 g=>k v z F' H2 (P.trans e2) V (λb hb=>P.free (f2 b hb)) n2 g
def bD{id:String}{rq:QC}(z:cE X (.builtin id) r)(hs:ou K r rq)(hg:Gl X x)(hm:X.mg x=Y)(hv:bootBuiltins x=Z (.builtin id))(ha:QPA X K (e::es) tl ql)(hn:x ≠ "__name__":=by decide)(q:AS x:=by decide)
  (he:AC X e es:=by rfl) (g:AM X pos es:=by rfl):QPF X K (.Call (.Name x p) (e::es) [] pos) (tCB r tl) (qCB rq ql):=(rW z hg hm hv ha.h hn q he g,Gf hs ha.s)
def aY{id:String}{rq:QC}(z:cE X (.type id) r)(hs:ou K r rq)(hg:Gl X x)(hm:X.mg x=Y)(hv:bootBuiltins x=Z (.type id))(ha:QPA X K (e::es) tl ql)(hn:x ≠ "__name__":=by decide)(q:AS x:=by decide)
  (he:AC X e es:=by rfl) (g:AM X pos es:=by rfl):QPF X K (.Call (.Name x p) (e::es) [] pos) (tCB r tl) (qCB rq ql):=(Eo z hg hm hv ha.h hn q he g,Gf hs ha.s)
def Rps.one{dl:Dl}(h:Rps K dl H vs [t] F):∃v,vs=[v]/\Rp K dl H v t F:=by
 let(r,n):=h;cases r with
 |cons q g =>
  cases g;rw[tG]at n;rw[tG];exact(_,U,q,n)
def Rps.two{dl:Dl}(h:Rps K dl H vs [t,u] F):∃v w Q P,vs=[v,w]/\Rp K dl H v t Q/\Rp K dl H w u P:=by
 let(r,n):=h;cases r with
 |cons z q =>
  let(w,U,h2):=Rps.one (q,λb g=>n b (p5 _ g))
  exact(_,w,_,_,U,(z,λb g=>n b (qF _ g)),h2)
def GB(K:BT):List V->Hp->VK->Prop:=λxs H Q=>(∃p ys,xs=[.ref p]/\(SqL K H p ys\/SqT K H p ys)/\Q (.int ys.length) H)\/(∃z,xs=[.str z]/\z.length<=mu/\Q (.int z.length) H)\/∃a kvs,xs=[V.ref a]/\H a=Z (.dK kvs)/\Q (.int kvs.length) H
def E8(g:X.K=K):cE X (.builtin "len") (GB K):=by subst g;exact mX.or (xH.or E7)
def Eg:QC:=λts Q=>on1 ts λt=>match t with
 |.l xs=>Q (.i xs.length)
 |.t xs=>Q (.i xs.length)
 |.z xs=>Q (.i xs.length)
 |.zl xs=>Q (.i xs.length)
 |.d xs=>Q (.i xs.length)
 |.s x=>x.length<=mu/\Q (.i x.length)
 |_=>False
def Ks:ou K (GB K) Eg:=by
 intro dl H vs ts F Q R D r hq k;let fin:∀n,Q (.i n)->R (.int n) H:=λn hq=>k _ _ [] H (.refl D) (.c (.i _)) b6 k4 hq
 replace hq:=on1.inv hq
 let(t,U,hq):=hq;let(v,U,g):=r.one;cases t with
 |l xs =>
  let(p,vs,G,U,_,h1,h2):=g.r.lst;exact .inl (p,vs,U,.inl (SqL.of h1),fin _ (by rw[h2.len];exact hq))
 |t xs =>
  let(p,vs,U,h1,h2):=g.r.tup;exact .inl (p,vs,U,.inr (SqT.of h1),fin _ (by rw[h2.len];exact hq))
 |z xs =>
  let(p,U,h1,_):=g.r.scr;exact .inl (p,_,U,.inl h1.sq,fin _ (by rw[ej];exact hq))
 |zl xs =>
  let(p,o,vs,U,_,h1,h2):=g.r.zls;exact .inl (p,vs,U,.inl (.inl (.inr (o,h1))),fin _ (by rw[h2.len];exact hq))
 |d xs =>
  let(p,vs,G,U,_,h1,h2):=g.r.dic;exact .inr (.inr (p,vs,U,h1,fin _ (by rw[h2.len];exact hq)))
 |s x =>
  let(U,_):=g.r.str;exact .inr (.inl (_,U,hq.1,fin _ hq.2))
 |_=>exact hq.elim
def qI2(g:Int->Int->Int):QC:=λts Q=>on2 ts λt u=>match t with
 |.i a=>match u with
  |.i b=>Q (.i (g a b))
  |_=>False
 |_=>False
def qT:ou K (λxs H Q=>∃i j,xs=[.int i,.int j]/\Q (.int (g i j)) H) (qI2 g):=by
 intro dl H vs ts F Q R D r hq k
 replace hq:=on2.inv hq
 let(t,u,U,hq):=hq
 split at hq
 ·split at hq
  ·let(v,w,F1,V,U,P,q):=r.two;let(U,_):=P.r.int;let(U,_):=q.r.int;exact(_,_,U,k _ _ [] H (.refl D) (.c (.i _)) b6 k4 hq)
  ·exact hq.elim
 ·exact hq.elim
def UC:QC:=λts Q=>on1 ts λt=>match t with
 |.i a=>Q (.i a)
 |.b k=>Q (.i (if k then 1 else 0))
 |_=>False
def vQ:ou K (λxs H Q=>(∃i,xs=[.int i]/\Q (.int i) H)\/∃k,xs=[.bl k]/\Q (.int (if k then 1 else 0)) H) UC:=by
 intro dl H vs ts F Q R D r hq k
 replace hq:=on1.inv hq
 let(t,U,hq):=hq;cases t with
 |i a =>
  let(v,U,g):=r.one;let(U,_):=g.r.int;exact .inl (_,U,k _ _ [] H (.refl D) (.c (.i _)) b6 k4 hq)
 |b c =>
  let(v,U,g):=r.one;let(U,_):=g.r.bl;exact .inr (_,U,k _ _ [] H (.refl D) (.c (.i _)) b6 k4 hq)
 |_=>exact hq.elim
def Pe:QC:=λts Q=>on1 ts λt=>match t with
 |.l xs=>T.ims xs=O/\Q (.t xs)
 |.t xs=>T.ims xs=O/\Q (.t xs)
 |_=>False
def bW(g:X.K=K):cE X (.type "tuple") (λxs H Q=>∃p ys,xs=[.ref p]/\((SqL K H p ys/\∀l,H l=Y->Q (.ref l) (upd H l (.tup ys)))\/(SqT K H p ys/\Q (.ref p) H))):=by subst g;exact uA
def bU:ou K (λxs H Q=>∃p ys,xs=[.ref p]/\((SqL K H p ys/\∀l,H l=Y->Q (.ref l) (upd H l (.tup ys)))\/(SqT K H p ys/\Q (.ref p) H))) Pe:=by
 intro dl H vs ts F Q R D r hq k;let no:∀b,b∈([])->H b=none:=b6
 replace hq:=on1.inv hq
 let(t,U,hq):=hq;cases t with
 |l xs =>
  let(v,U,g):=r.one;let(p,vs,G,U,U,h1,h2):=g.r.lst;obtain rfl:=h2.im hq.1;refine(p,vs,U,.inl (SqL.of h1,λl hl=>?_))
  let rs:Rps K dl H vs _ []:=(h2,λc q=>nomatch q)
  exact k _ _ _ _ ((Evo.refl D).new hl) (rs.tup D hl) no k4 hq.2
 |t xs =>
  let(v,U,g):=r.one;let(p,vs,U,h1,h2):=g.r.tup;obtain rfl:=h2.im hq.1;exact(p,vs,U,.inr (SqT.of h1,k _ _ [] H (.refl D) g no k4 hq.2))
 |_=>exact hq.elim
def Pf:QC:=λts Q=>on1 ts λt=>match t with
 |.l xs=>T.ims xs=O/\Q (.l xs)
 |.t xs=>T.ims xs=O/\Q (.l xs)
 |_=>False
def vv(g:X.K=K):cE X (.type "list") (λxs H Q=>∃p ys,xs=[.ref p]/\(SqL K H p ys\/SqT K H p ys)/\∀l,H l=Y->Q (.ref l) (upd H l (.lst ys))):=by subst g;exact xG
def uM:ou K (λxs H Q=>∃p ys,xs=[.ref p]/\(SqL K H p ys\/SqT K H p ys)/\∀l,H l=Y->Q (.ref l) (upd H l (.lst ys))) Pf:=by
 intro dl H vs ts F Q R D r hq k
 replace hq:=on1.inv hq
 let(t,U,hq):=hq;cases t with
 |l xs =>
  let(v,U,g):=r.one;let(p,vs,G,U,U,h1,h2):=g.r.lst;obtain rfl:=h2.im hq.1;refine(p,vs,U,.inl (SqL.of h1),λl hl=>?_)
  let rs:Rps K dl H vs _ []:=(h2,λc q=>nomatch q)
  exact k _ _ _ _ ((Evo.refl D).new hl) (rs.lst D hl) (λb z=>by rw[g5.mp z];exact hl) (by simp) hq.2
 |t xs =>
  let(v,U,g):=r.one;let(p,vs,U,h1,h2):=g.r.tup;obtain rfl:=h2.im hq.1;refine(p,vs,U,.inr (SqT.of h1),λl hl=>?_)
  let rs:Rps K dl H vs _ []:=(h2,λc q=>nomatch q)
  exact k _ _ _ _ ((Evo.refl D).new hl) (rs.lst D hl) (λb z=>by rw[g5.mp z];exact hl) (by simp) hq.2
 |_=>exact hq.elim
def picks{α:Type}(f:T->Option α):List T->Option (List α)
 |[]=>Z []
 |t::r=>(f t).bind λa=>(picks f r).map (a :: ·)
theorem aq.picks{dl:Dl}{f:T->Option α}{g:α->V}(hf:∀(v:V)(t:T)(F:List J)(a:α),ay K dl H v t F->f t=Z a->v=g a){vs:List V}(h:aq K dl H vs ts F):∀{bs:List α},L2.picks f ts=Z bs->vs=bs.map g :=
 h.ind (M:=λvs ts F=>∀{bs:List α},L2.picks f ts=Z bs->vs=bs.map g) (λe=>by cases e;rfl) λv t vs ts F G h _ q bs e=>by
  let(a,Q,P):=Xy.mp e;let(as,z,U):=kg.mp P;rw[hf v t F a h Q,q z];rfl
def asB:T->Option Bool
 |.b x=>Z x
 |_=>Y
def asI:T->Option Int
 |.i x=>Z x
 |_=>Y
abbrev bls:List T->Option (List Bool):=picks asB
theorem aq.bls{dl:Dl}{vs:List V}(h:aq K dl H vs ts F)(e:L2.bls ts=Z bs):vs=bs.map V.bl :=
 h.picks (λv t F a h e=>by cases t <;> first|(cases e;exact h.bl.1)|cases e) e
def UH:QC:=λts Q=>on1 ts λt=>match t with
 |.l xs=>Ex3 (λbs=>bls xs=Z bs) (λbs=>(.b (bs.all id))) Q
 |_=>False
def oq(q:X.K=K)(g:X.calm=O):cE X (.builtin "all") (λxs H Q=>∃(l:J)(bs:List Bool),xs=[.ref l]/\SqL K H l (bs.map V.bl)/\Q (.bl (bs.all id)) H):=by subst q;exact Jt g
def vS:ou K (λxs H Q=>∃(l:J)(bs:List Bool),xs=[.ref l]/\SqL K H l (bs.map V.bl)/\Q (.bl (bs.all id)) H) UH:=by
 intro dl H vs ts F Q R D r hq k
 replace hq:=on1.inv hq
 let(t,U,hq):=hq
 split at hq
 ·let(v,U,g):=r.one;let(p,vs,G,U,U,h1,h2):=g.r.lst;let(bs,q,hq):=hq;let e:=h2.bls q;subst e;exact(p,bs,U,SqL.of h1,k _ _ [] H (.refl D) (.c (.b _)) b6 k4 hq)
 ·exact hq.elim
def T.tyN:T->Option String
 |.n=>Z "NoneType" |.b _=>Z "bool" |.i _=>Z "int" |.s _=>Z "str" |.l _=>Z "list" |.q=>Z "list" |.t _=>Z "tuple" |.d _=>Z "dict" |_=>Y
def ay.Us{dl:Dl}{v:V}{t:T}{n:String}(h:ay K dl H v t F)(e:t.tyN=Z n):kI K H v (.type n):=by
 cases h <;> first|(cases e;constructor;assumption)|(cases e;constructor)|(cases e)
theorem fZ(g:X.K=K):cE X (.builtin "isinstance") (λxs H Q=>∃x T t b,xs=[x,.ty T]/\kI K H x t/\W.kitOne K t (.type T)=Z b/\Q (.bl b) H):=by subst g;exact Js
def Tc(a b:String):Bool:=a==b ||(a == "bool" && b == "int")
def Sr:QC:=λts Q=>match ts with
 |[t,.ty n]=>match t.tyN with
  |some m=>(n == "tuple" || n == "list" || n == "str" || n == "int" || n == "bool" || n == "dict")=O/\Q (.b (Tc m n))
  |none=>False
 |_=>False
theorem MV{n m:String}(h:(n == "tuple" || n == "list" || n == "str" || n == "int" || n == "bool" || n == "dict")=O)(hm:m ∈ ["NoneType","bool","int","str","list","tuple","dict"]):W.kitOne K (.type m) (.type n)=Z (Tc m n):=by
 simp only[Bool.or_eq_true,beq_iff_eq]at h;simp only[kz,B9,or_false]at hm;obtain((((rfl|rfl)|rfl)|rfl)|rfl)|rfl:=h <;> obtain rfl|rfl|rfl|rfl|rfl|rfl|rfl:=hm <;> rfl
def J7{t:T}(h:t.tyN=Z m):m ∈ ["NoneType","bool","int","str","list","tuple","dict"]:=by
 cases t <;> cases h <;> decide
theorem kj:ou K (λxs H Q=>∃x T t b,xs=[x,.ty T]/\kI K H x t/\W.kitOne K t (.type T)=Z b/\Q (.bl b) H) Sr:=by
 intro dl H vs ts F Q R D r hq k;unfold Sr at hq
 split at hq
 ·let(v,w,V,P,U,q,g):=r.two;let e:=g.r.tyy;subst e
  split at hq
  ·rename_i m em;exact(v,_,_,_,U,q.r.Us em,MV hq.1 (J7 em),k _ _ [] H (.refl D) (.c (.b _)) b6 k4 hq.2)
  ·exact hq.elim
 ·exact hq.elim
def Ke(ns:List Int):preSum (λi=>ns.getD i 0) ns.length=ns.sum:=by
 let h:∀n,n<=ns.length->preSum (λi=>ns.getD i 0) n=(ns.take n).sum:=λn=>by
  induction n with
  |zero=>simp[preSum]
  |succ n q =>
   intro hn;let g:=by omega
   show preSum _ n+ns.getD n 0=_;rw[q (by lia),wh,Ws,eO g]
   simp only[Yc,List.sum_append,V5,List.sum_nil,Yt,Ww]
 rw[h _ (m9 _),tI]
def Ft{v:B}(r:Vals (ns.map V.int) us)(h:us[i]?=Z v):∃t,v=.int (ns.getD i 0) t:=by
 let hl:=r.length;rw[ej]at hl;let hi:i<ns.length:=by have:=(kf.mp h).1;lia
 let(u,h1,t,h2):=r.get (i:=i) (x:=.int ns[i]) (by simp[hi])
 rw[h]at h1;cases h1;exact(t,by rw[h2];simp[hi])
def kA(hK:X.K=K)(hc:X.calm=O):cE X (.builtin "sum") (λxs H Q=>∃(l:J)(ns:List Int),xs=[.ref l]/\SqL K H l (ns.map V.int)/\Q (.int ns.sum) H):=by
 subst hK;intro gV s σ H xs us Q I r h;let(l,ns,U,hl,q):=h;let(u,U,ru):=vals1 r;cases ru;let(its,rv,pl,hz):=I.list hl;let g:l<s.heap.objs.size:=by let(_,e,_):=pl.isList;exact kS e
 let hlen:its.toArray.size=ns.length:=by
  let e:=rv.length;rw[ej]at e;simp[e]
 refine call_sum_walkG (wpAny_pyIter_list pl.isList ((s.heap.objs.size,[s.heap.objs.size,l],[s.heap.objs.size],its.toArray.size,_,_,λi=>ns.getD i 0,U,Walks.list (show X.A.in1.handled=Y from I.ok.hd hc) s.heap.objs.size l (ui g) its.toArray,((_,p6 _ U,U,U),pl.isList.push _),?_,?_,λh' tk t' P=>?_)))
 ·intro b z;rw[Fs];obtain e|z:=kz.mp z
  ·rw[e];exact Wn _
  ·rw[g5.mp z];exact WL g
 ·intro i v hP;exact Ft rv (by simpa using hP)
 ·refine(.int ns.sum,H,I.kept λb o e=>P b o (by simpa using ui (kS e)) (j3 _ e),(t',?_),q)
  rw[hlen,Ke]
abbrev ins:List T->Option (List Int):=picks asI
theorem aq.ins{dl:Dl}{vs:List V}(h:aq K dl H vs ts F)(e:L2.ins ts=Z bs):vs=bs.map V.int :=
 h.picks (λv t F a h e=>by cases t <;> first|(cases e;exact h.int.1)|cases e) e
def ins_map(bs:List Int):ins (bs.map T.i)=Z bs:=by
 induction bs with
 |nil=>rfl
 |cons b r g=>show(ins (r.map T.i)).map (b :: ·)=_;rw[g];rfl
def Uy:QC:=λts Q=>on1 ts λt=>match t with
 |.l xs=>Ex3 (λbs=>ins xs=Z bs) (λbs=>(.i bs.sum)) Q
 |_=>False
def pR:ou K (λxs H Q=>∃(l:J)(ns:List Int),xs=[.ref l]/\SqL K H l (ns.map V.int)/\Q (.int ns.sum) H) Uy:=by
 intro dl H vs ts F Q R D r hq k
 replace hq:=on1.inv hq
 let(t,U,hq):=hq
 split at hq
 ·let(v,U,g):=r.one;let(p,vs,G,U,U,h1,h2):=g.r.lst;let(bs,q,hq):=hq;let e:=h2.ins q;subst e;exact(p,bs,U,SqL.of h1,k _ _ [] H (.refl D) (.c (.i _)) b6 k4 hq)
 ·exact hq.elim
end
structure dZ where
 nx:Sq->Prop
 rt:T->Prop
 bk:Sq->Prop:=λ_=>False
 ct:Sq->Prop:=λ_=>False
 ru:Sq->T->Prop:=λ_ _=>False
abbrev QS:=dZ->Sq->Prop
def dZ.lp(D:dZ)(N:Sq->Prop):dZ:={D with nx:=N,ct:=N,bk:=D.nx}
def dZ.fn(Q:T->Prop):dZ:={nx:=λ_=>Q .n,rt:=Q}
structure Frm(dl:Dl)(H₀ H:Hp):Prop where
 k:∀b o,H₀ b=Z o->Nd dl b->NR o->H b=Z o
 r:∀a x,H₀ a=Z (.room x)->∃y,y<=x/\H a=Z (.room y)
variable{H₀:Hp}
def Frm.evo{dl:Dl}(f:Frm dl H₀ H)(D:Dls dl H):Evo dl H₀ H:=(f.k,D,f.r)
def Frm.refl{dl:Dl}:Frm dl H H:=(λ_ _ h _ _=>h,λ_ x h=>(x,NL _,h))
variable{H':Hp}
def Frm.trans{dl:Dl}(f:Frm dl H₀ H)(e:Evo dl H H'):Frm dl H₀ H':=(λb o h n r=>e.k b o (f.k b o h n r) n r,λa x h=>let(y,q,h1):=f.r a x h;let(z,g,h2):=e.r a y h1;(z,Wc g q,h2))
structure Rel(K:BT)(dl:Dl)(H₀:Hp)(hs:List (V×T))(H:Hp)(σ:St)(q:Sq)(F:Nat->List J):Prop where
 d:Dls dl H
 g:∀(i:Nat)(x:Sl)(t:T),q[i]?=Z x->x.get=Z t->∃v,σ[i]?=Z (Z v)/\Rp K dl H v t (F i)
 n:∀(i:Nat)(x:Sl),q[i]?=Z x->x.get=Y->F i=[]
 z:∀(i:Nat),q.length<=i->F i=[]
 o:∀(i:Nat)(t:T),q[i]?=Z (.o t)->(F i).Nodup/\(∀b∈F i,H₀ b=Y)/\(∀j,j≠i->∀b∈F i,b ∉ F j)
 h:∀p∈hs,∃Fp,Rp K dl H p.1 p.2 Fp/\∀(i:Nat)(t:T),q[i]?=Z (.o t)->∀b∈F i,b ∉ Fp
 f:Frm dl H₀ H
 l:q.length=σ.length
def fU(K:BT)(dl:Dl)(H₀:Hp)(hs:List (V×T))(H:Hp)(σ:St)(q:Sq):Prop:=∃F,Rel K dl H₀ hs H σ q F
variable{F':List J}
section
variable{K:BT}{dl:Dl}{hs:List (V×T)}{σ:St}{q:Sq}{F:Nat->List J}
def Rel.rd(r:Rel K dl H₀ hs H σ q F):RdR K dl H σ q:=(r.d,λi x t h1 h2=>let(v,e,p):=r.g i x t h1 h2;(v,F i,e,p))
def Rel.fz(r:Rel K dl H₀ hs H σ q F)(h:H b=Y):H₀ b=none:=(r.f.evo r.d).free h
def Rel.fF(r:Rel K dl H₀ hs H σ q F)(P:b∈F i):fD H b:=by
 by_cases hi:i<q.length
 ·let e:q[i]?=Z q[i]:=by simp[hi]
  cases ex:q[i].get with
  |none=>rw[r.n i _ e ex]at P;cases P
  |some t =>
   let(v,_,p):=r.g i _ t e ex;exact p.r.there b P
 ·rw[r.z i (by lia)]at P;cases P
theorem Rel.evo(r:Rel K dl H₀ hs H σ q F)(e:Evo dl H H'):Rel K dl H₀ hs H' σ q F where
 d:=e.d
 g:=λi x t h1 h2=>let(v,P,p):=r.g i x t h1 h2;(v,P,p.evo r.d e)
 n:=r.n
 z:=r.z
 o:=r.o
 h:=λp hp=>let(Fp,h1,h2):=r.h p hp;(Fp,h1.evo r.d e,h2)
 f:=r.f.trans e
 l:=r.l
def qW(F:Nat->List J)(i:Nat)(x:List J):Nat->List Addr:=λj=>if j=i then x else F j
def aR{x:List J}:qW F i x i=x:=if_pos U
def aE{x:List J}(h:j≠i):qW F i x j=F j:=if_neg h
def get_set{xs:List α}{x y:α}(h:(xs.set i x)[j]?=Z y):(j=i/\y=x/\i<xs.length)\/(j≠i/\xs[j]?=Z y):=by
 by_cases e:j=i
 ·subst e;rw[List.getElem?_set_self']at h;by_cases hl:j<xs.length
  ·rw[eO hl]at h;exact .inl (U,(Option.some.inj h).symm,hl)
  ·rw[VX (by lia)]at h;cases h
 ·rw[E3 (λz=>e z.symm)]at h
  exact .inr (e,h)
def Rel.put(r:Rel K dl H₀ hs H σ q F)(hi:i<q.length)(e:Evo dl H H')(hv:Rp K dl H' v t F')(hf:∀b∈F',H b=Y)(hn:F'.Nodup):Rel K dl H₀ hs H' (σ.set i (Z v)) (q.set i (.o t)) (qW F i F'):=by
 let r':=r.evo e;let out:∀j,∀b∈F',b ∉ F j:=λj b P hj=>(r.fF hj).no (hf b P)
 refine(e.d,λj x u h1 h2=>?_,λj x h1 h2=>?_,λj hj=>?_,λj u h1=>?_,λp hp=>?_,r'.f,by simp[r.l])
 ·obtain⟨rfl,rfl,_⟩|⟨ne,h1⟩:=get_set h1
  ·cases h2;exact(v,by rw[JF (by rw[<- r.l];exact hi)],by rw[aR];exact hv)
  ·let(w,h3,h4):=r'.g j x u h1 h2;exact(w,by rw[E3 (λz=>ne z.symm)];exact h3,by rw[aE ne];exact h4)
 ·obtain⟨rfl,rfl,_⟩|⟨ne,h1⟩:=get_set h1
  ·cases h2
  ·rw[aE ne];exact r.n j x h1 h2
 ·rw[NP]at hj;rw[aE (by lia)]
  exact r.z j hj
 ·obtain⟨rfl,_,_⟩|⟨ne,h1⟩:=get_set h1
  ·rw[aR];exact(hn,λb P=>r.fz (hf b P),λk Q b P=>by rw[aE Q];exact out k b P)
  ·rw[aE ne];let(o1,o2,o3):=r.o j u h1;refine(o1,o2,λk Q b P=>?_)
   by_cases ek:k=i
   ·subst ek;rw[aR];exact λz=>out j b z P
   ·rw[aE ek];exact o3 k Q b P
 ·let(Fp,h1,h2):=r.h p hp;refine(Fp,h1.evo r.d e,λj u hj b P z=>?_)
  obtain⟨rfl,_,_⟩|⟨ne,hj⟩:=get_set hj
  ·rw[aR]at P;exact fD.no (h1.r.there b z) (hf b P)
  ·rw[aE ne]at P;exact h2 j u hj b P z
def Rel.LA(r:Rel K dl H₀ hs H σ q F)(hi:i<q.length)(hv:Rp K dl H v t F')(hf:∀(j:Nat)(u:T),q[j]?=Z (.o u)->j≠i->∀b∈F j,b ∉ F'):Rel K dl H₀ hs H (σ.set i (Z v)) (q.set i (.r t)) (qW F i F'):=by
 refine(r.d,λj x u h1 h2=>?_,λj x h1 h2=>?_,λj hj=>?_,λj u h1=>?_,λp hp=>?_,r.f,by simp[r.l])
 ·obtain⟨rfl,rfl,_⟩|⟨ne,h1⟩:=get_set h1
  ·cases h2;exact(v,by rw[JF (by rw[<- r.l];exact hi)],by rw[aR];exact hv)
  ·let(w,h3,h4):=r.g j x u h1 h2;exact(w,by rw[E3 (λz=>ne z.symm)];exact h3,by rw[aE ne];exact h4)
 ·obtain⟨rfl,rfl,_⟩|⟨ne,h1⟩:=get_set h1
  ·cases h2
  ·rw[aE ne];exact r.n j x h1 h2
 ·rw[NP]at hj;rw[aE (by omega)]
  exact r.z j hj
 ·obtain⟨rfl,e,_⟩|⟨ne,h1⟩:=get_set h1
  ·cases e
  ·rw[aE ne];let(o1,o2,Q):=r.o j u h1;refine(o1,o2,λk hk b P=>?_)
   let z:=hf j u h1 ne b P;by_cases ek:k=i
   ·subst ek;rw[aR];exact z
   ·rw[aE ek];exact Q k hk b P
 ·let(Fp,h1,h2):=r.h p hp;refine(Fp,h1,λj u hj b P z=>?_)
  obtain⟨rfl,e,_⟩|⟨ne,hj⟩:=get_set hj
  ·cases e
  ·rw[aE ne]at P;exact h2 j u hj b P z
def Rel.hold(r:Rel K dl H₀ hs H σ q F)(hv:Rp K dl H v t F')(hf:∀(j:Nat)(u:T),q[j]?=Z (.o u)->∀b∈F j,b ∉ F'):Rel K dl H₀ ((v,t)::hs) H σ q F :=
 (r.d,r.g,r.n,r.z,r.o,λp hp=>by
  obtain e|hp:=kz.mp hp
  ·subst e;exact(F',hv,hf)
  ·exact r.h p hp,r.f,r.l)
def Rel.down(r:Rel K dl H₀ hs H σ q F)(hi:q[i]?=Z (.o t)):Rel K dl H₀ hs H σ (q.set i (.r t)) F:=by
 refine(r.d,λj x u h1 h2=>?_,λj x h1 h2=>?_,λj hj=>r.z j (by rw[NP]at hj;exact hj),λj u h1=>?_,λp hp=>?_,r.f,by simp[r.l])
 ·obtain⟨rfl,rfl,_⟩|⟨ne,h1⟩:=get_set h1
  ·cases h2;exact r.g j _ t hi U
  ·exact r.g j x u h1 h2
 ·obtain⟨rfl,rfl,_⟩|⟨ne,h1⟩:=get_set h1
  ·cases h2
  ·exact r.n j x h1 h2
 ·obtain⟨rfl,e,_⟩|⟨ne,h1⟩:=get_set h1
  ·cases e
  ·exact r.o j u h1
 ·let(Fp,h1,h2):=r.h p hp;refine(Fp,h1,λj u hj=>?_)
  obtain⟨rfl,e,_⟩|⟨ne,hj⟩:=get_set hj
  ·cases e
  ·exact h2 j u hj
def Rel.write{o:HO}(r:Rel K dl H₀ hs H σ q F)(hi:q[i]?=Z (.o t))(hv:σ[i]?=Z (Z v))(hp:p∈F i)(ho:∀xs,H p=Z (.lst xs)->∃ys,o=.lst ys)(hr:Rp K dl (upd H p o) v t' F')(hn:F'.Nodup)
  (hf:∀b∈F',b∈F i\/(H₀ b=Y/\(∀j,b ∉ F j)/\∀w u Fp,Rp K dl H w u Fp->(w,u)∈hs->b ∉ Fp)):Rel K dl H₀ hs (upd H p o) σ (q.set i (.o t')) (qW F i F'):=by
 let(o1,o2,o3):=r.o i t hi;let az:=(kf.mp hi).1;let(v',av,rp):=r.g i _ t hi U;let pn:=rp.n p hp;let Q:=r.fF hp;let tf:TF H (upd H p o):=(λa vs h=>(by
  rw[aj];exact h;intro z;subst z;let(_,e,m):=Q;rw[h]at e;cases e;cases m),λa ob u h=>(by
  rw[aj];exact h;intro z;subst z;let(_,e,m):=Q;rw[h]at e;cases e;cases m),λa φ h=>(by
  rw[aj];exact h;intro z;subst z;let(_,e,m):=Q;rw[h]at e;cases e;cases m),λa xs h=>(by
  by_cases z:a=p
  ·subst z;let(ys,e):=ho xs h;exact(ys,by rw[aw,e])
  ·exact(xs,by rw[aj z];exact h)),λa x h=>(x,NL _,by
  rw[aj];exact h;intro z;subst z;let(_,e,m):=Q;rw[h]at e;cases e;cases m))
 let st:∀{w:V}{u:T}{Fw:List J},Rp K dl H w u Fw->p ∉ Fw->Rp K dl (upd H p o) w u Fw:=λ{w u Fw} h np =>
  (h.r.cx tf (λ_ z=>z) λb P ob e=>(by
   let ne:b≠p:=by
    intro z;subst z;exact np P
   rw[aj ne];exact e),h.n)
 refine(λd hd=>(r.d d hd).other (pn d hd).1 (pn d hd).2,λj x u h1 h2=>?_,λj x h1 h2=>?_,λj hj=>?_,λj u h1=>?_,λw hw=>?_,(λb ob P nb nr=>?_,λb x P=>?_),by simp[r.l])
 ·obtain⟨rfl,rfl,_⟩|⟨ne,h1⟩:=get_set h1
  ·cases h2;exact(v,hv,by rw[aR];exact hr)
  ·let(w,h3,h4):=r.g j x u h1 h2;exact(w,h3,by rw[aE ne];exact st h4 (o3 j ne p hp))
 ·obtain⟨rfl,rfl,_⟩|⟨ne,h1⟩:=get_set h1
  ·cases h2
  ·rw[aE ne];exact r.n j x h1 h2
 ·rw[NP]at hj;rw[aE (by omega)]
  exact r.z j hj
 ·obtain⟨rfl,e,_⟩|⟨ne,h1⟩:=get_set h1
  ·rw[aR];refine(hn,λb P=>?_,λk hk b P=>?_)
   ·obtain z|z:=hf b P
    ·exact o2 b z
    ·exact z.1
   ·rw[aE hk];obtain z|z:=hf b P
    ·exact o3 k hk b z
    ·exact z.2.1 k
  ·rw[aE ne];let(p1,p2,p3):=r.o j u h1;refine(p1,p2,λk hk b P=>?_)
   by_cases ek:k=i
   ·subst ek;rw[aR];intro z;obtain z|z:=hf b z
    ·exact o3 j ne b z P
    ·exact z.2.1 j P
   ·rw[aE ek];exact p3 k hk b P
 ·let(Fp,h1,h2):=r.h w hw;refine(Fp,st h1 (h2 i t hi p hp),λj u hj b P z=>?_)
  obtain⟨rfl,e,_⟩|⟨ne,hj⟩:=get_set hj
  ·rw[aR]at P;obtain y|y:=hf b P
   ·exact h2 j t hi b y z
   ·exact y.2.2 w.1 w.2 Fp h1 hw z
  ·rw[aE ne]at P;exact h2 j u hj b P z
 ·rw[aj]
  ·exact r.f.k b ob P nb nr
  ·intro z;subst z;rw[o2 b hp]at P;cases P
 ·let(y,hy,e):=r.f.r b x P;refine(y,hy,?_);rw[aj]
  ·exact e
  ·intro z;subst z;rw[o2 b hp]at P;cases P
end
structure Rq(K:BT)(dl:Dl)(H₀:Hp)(hs:List (V×T))(Dq:dZ)(D:Ends):Prop where
 nx:∀H σ q,fU K dl H₀ hs H σ q->Dq.nx q->D.nx σ H
 bk:∀H σ q,fU K dl H₀ hs H σ q->Dq.bk q->D.bk σ H
 ct:∀H σ q,fU K dl H₀ hs H σ q->Dq.ct q->D.ct σ H
 rt:∀v t F H,Dls dl H->Rp K dl H v t F->(∀b∈F,H₀ b=Y)->F.Nodup->Frm dl H₀ H->Dq.rt t->D.rt v H
 ru:∀H σ q F0 v t F,Rel K dl H₀ hs H σ q F0->Rp K dl H v t F->(∀b∈F,H₀ b=Y)->F.Nodup->(∀j,∀b∈F,b ∉ F0 j)->Dq.ru q t->D.rt v H
def j9(K:BT)(ts:TS)(qs:QS):Prop:=∀(dl:Dl)(H₀:Hp)(hs:List (V×T))(H:Hp)(σ:St)(q:Sq)(Dq:dZ)(D:Ends),fU K dl H₀ hs H σ q->qs Dq q->Rq K dl H₀ hs Dq D->ts D σ H
structure QPS(X:Cx)(K:BT)(st:EQ)(ts:TS)(qs:QS):Prop where
 h:PS X st ts
 s:j9 K ts qs
structure ox(X:Cx)(K:BT)(st:List EQ)(ts:TS)(qs:QS):Prop where
 h:PSs X st ts
 s:j9 K ts qs
variable{q:Sq}{pos':Pos}
section
variable{X:Cx}{K:BT}{st:EQ}{rest sa sb:List EQ}{t u:TS}{qt qu:QS}{e c:Ev}{te:TE}{qe:QE}{tc:TT}{qc:QT}{pos:Pos}
def Cs:QS:=λD q=>D.nx q
def dZ.seq(D:dZ)(u:QS):dZ:={D with nx:=u D}
def wx(t u:QS):QS:=λD q=>t (D.seq u) q
def aT:ox X K [] FK Cs:=(wC,λ_ _ _ H σ q _ _ r hq E=>E.nx H σ q r hq)
def ag(h1:QPS X K st t qt)(h2:ox X K rest u qu):ox X K (st::rest) (OH t u) (wx qt qu):=(bY h1.h h2.h,λdl H₀ hs H σ q Dq D r hq E =>
 h1.s dl H₀ hs H σ q _ _ r hq (λH σ q z g=>h2.s dl H₀ hs H σ q _ _ z g E,E.bk,E.ct,E.rt,E.ru))
def ai(h1:QPS X K st t qt):ox X K [st] t qt:=(gH h1.h,h1.s)
def aQ(he:QPF X K e te qe):QPS X K (.Return (Z e) pos) (FI te) (λD q=>qe q D.rt):=(k7 he.h,λdl H₀ hs H σ q Dq D (F,r) hq E =>
 he.s dl H σ q _ _ r.rd hq λv t F' H' g z f1 P Q=>E.rt v t F' H' g.d z (λb V=>r.fz (f1 b V)) P (r.evo g).f Q)
def kn(he:PE X e (bB i)):QPS X K (.Return (Z e) pos) (FI (bB i)) (λD q=>match q[i]? with|some (.o t)=>D.rt t|_=>False):=(k7 he,λdl H₀ hs H σ q Dq D (F,r) hq E=>by
 split at hq
 ·rename_i t z;let(v,hv,P):=r.g i _ t z U;let(Q,o2,V):=r.o i t z;exact(v,hv,E.rt v t (F i) H r.d P o2 Q r.f hq)
 ·exact hq.elim)
def Lw(c:QT)(t u:QS):QS:=λD q=>c q λb=>if b=O then t D q else u D q
def bc(z:QPT X K c tc qc)(ha:ox X K sa t qt)(P:ox X K sb u qu):QPS X K (.If c sa sb pos) (OL tc t u) (Lw qc qt qu):=(He z.h ha.h P.h,λdl H₀ hs H σ q Dq D (F,r) hq E =>
 z.s dl H σ q _ _ r.rd hq λb H' Q g=>by
  cases b with
  |true=>exact ha.s dl H₀ hs H' σ q Dq D (F,r.evo Q) g E
  |false=>exact P.s dl H₀ hs H' σ q Dq D (F,r.evo Q) g E)
def AZ(i:Nat)(qe:QE):QS:=λD q=>qe q λt=>D.nx (q.set i (.o t))
def Rel.eT{dl:Dl}{t:T}(r:Rel K dl H₀ hs H σ q F)(e:Evo dl H H')(hv:Rp K dl H' v t F')(hf:∀b∈F',H b=Y)(hn:F'.Nodup):fU K dl H₀ hs H' (σ.set i (Z v)) (q.set i (.o t)):=by
 by_cases hi:i<q.length
 ·exact(_,r.put hi e hv hf hn)
 ·let hl:=r.l;rw[Xv (by lia),Xv (by lia)]
  exact(F,r.evo e)
def Cb(he:ka K te qe):j9 K (iG te (eY i)) (AZ i qe):=λdl H₀ hs H σ q Dq D (F,r) hq E=>he dl H σ q _ _ r.rd hq λv t F' H' Q g f1 z P=>E.nx H' _ _ (r.eT Q g f1 z) P
def O6(g:X.N.Nodup)(hi:X.N[i]?=Z x)(hx:Loc X.env.scope x)(he:QPF X K e te qe)(hs:swapsWith e (Z (.Name x pos')) pos.line X.env=pure false:=by rfl)(hf:AT X x:=by first|exact .inl rfl|exact .inr rfl|assumption):
  QPS X K (.Assign [.Name x pos'] e pos) (iG te (eY i)) (AZ i qe):=(gZ g hi hx he.h hs hf,Cb he.s)
inductive Uc(tb:QS)(D:dZ)(W:Nat->Sq->Prop)(m:Nat)(q:Sq):Prop
 |mk(N:Sq->Prop)(less:∀q',N q'->∃m',m'<m/\W m' q')(body:tb (D.lp N) q)
inductive WhileI(c:QT)(tb:QS)(D:dZ)(q:Sq):Prop
 |mk (W:Nat->Sq->Prop) (h0:∃m,W m q) (turn:∀m q,W m q->c q λb=>if b=O then Uc tb D W m q else D.nx q)
def Pd(c:QT)(tb:QS):QS:=λD q=>WhileI c tb D q
def rC(hp:XW (model X.prog X.w) X.A X.env X.xe)(P:QPT X K c tc qc)(Q:ox X K rest t qt):QPS X K (.While c rest [] pos) (Aq tc t) (Pd qc qt):=(yN hp P.h Q.h,λdl H₀ hs H σ q Dq D r hq E=>by
 let(W,(m0,w0),turn):=hq;refine(λm σ H=>∃q,fU K dl H₀ hs H σ q/\W m q,(m0,q,r,w0),?_)
 rintro m σ H ⟨q,⟨F,r⟩,w⟩
 refine P.s dl H σ q _ _ r.rd (turn m q w) λb H1 V z=>?_
 cases b with
 |false=>exact E.nx H1 σ q (F,r.evo V) z
 |true =>
  let(N,hN,z):=z;refine(λg H'=>∃q',fU K dl H₀ hs H' g q'/\N q',λg H' (q',r',n')=>?_,?_)
  ·let(m',hm,w'):=hN q' n';exact(m',hm,q',r',w')
  ·exact Q.s dl H₀ hs H1 σ q _ _ (F,r.evo V) z (λH σ q r n=>(q,r,n),λH σ q r n=>E.nx H σ q r n,λH σ q r n=>(q,r,n),E.rt,E.ru))
end
abbrev PSp:=List T->(T->Prop)->Prop
inductive spQ(K:BT)(ps:PSp)(vs:List V)(H:Hp)(Q:VK)(_:XK):Prop
 |mk(dl:Dl)(ts:List T)(F:List J)(Qp:T->Prop)(h1:Dls dl H)(h2:Rps K dl H vs ts F)(h3:ps ts Qp)(h4:∀v t F' H',Evo dl H H'->Rp K dl H' v t F'->(∀b∈F',H b=Y)->F'.Nodup->Qp t->Q v H')
section
variable{X:Cx}{K:BT}{e:Ev}{es:List Ev}{tl:TA}{ql:QA}{pos p:Pos}{k:Nat}{f:J}{fd:Ch}{prs:List Str}{ps:PSp}
def ig(ps:PSp)(ql:QA):QE:=λq Q=>ql q λts=>ps ts Q
def Gh(ha:zV K n tl ql):ka K (qO (spQ K ps) [] E0 tl) (ig ps ql):=λdl H σ q Q R rd hq k=>ha dl H σ q _ _ rd hq λvs ts F H1 z P _ g=>by
 rw[tG];exact(dl,ts,F,Q,z.d,P,g,λv t F' H' e r f n g=>k v t F' H' (z.trans e) r (λb V=>z.free (f b V)) n g)
theorem Lq(F:bb X.prog X.w X.K X.mg X.base CX0 k f fd prs (spQ K ps))(hr:cu k X.A)(hg:Gl X x)(hm:X.mg x=Z (.ref f))(z:W.keepIn X.K (.ref f)=O)(P:Binds X.K fd prs [])(ha:QPA X K (e::es) tl ql)
  (q:AS x:=by decide) (he:AC X e es:=by rfl) (g:AM X pos es:=by rfl):
  QPF X K (.Call (.Name x p) (e::es) [] pos) (qO (spQ K ps) [] E0 tl) (ig ps ql):=(wR F hr hg hm z P .nil kN ha.h q he g,Gh ha.s)
end
theorem uR{K:BT}{dl:Dl}(D:Dls dl H)(r:Rps K dl H vs ts F)(hn:vs.length<=n):fU K dl H [] H (vs.map Z++BQ (n - vs.length) Y) (ts.map Sl.r++BQ (n - vs.length) .no):=by
 let hl:=r.r.len;let main:∀{vs:List V}{ts:List T}{F:List J},aq K dl H vs ts F->(∀b∈F,Nd dl b)->∃g:Nat->List J,(∀i t,ts[i]?=Z t->∃v,vs[i]?=Z v/\Rp K dl H v t (g i))/\∀i,ts.length<=i->g i=[]:=by
  intro vs ts F h
  induction ts generalizing vs F with
  |nil=>intro _;exact(λ_=>[],λi t e=>by simp at e,λ_ _=>rfl)
  |cons t ts ih =>
   cases h with
   |@cons v0 _ av _ F1 G1 h1 h2 =>
    intro hn;let(g,g1,g2):=ih h2 λb P=>hn b (p5 _ P)
    refine(λi=>match i with | 0=>F1|i+1=>g i,λi u e=>?_,λi hi=>?_)
    ·cases i with
     |zero =>
      simp at e;subst e;exact(_,by simp,h1,λb P=>hn b (qF _ P))
     |succ i =>
      let(v,q,Q):=g1 i u (by simpa using e)
      exact(v,by simpa using q,Q)
    ·cases i with
     |zero=>simp at hi
     |succ i=>exact g2 i (by simpa using hi)
 let(g,g1,g2):=main r.r r.n;let lk:∀i y,(ts.map Sl.r++BQ (n - vs.length) Sl.no)[i]?=Z y->(∃t,ts[i]?=Z t/\y=.r t)\/(ts.length<=i/\y=.no):=λi y h=>by
  by_cases hi:i<ts.length
  ·rw[u4 (by simpa using hi),j5,eO hi]at h
   exact .inl (ts[i],by simp,(Option.some.inj h).symm)
  ·rw[vr (by simpa using hi),Wy]at h
   split at h
   ·exact .inr (by lia,(Option.some.inj h).symm)
   ·cases h
 refine(g,D,λi y t h1 h2=>?_,λi y h1 h2=>?_,λi hi=>?_,λi t h1=>?_,λp hp=>(by cases hp),.refl,by simp[hl])
 ·obtain⟨u,e,rfl⟩|⟨_,rfl⟩:=lk i y h1
  ·cases h2;let(v,q,Q):=g1 i t e;refine(v,?_,Q);let hi:=(kf.mp q).1;rw[u4 (by simpa using hi),j5,q]
   rfl
  ·cases h2
 ·obtain⟨u,e,rfl⟩|⟨hi,rfl⟩:=lk i y h1
  ·cases h2
  ·exact g2 i hi
 ·refine g2 i ?_;simp at hi
  lia
 ·obtain⟨u,e,z⟩|⟨_,z⟩:=lk i _ h1 <;> cases z
variable{P:Da}{mg:Str->Option B}{base:Do}{qual:Str}{fd:Ch}{N:List Str}
theorem Fun.okQ{K:BT}{st:EQ}(F:Fun K x qual st f fd)(S:aB N ps (ao st))(len:∀ts Q,g ts Q->ts.length=ps.length)
  (jN:∀(cdv:B)(A:Db)(outer:List Env)(s:ϋ)(H:Hp)(E:XK),cu k (A.deeper (envOfC qual (ao st) s.heap.objs.size f cdv)) ->
   ∃t qs,ox (sO CX0 P w K mg base N qual (ao st) f cdv A outer s H E).nox K (cb st) t qs/\∀ts Q,g ts Q->qs (.fn Q) (ts.map Sl.r++BQ (N.length - ts.length) .no)):bb P w K mg base CX0 (k+1) f fd ps (spQ K g):=by
 let av:=by have:=congrArg V3 S.pre;rw[z7]at this;omega
 refine F.ok S (λvs H Q E h=>?_) (λcdv A outer s H vs Q E hr h=>?_)
 ·let(dl,ts,F,Qp,_,r,h,_):=h;rw[r.r.len];exact len ts Qp h
 ·let(dl,ts,Fp,Qp,D,r,h,fin):=h;let(t,qs,hb,hq):=jN cdv A outer s H E hr;refine(t,hb.h,?_);let hlen:=len ts Qp h;let hl:=r.r.len;let z:=hq ts Qp h;let R:=uR (n:=N.length) D r (by lia)
  rw[<- hl]at z;refine hb.s dl H [] H _ _ _ _ R z (λH' σ q (F,r') V=>?_,λ_ _ _ _ V=>V.elim,λ_ _ _ _ V=>V.elim,λv t F H' D' r' f' n' fr V=>?_,λ_ _ _ _ _ _ _ _ _ _ _ _ z=>z.elim)
  ·exact fin .non .n [] H' (r'.f.evo r'.d) (.n,b6) b6 k4 V
  ·exact fin v t F H' (fr.evo D') r' f' n' V
structure uH(K:BT)(dl:Dl)(YB:It)(xs:List T)(hv:List (V×T)):Prop where
 go:∀(H:Hp)(i:Nat),Dls dl H->(∀p∈hv,∃F,Rp K dl H p.1 p.2 F)->i<xs.length->YB.go i H
 yld:∀(H:Hp)(i:Nat)(x:T)(fp:V×T->List J)(v:V)(H':Hp),Dls dl H->(∀p∈hv,Rp K dl H p.1 p.2 (fp p))->xs[i]?=Z x->YB.yld i H v H'->Evo dl H H'/\∃F,Rp K dl H' v x F/\∀b∈F,H b=Y\/∃p∈hv,b∈fp p
 stop:∀(H:Hp),Dls dl H->(∀p∈hv,∃F,Rp K dl H p.1 p.2 F)->YB.stop xs.length H
variable{lo:Int}
section
variable{X:Cx}{K:BT}{dl:Dl}
def pZ:uH K dl (Itl K a) xs [(.ref a,.l xs)] where
 go:=λH i D h hi=>by
  let(F,r):=h _ (g5.mpr U);let(p,vs,G,e,_,h1,h2):=r.r.lst;cases e;exact(vs,vs[i]'(by rw[h2.len];exact hi),SqL.of h1,by simp[hi])
 yld:=λH i x fp v H' D h hx y=>by
  let r:=h _ (g5.mpr U);let(p,vs,G,e,Q,h1,h2):=r.r.lst;cases e;let(U,y):=y;let(w,P,hw,q,hs):=h2.get hx;let z:=y vs (SqL.of h1);rw[hw]at z;cases z;let sub:∀b∈P,b∈fp (V.ref a,T.l xs):=λb g=>by
   rw[Q];exact j0 _ (hs b g)
  exact(.refl D,P,(q,λb g=>r.n b (sub b g)),λb g=>.inr (_,g5.mpr U,sub b g))
 stop:=λH D h=>by
  let(F,r):=h _ (g5.mpr U);let(p,vs,G,e,_,h1,h2):=r.r.lst;cases e;exact(vs,SqL.of h1,by rw[h2.len];exact m9 _)
def Tb:uH K dl (Itl K a) xs [(.ref a,.zl xs)] where
 go:=λH i D h hi=>by
  let(F,r):=h _ (g5.mpr U);let(p,o,vs,e,_,h1,h2):=r.r.zls;cases e;exact(vs,vs[i]'(by rw[h2.len];exact hi),.inl (.inr (o,h1)),by simp[hi])
 yld:=λH i x fp v H' D h hx y=>by
  let r:=h _ (g5.mpr U);let(p,o,vs,e,Q,h1,h2):=r.r.zls;cases e;let(U,y):=y;let(w,P,hw,g,hs):=h2.get hx;let z:=y vs (.inl (.inr (o,h1)));rw[hw]at z;cases z;exact(.refl D,P,(g,λb q=>nomatch hs b q),λb q=>nomatch hs b q)
 stop:=λH D h=>by
  let(F,r):=h _ (g5.mpr U);let(p,o,vs,e,_,h1,h2):=r.r.zls;cases e;exact(vs,.inl (.inr (o,h1)),by rw[h2.len];exact m9 _)
def Bv:uH K dl (Itt K a) xs [(.ref a,.t xs)] where
 go:=λH i D h hi=>by
  let(F,r):=h _ (g5.mpr U);let(p,vs,e,h1,h2):=r.r.tup;cases e;exact(vs,vs[i]'(by rw[h2.len];exact hi),SqT.of h1,by simp[hi])
 yld:=λH i x fp v H' D h hx y=>by
  let r:=h _ (g5.mpr U);let(p,vs,e,h1,h2):=r.r.tup;cases e;let(U,y):=y;let(w,P,hw,g,hs):=h2.get hx;let z:=y vs (SqT.of h1);rw[hw]at z;cases z;exact(.refl D,P,(g,λb q=>r.n b (hs b q)),λb q=>.inr (_,g5.mpr U,hs b q))
 stop:=λH D h=>by
  let(F,r):=h _ (g5.mpr U);let(p,vs,e,h1,h2):=r.r.tup;cases e;exact(vs,SqT.of h1,by rw[h2.len];exact m9 _)
def IA:uH K dl (Itr lo n) ((IK n).map λi=>.i (lo+(i:Nat))) [] where
 go:=λH i D h hi=>by
  show i<n;simpa using hi
 yld:=λH i x fp v H' D h hx y=>by
  let(U,U):=y;rw[j5]at hx;cases e:(IK n)[i]? with
  |none=>rw[e]at hx;cases hx
  |some j =>
   rw[e]at hx;let hj:j=i:=by
    have:=kf.mp e
    let(h1,h2):=this;simp at h2;exact h2.symm
   subst hj;cases hx;exact(.refl D,[],.c (.i _),b6)
 stop:=λH D h=>by show n<=_;simp
abbrev QI:=Sq->(List T->Prop)->Prop
def Ug(K:BT)(wi:TI)(iq:QI):Prop:=∀(dl:Dl)(H:Hp)(σ:St)(q:Sq)(Q:List T->Prop)(R:It->Hp->Prop),RdR K dl H σ q->iq q Q ->
 (∀xs YB hv H',Evo dl H H'->uH K dl YB xs hv->(∀p∈hv,∃F,Rp K dl H' p.1 p.2 F)->Q xs->R YB H')->wi σ H R
structure QPI(X:Cx)(K:BT)(tg iter:Ev)(wi:TI)(iq:QI):Prop where
 h:PI X tg iter wi
 s:Ug K wi iq
abbrev QJ:=Sq->(List T->Sq->Prop)->Prop
def VO(K:BT)(wi:TI)(iq:QJ):Prop:=∀(dl:Dl)(H₀:Hp)(hs:List (V×T))(H:Hp)(σ:St)(q:Sq)(Q:List T->Sq->Prop)(R:It->Hp->Prop),fU K dl H₀ hs H σ q->iq q Q ->
 (∀xs YB hv H' q',fU K dl H₀ (hv++hs) H' σ q'->uH K dl YB xs hv->Q xs q'->R YB H')->wi σ H R
structure QPJ(X:Cx)(K:BT)(tg iter:Ev)(wi:TI)(iq:QJ):Prop where
 h:PI X tg iter wi
 s:VO K wi iq
variable{tg e a b:Ev}{te:TE}{qe:QE}{tl:TA}{ql:QA}{pos p:Pos}
def rO(g:X.K=K)(h:PE X e te):PI X tg e (vj K te):=by subst g;exact mD h
def wM(g:X.K=K)(h:PE X e te):PI X tg e (IC K te):=by subst g;exact PF h
def asL(qe:QE):QI:=λq Q=>qe q λt=>match t with|.l xs=>Q xs|.zl xs=>Q xs|_=>False
def asT(qe:QE):QI:=λq Q=>qe q λt=>match t with|.t xs=>Q xs|_=>False
def gF(h:QPE X K e te qe)(P:X.K=K:=by rfl):QPI X K tg e (vj K te) (asL qe):=(rO P h.h,λdl H σ q Q R rd hq k=>h.s dl H σ q _ _ rd hq λv t F H' z r g=>by
 split at g
 ·let(p,vs,G,U,U,h1,h2):=r.r.lst;exact(p,U,(vs,SqL.of h1),k _ _ _ H' z pZ (λp hp=>by rw[g5.mp hp];exact(_,r)) g)
 ·let(p,o,vs,U,U,h1,h2):=r.r.zls;exact(p,U,(vs,.inl (.inr (o,h1))),k _ _ _ H' z Tb (λp hp=>by rw[g5.mp hp];exact(_,r)) g)
 ·exact g.elim)
def d9(h:QPE X K e te qe)(z:X.K=K:=by rfl):QPI X K tg e (IC K te) (asT qe):=(wM z h.h,λdl H σ q Q R rd hq k=>h.s dl H σ q _ _ rd hq λv t F H' P r g=>by
 split at g
 ·let(p,vs,U,h1,h2):=r.r.tup;exact(p,U,(vs,SqT.of h1),k _ _ _ H' P Bv (λp hp=>by rw[g5.mp hp];exact(_,r)) g)
 ·exact g.elim)
def Gu(lo:Int)(n:Nat):List T:=(IK n).map λi=>.i (lo+(i:Nat))
def iM{x:T}(h:(Gu lo n)[i]?=Z x):x=.i (lo+(i:Nat))/\i<n:=by
 unfold Gu at h;rw[j5]at h;let(j,hj,U):=kg.mp h;let(h1,h2):=kf.mp hj;simp at h1 h2;subst h2;exact(U,h1)
def d6:(Gu lo n).length=n:=by simp[Gu]
def T9(ql:QA):QI:=λq Q=>ql q λts=>on1 ts λt=>match t with|.i n=>-(2 ^ 62)<=n/\n<2 ^ 62/\Q (Gu 0 n.toNat)|_=>False
def nL(hg:Gl X "range")(hm:X.mg "range"=Y)(ha:QPA X K [a] tl ql)(hs:AD X a:=by rfl):QPI X K tg (.Call (.Name "range" p) [a] [] pos) (ID tl) (T9 ql):=(u6 hg hm ha.h hs,λdl H σ q Q R rd hq k=>ha.s dl H σ q _ _ rd hq λvs ts F H' V r _ g=>by
 replace g:=on1.inv g
 let(t,U,g):=g
 split at g
 ·let(v,U,P):=r.one;let(U,_):=P.r.int;exact(_,U,g.1,g.2.1,k _ _ [] H' V IA b6 g.2.2)
 ·exact g.elim)
def asJ(iq:QI):QJ:=λq Q=>iq q λxs=>Q xs q
def fY(hg:Gl X "range")(hm:X.mg "range"=Y)(ha:QPA X K [a] tl ql)(hs:AD X a:=by rfl):QPJ X K tg (.Call (.Name "range" p) [a] [] pos) (ID tl) (asJ (T9 ql)):=(u6 hg hm ha.h hs,λdl H₀ hs H σ q Q R (F0,z) hq k=>ha.s dl H σ q _ _ z.rd hq λvs ts F H' V r _ g=>by
 replace g:=on1.inv g
 let(t,U,g):=g
 split at g
 ·let(v,U,P):=r.one;let(U,_):=P.r.int;exact(_,U,g.1,g.2.1,k _ _ [] H' q (F0,z.evo V) IA g.2.2)
 ·exact g.elim)
def gX(h:QPF X K e te qe)(hK:X.K=K:=by rfl):QPJ X K tg e (IC K te) (asJ (asT qe)):=(wM hK h.h,λdl H₀ hs H σ q Q R (F0,g) hq k=>h.s dl H σ q _ _ g.rd hq λv t F H' e1 r f n P=>by
 split at P
 ·let V:=(g.evo e1).hold r λj u hj b hb z=>(g.fF hb).no (f b z)
  let(p,vs,U,h1,h2):=r.r.tup;exact(p,U,(vs,SqT.of h1),k _ _ _ H' q (F0,V) Bv P)
 ·exact P.elim)
def asN(i:Nat):QJ:=λq Q=>match q[i]? with
 |some (.o (.l xs))=>Q xs (q.set i (.r (.l xs)))
 |some (.r (.l xs))=>Q xs q
 |_=>False
def K9(h:PE X e (bB i))(hK:X.K=K:=by rfl):QPJ X K tg e (vj K (bB i)) (asN i):=(rO hK h,λdl H₀ hs H σ q Q R (F0,P) hq k=>by
 unfold asN at hq
 split at hq
 ·rename_i xs V;let(v,hv,r):=P.g i _ _ V U;let r1:=(P.down V).hold r λj u hj b hb=>by
   obtain⟨_,z,_⟩|⟨ne,hj⟩:=get_set hj
   ·cases z
   ·exact(P.o j u hj).2.2 i (λz=>ne z.symm) b hb
  let(p,vs,G,U,_,h1,h2):=r.r.lst;exact(_,hv,p,U,(vs,SqL.of h1),k _ _ _ H _ (F0,r1) pZ hq)
 ·rename_i xs V;let(v,hv,r):=P.g i _ _ V U;let r1:=P.hold r λj u hj b hb=>(P.o j u hj).2.2 i (λz=>by subst z;rw[V]at hj;cases hj) b hb
  let(p,vs,G,U,_,h1,h2):=r.r.lst;exact(_,hv,p,U,(vs,SqL.of h1),k _ _ _ H _ (F0,r1) pZ hq)
 ·exact hq.elim)
inductive Tg where
 |nm(i:Nat)|tp (is:List Nat)
def t7(q:Sq):List Nat->List T->Option Sq
 |[],[]=>Z q
 |i::is,x::xs=>if i<q.length then t7 (q.set i (.r x)) is xs else Y
 |_,_=>Y
def Tg.put(g:Tg)(x:T)(q:Sq):Option Sq:=match g with
 |.nm i=>if i<q.length then Z (q.set i (.r x))else Y
 |.tp is=>match x with|.t xs=>t7 q is xs|_=>Y
def xq:List Nat->TGs
 |[]=>QK
 |i::is=>C4 (eY i) (xq is)
def Tg.h(K:BT):Tg->TG
 |.nm i=>eY i
 |.tp is=>Nb K is.length (xq is)
theorem uS{H₀ H:Hp}{hs:List (V×T)}:∀{is:List Nat}{vs:List V}{xs:List T}{G:List J}{σ:St}{q q':Sq}{F:Nat->List J}{R:St->Hp->Prop},Rel K dl H₀ hs H σ q F->aq K dl H vs xs G->(∀b∈G,Nd dl b) ->
  (∀(j:Nat)(u:T),q[j]?=Z (.o u)->∀b∈F j,b ∉ G)->t7 q is xs=Z q'->(∀P,fU K dl H₀ hs H P q'->R P H)->xq is vs σ H R
 |[],vs,xs,G,σ,q,q',F,R,r,rs,_,_,hp,k=>by
  cases xs with
  |cons _ _=>cases hp
  |nil =>
   cases rs;cases hp;exact(U,k σ (F,r))
 |i::is,vs,xs,G,σ,q,q',F,R,r,rs,hn,ho,hp,k=>by
  cases xs with
  |nil=>cases hp
  |cons x xs =>
   cases rs with
   |cons r1 r2 =>
    unfold t7 at hp;by_cases hi:i<q.length
    ·rw[if_pos hi]at hp;refine(_,_,U,?_);let r':=r.LA hi (r1,λb g=>hn b (qF _ g)) λj u hj _ b g z=>ho j u hj b g (qF _ z)
     refine uS r' r2 (λb g=>hn b (p5 _ g)) (λj u hj b g z=>?_) hp k
     obtain⟨_,Q,_⟩|⟨ne,hj⟩:=get_set hj
     ·cases Q
     ·rw[aE ne]at g;exact ho j u hj b g (p5 _ z)
    ·rw[if_neg hi]at hp;cases hp
variable{g:Tg}
def AQ{x:T}{σ:St}{q':Sq}{F:Nat->List J}{R:St->Hp->Prop}(r:Rel K dl H₀ hs H σ q F)(P:Rp K dl H v x G)
  (ho:∀(j:Nat)(u:T),q[j]?=Z (.o u)->∀b∈F j,b ∉ G) (hp:g.put x q=Z q') (k:∀z,fU K dl H₀ hs H z q'->R z H):g.h K v σ H R:=by
 cases g with
 |nm i =>
  replace hp:(if i<q.length then Z (q.set i (.r x))else Y)=Z q':=hp
  by_cases hi:i<q.length
  ·rw[if_pos hi]at hp;cases hp;exact k _ (_,r.LA hi P λj u hj _=>ho j u hj)
  ·rw[if_neg hi]at hp;cases hp
 |tp is =>
  cases x with
  |t xs =>
   let(p,vs,U,h1,h2):=P.r.tup;let hl:∀{is:List Nat}{xs:List T}{q q':Sq},t7 q is xs=Z q'->xs.length=is.length:=λ{is}=>by
    induction is with
    |nil=>intro xs q q' h;cases xs with
     |nil=>rfl
     |cons _ _=>cases h
    |cons i is Q=>intro xs q q' h;cases xs with
     |nil=>cases h
     |cons x xs =>
      unfold t7 at h;by_cases hi:i<q.length
      ·rw[if_pos hi]at h;simp[Q h]
      ·rw[if_neg hi]at h;cases h
   exact(p,vs,U,SqT.of h1,by rw[h2.len];exact hl hp,uS r h2 P.n ho hp k)
  |_=>cases hp
end
variable{tg:Ev}{iter:Ev}{body:List EQ}{g:Tg}{cap:List (Option Nat)}{iq:QI}{tst:TT}{nJ:QT}{te:TE}{qe:QE}{N':List Str}{sc:Scope}{elt:Ev}{ifs:List Ev}
section
variable{X:Cx}{K:BT}{dl:Dl}{hs:List (V×T)}{σ:St}{F:Nat->List J}
def Rel.vJ(r:Rel K dl H₀ (hv++hs) H σ q F):Rel K dl H₀ hs H σ q F:=(r.d,r.g,r.n,r.z,r.o,λp hp=>r.h p (p5 _ hp),r.f,r.l)
def Rel.fps(r:Rel K dl H₀ (hv++hs) H σ q F):∃fp:V×T->List J,∀p∈hv,Rp K dl H p.1 p.2 (fp p)/\∀(i:Nat)(t:T),q[i]?=Z (.o t)->∀b∈F i,b ∉ fp p:=by
 classical
 refine(λp=>if h:p∈hv then(r.h p (qF _ h)).choose else [],λp hp=>?_)
 let z:=(r.h p (qF _ hp)).choose_spec;simp only[dif_pos hp];exact z
inductive Um(g:Tg)(qb:QS)(D:dZ)(xs:List T)(q0:Sq):Prop
 |mk(I:Nat->Sq->Prop)(h0:I 0 q0)(step:∀i x q,xs[i]?=Z x->I i q->∃q',g.put x q=Z q'/\qb (D.lp (I (i+1))) q')(fin:∀q,I xs.length q->D.nx q)
def UE(iq:QJ)(g:Tg)(qb:QS):QS:=λD q=>iq q λxs q0=>Um g qb D xs q0
def cw{iq:QJ}(hp:XW (model X.prog X.w) X.A X.env X.xe)(hc:X.calm=O)(hi:QPJ X K tg iter wi iq)(hg:PG X tg (g.h K))(hb:ox X K body tb qb)
  (hs:∀x,foldedSetIterable iter X.env x=pure x:=by intro _;rfl):QPS X K (.For tg iter body [] pos) (OM wi (g.h K) tb) (UE iq g qb):=(A4 hp hc hi.h hg hb.h hs,λdl H₀ hs H σ q Dq D r hq E=>by
 refine hi.s dl H₀ hs H σ q _ _ r hq λxs YB hv H1 q1 r1 it hz=>?_
 let(I,i0,turn,fin):=hz;refine(λi m σ H=>m=xs.length - i/\i<=xs.length/\∃q,fU K dl H₀ (hv++hs) H σ q/\I i q,(xs.length,by simp,JG _,q1,r1,i0),?_)
 rintro i m σ H ⟨rfl,aD,q,⟨F,r⟩,hI⟩
 let held:∀p∈hv,∃F,Rp K dl H p.1 p.2 F:=λp hp=>let(Fp,h,_):=r.h p (qF _ hp);(Fp,h)
 by_cases P:i<xs.length
 ·refine .inr (it.go H i r.d held P,λQ H'=>∃q,fU K dl H₀ (hv++hs) H' Q q/\I (i+1) q,λQ H' h=>(xs.length - (i+1),by omega,U,P,h),λv H' y=>?_)
  let(fp,V):=r.fps;let hx:xs[i]?=Z xs[i]:=by simp[P]
  let(e1,G,rx,hG):=it.yld H i xs[i] fp v H' r.d (λp hp=>(V p hp).1) hx y
  let(q',az,hz):=turn i xs[i] q hx hI;refine AQ (r.evo e1) rx (λj u hj b hb z=>?_) az λav r2=>hb.s dl H₀ (hv++hs) H' av q' _ _ r2 hz (λH σ q r n=>(q,r,n),λH σ q (F,r) n=>E.nx H σ q (F,r.vJ) n,λH σ q r n=>(q,r,n),E.rt,λH σ q F0 v t F r=>E.ru H σ q F0 v t F r.vJ)
  obtain h |⟨p,hp,h⟩:=hG b z
  ·exact(r.fF hb).no h
  ·exact(V p hp).2 j u hj b hb h
 ·let e:i=xs.length:=by lia
  subst e;exact .inl (it.stop H r.d held,E.nx H σ q (F,r.vJ) (fin q hI)))
def jW(cap:List (Option Nat))(q:Sq):Sq:=cap.map λo=>match o with
 |none=>.no
 |some i=>match q[i]? with
  |some (.o t)=>.r t
  |some (.r t)=>.r t
  |_=>.no
def KN(r:RdR K dl H σ q):RdR K dl H (mW cap σ) (jW cap q):=(r.d,λj x t h1 h2=>by
 unfold jW at h1;rw[j5]at h1;cases e:cap[j]? with
 |none=>rw[e]at h1;cases h1
 |some o =>
  rw[e]at h1;cases o with
  |none=>cases h1;cases h2
  |some i =>
   let go:∀y,q[i]?=Z y->y.get=Z t->∃v F,(mW cap σ)[j]?=Z (Z v)/\Rp K dl H v t F:=λy z P=>by
    let(v,F,h3,h4):=r.g i y t z P;refine(v,F,?_,h4);unfold mW;rw[j5,e];show Z ((σ[i]?).join)=_;rw[h3];rfl
   replace h1:(match q[i]? with|some (.o t)=>Sl.r t|some (.r t)=>.r t|_=>.no)=x:=Option.some.inj h1
   split at h1
   ·rename_i u eq;subst h1;cases h2;exact go _ eq U
   ·rename_i u eq;subst h1;cases h2;exact go _ eq U
   ·subst h1;cases h2)
theorem RdR.set{x:T}(r:RdR K dl H σ q)(hl:i < σ.length)(P:Rp K dl H v x G):RdR K dl H (σ.set i (Z v)) (q.set i (.r x)):=(r.d,λj y t h1 h2=>by
 obtain⟨rfl,rfl,_⟩|⟨ne,h1⟩:=get_set h1
 ·cases h2;exact(v,G,by rw[JF hl],P)
 ·let(w,F,h3,h4):=r.g j y t h1 h2;exact(w,F,by rw[E3 (λz=>ne z.symm)];exact h3,h4))
def RdR.any(r:RdR K dl H σ q)(hn:q[i]?=Z .no):RdR K dl H (σ.set i o) q:=(r.d,λj y t h1 h2=>by
 let(w,F,h3,h4):=r.g j y t h1 h2;refine(w,F,?_,h4);rw[E3]
 ·exact h3
 ·intro z;subst z;rw[hn]at h1;cases h1;cases h2)
def Tg.ixs:Tg->List Nat
 |.nm i=>[i]
 |.tp is=>is
theorem yA:∀{is:List Nat}{vs:List V}{xs:List T}{G:List J}{σ:St}{q q0 q':Sq}{R:St->Hp->Prop},RdR K dl H σ q->RdR K dl H σ q0->σ.length=q.length->aq K dl H vs xs G->(∀b∈G,Nd dl b)->(∀i∈is,q0[i]?=Z .no)->t7 q is xs=Z q' ->
  (∀g,RdR K dl H g q'->RdR K dl H g q0->g.length=σ.length->R g H)->xq is vs σ H R
 |[],vs,xs,G,σ,q,q0,q',R,r,z,_,rs,_,_,hp,k=>by
  cases xs with
  |cons _ _=>cases hp
  |nil =>
   cases rs;cases hp;exact(U,k σ r z U)
 |i::is,vs,xs,G,σ,q,q0,q',R,r,z,hl,rs,hn,hf,hp,k=>by
  cases xs with
  |nil=>cases hp
  |cons x xs =>
   cases rs with
   |cons r1 Q =>
    unfold t7 at hp;by_cases hi:i<q.length
    ·rw[if_pos hi]at hp;refine(_,_,U,(yA (r.set (by omega) (r1,λb P=>hn b (qF _ P))) (z.any (hf i jf)) (by simp[hl]) Q (λb P=>hn b (p5 _ P)) (λj hj=>hf j (j0 _ hj)) hp λg a b c=>k g a b (by simpa using c)))
    ·rw[if_neg hi]at hp;cases hp
theorem yL:∀{is:List Nat}{xs:List T}{q q':Sq},t7 q is xs=Z q'->xs.length=is.length
 |[],[],_,_,_=>rfl
 |[],_::_,_,_,h=>by cases h
 |_::_,[],_,_,h=>by cases h
 |i::is,x::xs,q,q',h=>by
  unfold t7 at h;by_cases hi:i<q.length
  ·rw[if_pos hi]at h;simp[yL h]
  ·rw[if_neg hi]at h;cases h
def RO{x:T}{q':Sq}{R:St->Hp->Prop}(r:RdR K dl H σ q)(hl:σ.length=q.length)(P:Rp K dl H v x G)(hf:∀i∈g.ixs,q[i]?=Z .no)(hp:g.put x q=Z q')
  (k:∀z,RdR K dl H z q'->RdR K dl H z q->z.length=σ.length->R z H):g.h K v σ H R:=by
 cases g with
 |nm i =>
  replace hp:(if i<q.length then Z (q.set i (.r x))else Y)=Z q':=hp
  by_cases hi:i<q.length
  ·rw[if_pos hi]at hp;cases hp;exact k _ (r.set (by lia) P) (r.any (hf i (g5.mpr U))) (by simp)
  ·rw[if_neg hi]at hp;cases hp
 |tp is =>
  cases x with
  |t xs =>
   let(p,vs,U,h1,h2):=P.r.tup;exact(p,vs,U,SqT.of h1,by rw[h2.len];exact yL hp,yA r r hl h2 P.n hf hp k)
  |_=>cases hp
def GW:QT:=λ_ Q=>Q O
def FZ:lK K BZ GW:=λdl H σ q Q R rd hq k=>k O H (.refl rd.d) hq
inductive CompI(cap:List (Option Nat))(g:Tg)(tst:QT)(qe:QE)(q:Sq)(Q:T->Prop)(xs:List T):Prop
 |mk (hl:xs.length<mu) (I:Nat->List T->Prop) (h0:I 0 []) (step:∀i x ys,xs[i]?=Z x->I i ys->∃q',g.put x (jW cap q)=Z q'/\tst q' λb=>if b=O then qe q' λy=>I (i+1) (ys ++ [y])else I (i+1) ys) (fin:∀ys,I xs.length ys->Q (.l ys))
def Ct(cap:List (Option Nat))(iq:QI)(g:Tg)(tst:QT)(qe:QE):QE:=λq Q=>iq q λxs=>CompI cap g tst qe q Q xs
theorem yo(hi:Ug K wi iq)(ht:lK K tst nJ)(he:ka K te qe)(hf:(g.ixs.all λi=>cap[i]? == Z Y)=O):ka K (uL cap wi (g.h K) tst te) (Ct cap iq g nJ qe):=by
 intro dl H σ q Q R rd hq k;refine hi dl H σ q _ _ rd hq λxs YB hv H1 e1 it held hz=>?_
 let(hlen,I,i0,turn,fin):=hz;let a4:=KN (cap:=cap) (rd.evo e1);let a6:∀i∈g.ixs,(jW cap q)[i]?=Z .no:=λi hi=>by
  let z:=NM.mp hf i hi;let z:=by simpa using z
  unfold jW;rw[j5,z];rfl
 let bx:(mW cap σ).length=(jW cap q).length:=by simp[mW,jW]
 refine(λi m vs aD H'=>m=xs.length - i/\i<=xs.length/\∃ts F,Evo dl H1 H'/\RdR K dl H' aD (jW cap q)/\aD.length=(jW cap q).length/\(∀p∈hv,∃F,Rp K dl H' p.1 p.2 F)/\Rps K dl H' vs ts F/\(∀b∈F,H b=Y)/\F.Nodup/\vs.length<=i/\I i ts,
  (xs.length,by simp,JG _,[],[],.refl e1.d,a4,bx,held,(.nil,b6),b6,k4,m9 _,i0),?_)
 rintro i m vs aD H' ⟨rfl,bL,ts,F,e2,a3,a7,zz,rs,fr,nd,bK,hI⟩
 by_cases av:i<xs.length
 ·refine .inr (it.go H' i e2.d zz av,by lia,λvs2 az H2=>∃ts F,Evo dl H1 H2/\RdR K dl H2 az (jW cap q)/\az.length=(jW cap q).length/\(∀p∈hv,∃F,Rp K dl H2 p.1 p.2 F)/\Rps K dl H2 vs2 ts F/\(∀b∈F,H b=Y)/\F.Nodup/\vs2.length<=i+1/\I (i+1) ts,
   λvs2 az H2 h=>(xs.length - (i+1),XT _ _ av,U,av,h),λv H2 y=>?_)
  let hx:xs[i]?=Z xs[i]:=by simp[av]
  obtain⟨fp,bt⟩:∃fp:V×T->List J,∀p∈hv,Rp K dl H' p.1 p.2 (fp p):=by
   classical
   refine(λp=>if h:p∈hv then(zz p h).choose else [],λp hp=>?_)
   simp only[dif_pos hp];exact(zz p hp).choose_spec
  let(e3,G,rx,hG):=it.yld H' i xs[i] fp v H2 e2.d bt hx y;let(q',a5,hz):=turn i xs[i] ts hx hI;let Ol:∀{H3:Hp},Evo dl H' H3->∀p∈hv,∃F,Rp K dl H3 p.1 p.2 F:=λ{H3} e p hp=>let(F,r):=zz p hp;(F,r.evo e2.d e)
  refine RO (a3.evo e3) a7 rx a6 a5 λaF r3 aM l3=>(ht dl H2 aF q' _ _ r3 hz λb H4 e4 hz=>?_)
  cases b with
  |false=>exact(ts,F,(e2.trans e3).trans e4,aM.evo e4,by omega,Ol (e3.trans e4),(rs.evo e2.d e3).evo e3.d e4,fr,nd,by lia,hz)
  |true =>
   refine he dl H4 aF q' _ _ (r3.evo e4) hz λw t G' H5 e5 aK f5 n5 hz=>?_
   let E:=(e2.trans e3).trans (e4.trans e5);let aN:=((rs.evo e2.d e3).evo e3.d (e4.trans e5));refine(ts ++ [t],F++(G' ++ []),E,aM.evo (e4.trans e5),by omega,Ol (e3.trans (e4.trans e5)),(aN.r.append (.cons aK.r .nil),λb P=>?_),λb P=>?_,?_,by simp;omega,hz)
   ·obtain P|P:=p7.mp P
    ·exact rs.n b P
    ·rw[tG]at P;exact aK.n b P
   ·obtain P|P:=p7.mp P
    ·exact fr b P
    ·rw[tG]at P;exact((e1.trans e2).trans (e3.trans e4)).free (f5 b P)
   ·rw[tG];refine Fj.mpr (nd,n5,λx hx y hy bG=>?_)
    subst bG;let aP:=(rs.evo e2.d e3).evo e3.d e4;exact fD.no (aP.r.there x hx) (f5 x hy)
 ·let e:i=xs.length:=by lia
  subst e;refine .inl (it.stop H' e2.d zz,by lia,λD hD=>?_)
  exact k _ _ _ _ ((e1.trans e2).new hD) (rs.lst e2.d hD) (λb P=>by
   obtain e|P:=kz.mp P
   ·rw[e];exact(e1.trans e2).free hD
   ·exact fr b P) (rs.fresh hD nd) (fin ts hI)
structure QB(X:Cx)(K:BT)(N':List Str)(sc:Scope)(tg:Ev)(g:Tg)(ifs:List Ev)(tst:TT)(nJ:QT)(elt:Ev)(te:TE)(qe:QE):Prop where
 b:∀cl C s₂ H₂ fp,PG (blk X N' sc cl C s₂ H₂ fp) tg (g.h K)/\PTs (blk X N' sc cl C s₂ H₂ fp) ifs tst/\PE (blk X N' sc cl C s₂ H₂ fp) elt te
 t:lK K tst nJ
 e:ka K te qe
def bQ(h:∀cl C s₂ H₂ fp,PG (blk X N' sc cl C s₂ H₂ fp) tg (g.h K)/\QPF (blk X N' sc cl C s₂ H₂ fp) K elt te qe):QB X K N' sc tg g [] BZ GW elt te qe :=
 (λcl C s₂ H₂ fp=>((h cl C s₂ H₂ fp).1,Cy,(h cl C s₂ H₂ fp).2.h),FZ,(h [] 0 X.s₀ (λ_=>Y) []).2.s)
def Pc(h:∀cl C s₂ H₂ fp,PG (blk X N' sc cl C s₂ H₂ fp) tg (g.h K)/\QPT (blk X N' sc cl C s₂ H₂ fp) K c tst nJ/\QPF (blk X N' sc cl C s₂ H₂ fp) K elt te qe):QB X K N' sc tg g [c] tst nJ elt te qe :=
 (λcl C s₂ H₂ fp=>((h cl C s₂ H₂ fp).1,Cw (h cl C s₂ H₂ fp).2.1.h,(h cl C s₂ H₂ fp).2.2.h),(h [] 0 X.s₀ (λ_=>Y) []).2.1.s,(h [] 0 X.s₀ (λ_=>Y) []).2.2.s)
def bM{pos:Pos}(hc:X.calm=O)(hi:QPI X K tg iter wi iq)(z:nh X sc N' cap)(q:QB X K N' sc tg g ifs tst nJ elt te qe)
  (hf:(g.ixs.all λi=>cap[i]? == Z Y)=true:=by rfl)
  (Q:sc.kind=.function:=by rfl) (gu:∀y∈sc.names,y.2 ≠ .cell:=by decide) (V:∀y∈sc.names,y.2=.local->sc.names.lookup y.1=Z .local:=by decide)
  (P:(sc.names.all λy=>y.2 != .free ||(X.env.kindOf y.1==Z .cell||X.env.kindOf y.1==Z .free))=true:=by rfl)
  (hs:∀x,foldedSetIterable iter X.env x=pure x:=by intro _;rfl):QPF X K (.ListComp elt [(tg,iter,ifs,0)] sc pos) (uL cap wi (g.h K) tst te) (Ct cap iq g nJ qe) :=
 (CD hc hi.h z q.b Q gu V P hs,yo hi.s q.t q.e hf)
def ko{pos dm py:Pos}(hN:X.N.Nodup)(z:X.N[i]?=Z y)(hy:Loc X.env.scope y)
  (hc:X.calm=O) (hi:QPI X K tg iter wi iq) (V:nh X sc N' cap) (Q:QB X K N' sc tg g ifs tst nJ elt te qe)
  (P:(g.ixs.all λi=>cap[i]? == Z Y)=true:=by rfl)
  (q:swapsWith (.ListComp elt [(tg,iter,ifs,0)] sc pos) (Z (.Name y py)) dm.line X.env=pure true:=by rfl)
  (hf:AT X y:=by first|exact .inl rfl|exact .inr rfl|assumption)
  (iz:sc.kind=.function:=by rfl) (gu:∀y∈sc.names,y.2 ≠ .cell:=by decide) (iZ:∀y∈sc.names,y.2=.local->sc.names.lookup y.1=Z .local:=by decide)
  (jj:(sc.names.all λy=>y.2 != .free ||(X.env.kindOf y.1==Z .cell||X.env.kindOf y.1==Z .free))=true:=by rfl)
  (hs:∀x,foldedSetIterable iter X.env x=pure x:=by intro _;rfl):QPS X K (.Assign [.Name y py] (.ListComp elt [(tg,iter,ifs,0)] sc pos) dm) (iG (uL cap wi (g.h K) tst te) (eY i)) (AZ i (Ct cap iq g nJ qe)) :=
 (Cz hN z hy hc hi.h V Q.b q hf iz gu iZ jj hs,Cb (yo hi.s Q.t Q.e P))
end
section
variable{X:Cx}{K:BT}{dl:Dl}{hs:List (V×T)}{σ:St}{F:Nat->List J}{e o:Ev}{apos aP:Pos}
def zip_inj{ns:List Str}:∀{vs us:List V},vs.length=ns.length->us.length=ns.length->ns.zip vs=ns.zip us->vs=us:=by
 induction ns with
 |nil=>intro vs us h1 h2 _;rw[Rj.mp h1,Rj.mp h2]
 |cons n r q =>
  intro vs us h1 h2 e;cases vs with
  |nil=>cases h1
  |cons v vs=>cases us with
   |nil=>cases h2
   |cons u us =>
    injection e with g z
    injection g with _ g
    rw[g,q (Nat.succ.inj h1) (Nat.succ.inj h2) z]
def ay.uniq{v:V}{t:T}{F:List J}(h:ay K dl H v t F):∀{F':List J},ay K dl H v t F'->F=F' :=
 ay.rec (motive_1:=λv t F _=>∀{F'},ay K dl H v t F'->F=F') (motive_2:=λv t F _=>∀{F'},aq K dl H v t F'->F=F') (motive_3:=λv t F _=>∀{F'},aI K dl H v t F'->F=F')
  (λh=>(h.im U).symm) (λ_ _ h=>(h.im U).symm) (λ_ _ h=>(h.im U).symm) (λ_ _ h=>(h.im U).symm) (λ_ _ h=>(h.im U).symm)
  (λh1 _ g _ h=>by let(a,vs,e,h2,r):=h.tup;cases e;rw[h1]at h2;cases h2;exact g r)
  (λh1 _ g _ h=>by let(a,vs,G,e,U,h2,r):=h.lst;cases e;rw[h1]at h2;cases h2;rw[g r])
  (λh1 _ g _ h=>by let(a,vs,G,e,U,h2,r):=h.dic;cases e;rw[h1]at h2;cases h2;rw[g r])
  (λ_ _ h=>(h.im U).symm) (λ_ _ h=>(h.im U).symm) (λ_ _ h=>(h.im U).symm) (λ_ _ _ _ h=>(h.im U).symm) (λ_ _ h=>(h.im U).symm) (λ_ _ _ _ h=>(h.im U).symm)
  (λ_ _ _ h=>(h.im U).symm) (λ_ _ _ _ h=>(h.im U).symm) (λh1 _ g _ h=>by let(vs,G,e,U,h2,r):=h.dpp;rw[h1]at h2;cases h2;rw[g r]) (λh1 _ g _ h=>by let(vs,G,e,U,h2,r):=h.lpp;rw[h1]at h2;cases h2;rw[g r]) (λ_ _ _ _ h=>(h.im U).symm) (λ_ _ h=>(h.im U).symm) (λh1 _ h4 hr g _ h=>by
   let(dx,vs,G,e,U,h2,_,h3,r):=h.omm;rw[h1]at h2;injection h2 with h2
   injection h2 with _ Q P
   subst Q;let z:=zip_inj (hr.len.trans h4.symm) (r.len.trans h3.symm) P;subst z;rw[g r])
  (λh=>by cases h;rfl) (λ_ _ i1 i2 _ h=>by cases h with|cons h2 q=>rw[i1 h2,i2 q])
  (λh=>by cases h;rfl) (λ_ _ i1 i2 _ h=>by cases h with|cons h2 q=>rw[i1 h2,i2 q]) h
def Rel.M8(r:Rel K dl H₀ hs H σ q F)(e:Evo dl H H')(hp:p∈hs)(h:Rp K dl H' p.1 p.2 Fp)(g:H b=Y):b ∉ Fp:=λz=>by
 let(Q,h1,_):=r.h p hp;let P:=(h1.evo r.d e).r.uniq h.r;subst P;exact fD.no (h1.r.there b z) g
def Rel.nH{ws:List V}(r:Rel K dl H₀ hs H σ q F)(hi:q[i]?=Z (.o (.l xs)))(hv:σ[i]?=Z (Z (.ref p)))(Q:F i=p::G)(e:Evo dl H H')
  (rs:aq K dl H' ws ys G') (hn:G'.Nodup) (hG:∀b∈G',b∈G\/(H b=Y/\Nd dl b)):fU K dl H₀ hs (upd H' p (.lst ws)) σ (q.set i (.o (.l ys))):=by
 let r':=r.evo e;let(o1,o2,o3):=r.o i _ hi;let(v',aK,rp):=r'.g i _ _ hi U;rw[hv]at aK;let(p2,vs2,G2,e2,eF,h1,h2):=rp.r.lst;rw[Q]at eF;cases eF;rw[Q]at o1;let pG:=(u3.mp o1).1;let aF:=r.fF (by rw[Q];exact jf)
 let av:p ∉ G':=λz=>by
  obtain z|z:=hG p z
  ·exact pG z
  ·exact aF.no z.1
 let pn:=rp.n p (by rw[Q];exact jf)
 let tf:TF H' (upd H' p (.lst ws)):=(λa us h=>(by
  rw[aj];exact h;intro z;subst z;rw[h]at h1;cases h1),λa ob u h=>(by
  rw[aj];exact h;intro z;subst z;rw[h]at h1;cases h1),λa φ h=>(by
  rw[aj];exact h;intro z;subst z;rw[h]at h1;cases h1),λa az h=>(by
  by_cases z:a=p
  ·subst z;exact(_,aw)
  ·exact(az,by rw[aj z];exact h)),λa x h=>(x,NL _,by
  rw[aj];exact h;intro z;subst z;rw[h]at h1;cases h1))
 let aD:=rs.cx tf (λ_ z=>z) λb P ob eb=>by
  let ne:b≠p:=by
   intro z;subst z;exact av P
  rw[aj ne];exact eb
 refine(_,r'.write hi hv (by rw[Q];exact jf) (λ_ _=>(_,U)) (.l aw aD,λb P=>?_) (u3.mpr (av,hn)) λb P=>?_)
 ·obtain z|P:=kz.mp P
  ·rw[z];exact pn
  ·obtain z|z:=hG b P
   ·exact rp.n b (by rw[Q];exact j0 _ z)
   ·exact z.2
 ·obtain z|P:=kz.mp P
  ·rw[z,Q];exact .inl jf
  ·obtain z|z:=hG b P
   ·rw[Q];exact .inl (j0 _ z)
   ·exact .inr (r.fz z.1,λj hj=>(r.fF hj).no z.1,λw u Fp h1 h2=>r.M8 e h2 h1 z.1)
def wB(i:Nat)(qe:QE):QS:=λD q=>match q[i]? with
 |some (.o (.l xs))=>xs.length<mu/\qe q λt=>D.nx (q.set i (.o (.l (xs ++ [t]))))
 |_=>False
abbrev At(X:Cx)(p:Pos)(e:List Ev):Prop:=((backTo p (kh e X.env)).all (λx=>!x.1)&&(backToKw p (keywordEach [] X.env)).all (λx=>x.1.isSome)&&decide (e.length+([]:List Keyword).length+(if([]:List Keyword).isEmpty then 0 else 1)<30))=true
def Bq(q:X.K=K)(ho:PE X o (bB i))(he:PE X e te)(P:attributeBase o "append" X.env (eval o X.env)=eval o X.env:=by rfl)
  (g:At X aP [e]:=by rfl)
  (Q:(apos.endLine==aP.line)=true:=by rfl) (hs:AC X e []:=by rfl) (z:(backTo aP (kh [] X.env)).any (·.1)=false:=by rfl):
  PE X (.Call (.Attribute o "append" apos) [e] [] aP) (tBM K "list" mh (bB i) (dh te f6)):=by
 subst q;exact rX PySem.F.plainAttrs_list PySem.F.slot_list_append PySem.F.type_list_append vd ho (bN he eh hs) P g Q hs z
def Az(he:ka K te qe):j9 K (fO (tBM K "list" mh (bB i) (dh te f6))) (wB i qe):=λdl H₀ hs H σ q Dq D (F,r) hq E=>by
 unfold wB at hq
 split at hq
 ·rename_i xs ei;let(hz,hq):=hq;let(v,hv,rp):=r.g i _ _ ei U;let(o1,o2,o3):=r.o i _ ei;let(p,vs,G,U,Q,h1,h2):=rp.r.lst;refine(_,hv,.inl (U,vs,SqL.of h1),he dl H σ q _ _ r.rd hq λw t F' H' V r1 f1 n1 az=>?_)
  let pn:=rp.n p (by rw[Q];exact jf)
  refine(p,vs,w,U,U,V.k p _ h1 pn (λ_ z=>nomatch z),by rw[h2.len];exact hz,?_)
  let hG:=λb P=>rp.n b (by rw[Q];exact j0 _ P)
  let av:=h2.cx (V.tf r.d) (λ_ z=>z) λb P o eo=>V.k b o eo (hG b P) (.of (h2.there b P) eo)
  refine E.nx _ σ _ (r.nH ei hv Q V (av.append (.cons r1.r .nil)) ?_ λb P=>?_) az
  ·rw[tG];rw[Q]at o1;refine Fj.mpr ((u3.mp o1).2,n1,λx hx y hy aD=>?_)
   subst aD;exact fD.no (h2.there x hx) (f1 x hy)
  ·obtain P|P:=p7.mp P
   ·exact .inl P
   ·rw[tG]at P;exact .inr (f1 b P,r1.n b P)
 ·exact hq.elim
def bV{dm:Pos}(ho:PE X o (bB i))(he:QPF X K e te qe)(z:X.K=K:=by rfl)(Q:attributeBase o "append" X.env (eval o X.env)=eval o X.env:=by rfl)
  (q:At X aP [e]:=by rfl)
  (V:(apos.endLine==aP.line)=true:=by rfl) (hs:AC X e []:=by rfl) (P:(backTo aP (kh [] X.env)).any (·.1)=false:=by rfl)
  (g:swapsWith (.Call (.Attribute o "append" apos) [e] [] aP) Y dm.line X.env=pure false:=by rfl):
  QPS X K (.Expr (.Call (.Attribute o "append" apos) [e] [] aP) dm) (fO (tBM K "list" mh (bB i) (dh te f6))) (wB i qe):=(fi (Bq z ho he.h Q q V hs P) g,Az he.s)
def wA(i:Nat)(qe:QE):QS:=λD q=>match q[i]? with
 |some (.o (.l xs))=>qe q λt=>match t with
  |.l ys=>xs.length+ys.length<=mu/\D.nx (q.set i (.o (.l (xs++ys))))
  |_=>False
 |_=>False
def Bp(q:X.K=K)(ho:PE X o (bB i))(he:PE X e te)(P:attributeBase o "extend" X.env (eval o X.env)=eval o X.env:=by rfl)
  (g:At X aP [e]:=by rfl)
  (Q:(apos.endLine==aP.line)=true:=by rfl) (hs:AC X e []:=by rfl) (z:(backTo aP (kh [] X.env)).any (·.1)=false:=by rfl):
  PE X (.Call (.Attribute o "extend" apos) [e] [] aP) (tBM K "list" pV (bB i) (dh te f6)):=by
 subst q;exact rX PySem.F.plainAttrs_list PySem.F.slot_list_extend PySem.F.type_list_extend ED ho (bN he eh hs) P g Q hs z
def Ay(he:ka K te qe):j9 K (fO (tBM K "list" pV (bB i) (dh te f6))) (wA i qe):=λdl H₀ hs H σ q Dq D (F,r) hq E=>by
 unfold wA at hq
 split at hq
 ·rename_i xs ei;let(v,hv,rp):=r.g i _ _ ei U;let(o1,o2,o3):=r.o i _ ei;let(p,vs,G,U,V,h1,h2):=rp.r.lst;refine(_,hv,.inl (U,vs,SqL.of h1),he dl H σ q _ _ r.rd hq λw t F' H' e1 r1 f1 n1 Q=>?_)
  split at Q
  ·let(p2,ws,G2,U,U,h3,h4):=r1.r.lst;let pn:=rp.n p (by rw[V];exact jf)
   refine(p,p2,vs,ws,U,U,e1.k p _ h1 pn (λ_ z=>nomatch z),h3,by rw[h2.len,h4.len];exact Q.1,?_)
   let hG:=λb P=>rp.n b (by rw[V];exact j0 _ P)
   let av:=h2.cx (e1.tf r.d) (λ_ z=>z) λb P o eo=>e1.k b o eo (hG b P) (.of (h2.there b P) eo)
   refine E.nx _ σ _ (r.nH ei hv V e1 (av.append h4) ?_ λb P=>?_) Q.2
   ·rw[V]at o1;refine Fj.mpr ((u3.mp o1).2,(u3.mp n1).2,λx hx y hy az=>?_)
    subst az;exact fD.no (h2.there x hx) (f1 x (j0 _ hy))
   ·obtain P|P:=p7.mp P
    ·exact .inl P
    ·exact .inr (f1 b (j0 _ P),r1.n b (j0 _ P))
  ·exact Q.elim
 ·exact hq.elim
def uV{dm:Pos}(ho:PE X o (bB i))(he:QPF X K e te qe)(z:X.K=K:=by rfl)(Q:attributeBase o "extend" X.env (eval o X.env)=eval o X.env:=by rfl)
  (q:At X aP [e]:=by rfl)
  (V:(apos.endLine==aP.line)=true:=by rfl) (hs:AC X e []:=by rfl) (P:(backTo aP (kh [] X.env)).any (·.1)=false:=by rfl)
  (g:swapsWith (.Call (.Attribute o "extend" apos) [e] [] aP) Y dm.line X.env=pure false:=by rfl):
  QPS X K (.Expr (.Call (.Attribute o "extend" apos) [e] [] aP) dm) (fO (tBM K "list" pV (bB i) (dh te f6))) (wA i qe):=(fi (Bp z ho he.h Q q V hs P) g,Ay he.s)
end
variable{td:TE}{tx:TE}{qo:QE}{to:TE}
section
variable{X:Cx}{K:BT}{dl:Dl}{hs:List (V×T)}{σ:St}{F:Nat->List J}{a b e o c:Ev}{ta tb tk tv:TE}{qa qb qk qv:QE}{pos apos aP:Pos}
theorem aq.last:∀{ts:List T}{x:T}{vs:List V}{F:List J},aq K dl H vs (ts ++ [x]) F->∃us w q g,vs=us ++ [w]/\aq K dl H us ts q/\ay K dl H w x g/\F=q++g
 |[],x,vs,F,h=>by
  cases h with
  |cons h1 h2 =>
   cases h2;exact([],_,[],_,U,.nil,h1,by simp)
 |t::ts,x,vs,F,h=>by
  cases h with
  |cons h1 h2 =>
   let(us,w,q,g,U,P,z,U):=aq.last h2;exact(_::us,w,_,g,U,.cons h1 P,z,by rw[Rl])
def Pg(i j:Nat):QS:=λD q=>match q[i]? with
 |some (.o (.l xs))=>∃ys x,xs=ys ++ [x]/\T.ims xs=O/\i≠j/\D.nx ((q.set i (.o (.l ys))).set j (.o x))
 |_=>False
def By:T.ims (xs++ys)=(T.ims xs&&T.ims ys):=by
 induction xs with
 |nil=>rfl
 |cons x r g=>show(x.im&&T.ims (r++ys))=((x.im&&T.ims r)&&T.ims ys);rw[g,Bool.and_assoc]
def Km:j9 K (iG (DV K "list" KP (bB i)) (eY j)) (Pg i j):=λdl H₀ hs H σ q Dq D (F,r) hq E=>by
 unfold Pg at hq
 split at hq
 ·rename_i xs ei;let(ys,x,U,P,az,hq):=hq;let(v,hv,rp):=r.g i _ _ ei U;let(p,vs,G,U,eF,h1,h2):=rp.r.lst;let(us,w,F1,F2,U,r1,r2,U):=h2.last;rw[By,tD]at P;obtain rfl:=r1.im P.1;let hx:=by have:=P.2;simpa [T.ims]using this
  obtain rfl:=r2.im hx;refine(_,hv,.inl (U,_,SqL.of h1),p,_,w,U,U,h1,by simp,?_)
  rw[Xa];let(F3,V):=r.nH ei hv eF (.refl r.d) r1 k4 b6
  let tf:=by
   let tf:TF H (upd H p (.lst us)):=(λa av h=>(by
    rw[aj];exact h;intro z;subst z;rw[h]at h1;cases h1),λa ob u h=>(by
    rw[aj];exact h;intro z;subst z;rw[h]at h1;cases h1),λa φ h=>(by
    rw[aj];exact h;intro z;subst z;rw[h]at h1;cases h1),λa Q h=>(by
    by_cases z:a=p
    ·subst z;exact(_,aw)
    ·exact(Q,by rw[aj z];exact h)),λa x h=>(x,NL _,by
    rw[aj];exact h;intro z;subst z;rw[h]at h1;cases h1))
   exact r2.cx tf (λ_ z=>z) b6
  exact E.nx _ _ _ (V.eT (.refl V.d) (.c tf) b6 k4) hq
 ·exact hq.elim
def GK(g:X.N.Nodup)(hi:X.N[j]?=Z x)(hx:Loc X.env.scope x)(ho:PE X o (bB i))(q:X.K=K:=by rfl)(z:attributeBase o "pop" X.env (eval o X.env)=eval o X.env:=by rfl)(P:(apos.endLine==aP.line)=true:=by rfl)
  (hs:swapsWith (.Call (.Attribute o "pop" apos) [] [] aP) (Z (.Name x pos')) pos.line X.env=pure false:=by rfl) (hf:AT X x:=by first|exact .inl rfl|exact .inr rfl|assumption):
  QPS X K (.Assign [.Name x pos'] (.Call (.Attribute o "pop" apos) [] [] aP) pos) (iG (DV K "list" KP (bB i)) (eY j)) (Pg i j) :=
 (by subst q;exact gZ g hi hx (wU PySem.F.plainAttrs_list PySem.F.slot_list_pop PySem.F.type_list_pop Bm ho z P) hs hf,Km)
def GV(g:Tg)(qe:QE):QS:=λD q=>qe q λt=>t.im=O/\Ex2 (λq'=>g.put t q=Z q') D.nx
def Kj(he:gE K te qe):j9 K (iG te (g.h K)) (GV g qe):=λdl H₀ hs H σ q Dq D (F,r) hq E=>he dl H σ q _ _ r.rd hq λv t F' H' e1 V (Q,q',P,hz)=>by
 obtain rfl:=V.r.im Q;exact AQ (r.evo e1) V (λ_ _ _ _ _ z=>nomatch z) P λav r'=>E.nx _ _ _ r' hz
def iN(he:QPE X K e te qe)(hg:PG X tg (g.h K))(hs:swapsWithSole [tg] e pos.line X.env=pure false:=by rfl)(hw:swappedStores [tg] e X.env=pure none:=by rfl)
  (h1:(assignEach [tg] X.env).map (·.2)=[assign tg X.env]:=by rfl):QPS X K (.Assign [tg] e pos) (iG te (g.h K)) (GV g qe):=(wF he.h hg hs hw h1,Kj he.s)
def Sh(i j:Nat)(qa qb:QE):QS:=λD q=>qa q λt=>t.im=O/\qb q λu=>u.im=O/\D.nx ((q.set i (.o t)).set j (.o u))
def Kn(ha:gE K ta qa)(hb:gE K tb qb):j9 K (OI i j (dh ta (dh tb f6))) (Sh i j qa qb):=λdl H₀ hs H σ q Dq D (F,r) hq E=>by
 refine ha dl H σ q _ _ r.rd hq λv t F1 H1 P V (m1,hq)=>hb dl H1 σ q _ _ (r.rd.evo P) hq λw u F2 H2 e2 Q g=>?_
 let(m2,hq):=g;obtain rfl:=V.r.im m1;obtain rfl:=Q.r.im m2;refine(v,w,U,?_);let(F1,R1):=r.eT (P.trans e2) (V.evo P.d e2) b6 k4
 exact E.nx _ _ _ (R1.eT (.refl R1.d) Q b6 k4) hq
def T.key:T->Option Key
 |.i x=>Z (.inl x)
 |.s x=>Z (.inr x)
 |_=>Y
theorem ay.key{v:V}{t:T}{F:List J}{k:Key}(h:ay K dl H v t F)(e:t.key=Z k):v=kV k:=by
 cases h <;> first|(cases e;rfl)|cases e
def bI(ks:List (Key×T))(k:Key):Option T:=(ks.find? λp=>decide (p.1=k)).map (·.2)
def cF(ks:List (Key×T))(k:Key)(t:T):List (Key×T):=if(ks.any λp=>decide (p.1=k))=O then ks.map (λp=>if p.1=k then(p.1,t)else p)else ks ++ [(k,t)]
def aI.look{F:List J}(k:Key)(h:aI K dl H vs ts F):(bI ts k=Y/\fP vs k=Y)\/∃t v G,bI ts k=Z t/\fP vs k=Z v/\ay K dl H v t G/\∀b∈G,b∈F :=
 h.ind (.inl (U,U)) λk0 v x vs ts F G h r q=>by
  by_cases e:k0=k
  ·subst e;exact .inr (_,_,_,by simp[bI],by simp[fP],h,λb g=>qF _ g)
  ·obtain⟨h1,h2⟩|⟨t,v,G,h1,h2,h3,h4⟩:=q
   ·refine .inl (?_,?_)
    ·unfold bI at h1 ⊢;rw[Dy,decide_eq_false e];exact h1
    ·unfold fP at h2 ⊢;rw[Dy,decide_eq_false e];exact h2
   ·refine .inr (t,v,G,?_,?_,h3,λb g=>p5 _ (h4 b g))
    ·unfold bI at h1 ⊢;rw[Dy,decide_eq_false e];exact h1
    ·unfold fP at h2 ⊢;rw[Dy,decide_eq_false e];exact h2
mutual
def T.imk:List (Key×T)->Bool
 |[]=>O
 | (_,x)::r=>x.im&&T.imk r
end
theorem aI.im{F:List J}(h:aI K dl H vs ts F):T.imk ts=O->F=[]:=h.ind (λ_=>rfl) (λ_ _ _ _ _ _ _ h _ g=>sD h.im g)
def aI.keys{F:List J}(h:aI K dl H vs ts F)(k:Key):(vs.any λp=>decide (p.1=k))=ts.any λp=>decide (p.1=k) :=
 h.ind U λ_ _ _ _ _ _ _ _ _ g=>by rw[Wm,Wm,g]
def aI.put(hw:ay K dl H w t []):∀{vs:List (Key×V)}{ts:List (Key×T)},aI K dl H vs ts []->aI K dl H (putK vs k w) (cF ts k t) []:=by
 let mp:∀{vs:List (Key×V)}{ts:List (Key×T)}{F:List J},aI K dl H vs ts F->F=[]->aI K dl H (vs.map λp=>if p.1=k then(p.1,w)else p) (ts.map λp=>if p.1=k then(p.1,t)else p) []:=by
  intro vs ts F h
  induction ts generalizing vs F with
  |nil=>intro _;cases h;exact .nil
  |cons p ts q =>
   cases h with
   |@cons k0 v x vs _ F1 F2 h1 h2 =>
    intro e;let(Q,P):=Fl.mp e;subst Q P;let z:=q h2 U;rw[xY,xY];by_cases g:k0=k
    ·rw[if_pos g,if_pos g];exact .cons hw z
    ·rw[if_neg g,if_neg g];exact .cons h1 z
 let sn:∀{vs:List (Key×V)}{ts:List (Key×T)}{F:List J},aI K dl H vs ts F->aI K dl H (vs ++ [(k,w)]) (ts ++ [(k,t)]) F:=by
  intro vs ts F h
  induction ts generalizing vs F with
  |nil=>cases h;exact .cons hw .nil
  |cons p ts q =>
   cases h with
   |cons h1 h2=>exact .cons h1 (q h2)
 intro vs ts h;unfold putK cF;rw[h.keys k]
 split
 ·exact mp h U
 ·exact sn h
def Rel.O1{ws:List (Key×V)}(r:Rel K dl H₀ hs H σ q F)(hi:q[i]?=Z (.o (.d xs)))(hv:σ[i]?=Z (Z (.ref p)))(e:Evo dl H H')
  (rs:aI K dl H' ws ys []):fU K dl H₀ hs (upd H' p (.dK ws)) σ (q.set i (.o (.d ys))):=by
 let r':=r.evo e;let(v',Q,rp):=r'.g i _ _ hi U;rw[hv]at Q;cases Q;let(p2,vs2,G2,e2,eF,h1,h2):=rp.r.dic;cases e2;let pn:=rp.n p (by rw[eF];exact jf)
 let tf:TF H' (upd H' p (.dK ws)):=(λa us h=>(by
  rw[aj];exact h;intro z;subst z;rw[h]at h1;cases h1),λa ob u h=>(by
  rw[aj];exact h;intro z;subst z;rw[h]at h1;cases h1),λa φ h=>(by
  rw[aj];exact h;intro z;subst z;rw[h]at h1;cases h1),λa P h=>(by
  let ne:a≠p:=by
   intro z;subst z;rw[h]at h1;cases h1
  exact(P,by rw[aj ne];exact h)),λa x h=>(x,NL _,by
  rw[aj];exact h;intro z;subst z;rw[h]at h1;cases h1))
 let av:=rs.cx tf (λ_ z=>z) b6
 exact(_,r'.write hi hv (by rw[eF];exact jf) (λP h=>by rw[h1]at h;cases h) (.d aw av,λb hb=>by rw[g5.mp hb];exact pn) (by simp) λb hb=>by rw[g5.mp hb,eF];exact .inl jf)
def Ef(i:Nat)(qk qv:QE):QS:=λD q=>match q[i]? with
 |some (.o (.d xs))=>qv q λt=>qk q λu=>match u.key with
  |some k=>xs.length<mu/\T.imk xs=O/\t.im=O/\D.nx (q.set i (.o (.d (cF xs k t))))
  |none=>False
 |_=>False
def Kl(hk:gE K tk qk)(hv:gE K tv qv):j9 K (rn (bB i) tk tv) (Ef i qk qv):=λdl H₀ hs H σ q Dq D (F,r) hq E=>by
 unfold Ef at hq
 split at hq
 ·rename_i xs ei;refine hv dl H σ q _ _ r.rd hq λw t F1 H1 P r1 hq=>?_
  let(v,z,rp):=(r.evo P).g i _ _ ei U;refine(v,z,hk dl H1 σ q _ _ (r.rd.evo P) hq λy u F2 H2 V r2 hq=>?_)
  split at hq
  ·rename_i k ek;let(hz,hm,ht,hq):=hq;obtain rfl:=r1.r.im ht;let Q:=rp.evo P.d V;let(p,vs,G,U,eF,h1,h2):=Q.r.dic;obtain rfl:=h2.im hm;rw[r2.r.key ek];exact(p,_,U,pN.k h1 (by rw[h2.len];exact hz),E.nx _ _ _ (r.O1 ei z (P.trans V) (aI.put (r1.evo P.d V).r h2)) hq)
  ·exact hq.elim
 ·exact hq.elim
def GJ(q:X.A.units+1<cLine)(ho:PE X o (bB i))(g:QPE X K a tk qk)(hv:QPE X K b tv qv)(hs:swapsWith b (Z (.Subscript o a pos')) pos.line X.env=pure false:=by rfl):
  QPS X K (.Assign [.Subscript o a pos'] b pos) (rn (bB i) tk tv) (Ef i qk qv):=(iS q ho g.h hv.h hs,Kl g.s hv.s)
def Lo:QPF X K (.Dict [] [] pos) FP (qC (.d [])):=(Hz,λdl H σ q Q R rd hq k=>λp hp=>k _ _ [p] _ ((Evo.refl rd.d).new hp) (.d aw .nil,λb g=>by rw[g5.mp g];exact rd.d.nd0 hp) (λb g=>by rw[g5.mp g];exact hp) (by simp) hq)
def Sz(neg:Bool):Q2:=λt u Q=>match u with
 |.d ks=>match t.key with
  |some k=>Q (.b (if neg then !(bI ks k).isSome else(bI ks k).isSome))
  |none=>False
 |_=>False
inductive KR(neg:Bool)(y:V)(x:V)(H:Hp)(Q:VK):Prop
 |mk(a o:_)(h1:x=.ref a)(h2:hU H a y o)(h3:Q (.bl (if neg then !o.isSome else o.isSome)) H)
def HQ(P:X.A.units+1<cLine):OpR X (compareOp .In) (KR ϊ):=by
 intro gV s σ H y x u v Q I z K h;let(a,o,U,g,q):=h;cases K;exact VC P I g z λs' V=>(.bl _,H,V,U,q)
def Eu(P:X.A.units+1<cLine):OpR X (compareOp .NotIn) (KR O):=by
 intro gV s σ H y x u v Q I z K h;let(a,o,U,g,q):=h;cases K;exact Nn P I g z λs' V=>(.bl _,H,V,U,q)
def Ce:cO K (KR neg) (Sz neg):=by
 intro dl H x y t u F G Q R D V P hq k;unfold Sz at hq
 split at hq
 ·split at hq
  ·rename_i k0 ek;let(p,vs,G,U,_,h1,h2):=P.r.dic;rw[V.r.key ek];refine(p,_,U,hU.k h1,k _ _ [] H (.refl D) (.c (.b _)) b6 k4 ?_)
   let e:∀{ks:List (Key×T)},aI K dl H vs ks G->(fP vs k0).isSome=(bI ks k0).isSome:=λ{ks} h2=>by
    obtain⟨q,g⟩|⟨_,_,_,q,g,_⟩:=h2.look k0
    ·rw[q,g];rfl
    ·rw[q,g];rfl
   rw[e h2];exact hq
  ·exact hq.elim
 ·exact hq.elim
def Pm:Q2:=λt u Q=>match t with
 |.d ks=>match u.key with
  |some k=>Ex2 (λx=>bI ks k=Z x) Q
  |none=>False
 |_=>qIx t u Q
inductive RY(x:V)(y:V)(H:Hp)(Q:VK):Prop
 |mk(a kvs k v)(h1:x=.ref a)(h2:y=kV k)(h3:H a=Z (.dK kvs))(h4:fP kvs k=Z v)(h5:Q v H)
def MY:IxR X RY:=by
 intro value slice gV s σ H x y v u Q I P K h hs;let(a,kvs,k,w,U,U,ha,hv,q):=h;cases P;let(z,hd,vs,rel,dd):=iB I.hok (Rd.of ha);let(V,hw,g):=iD.some_of (by rw[<- hv];exact rel.val k)
 exact subscriptTail_builtinR dd.typeIs PySem.F.slot_dict_getitem.lookup (wpAny_getItem_of (jK K) dd.mapOf hw (U,w,H,I.tok _,g,q)) hs
def O3(K:BT):R2:=λx y H Q=>rIx K x y H Q\/RY x y H Q
def U5(g:X.K=K):IxR X (O3 K):=by subst g;exact sA.or MY
def Ku:Ff K (O3 K) Pm:=by
 intro dl H x y t u F G Q R D P r2 hq k;unfold Pm at hq
 split at hq
 ·split at hq
  ·rename_i k0 ek;let(z,g,hq):=hq;let(p,vs,G,U,eF,h1,h2):=P.r.dic;rw[r2.r.key ek];obtain⟨q,V⟩|⟨t,v,G',q,V,z3,z4⟩:=h2.look k0
   ·rw[q]at g;cases g
   ·rw[q]at g;cases g;exact .inr (p,vs,k0,v,U,U,h1,V,k v _ G' H (.refl D) (Rp.sub z3 P.n λb hb=>by rw[eF];exact j0 _ (z4 b hb)) hq)
  ·exact hq.elim
 ·exact .inl (Gb dl H x y t u F G Q R D P r2 hq k)
def rG(ha:QPE X K a ta qa)(g:QPE X K b tb qb)(hs:gN b:=by intro _ _;rfl)(q:X.K=K:=by rfl):QPE X K (.Subscript a b pos) (tOp (O3 K) ta tb) (qOp Pm qa qb):=(oG (U5 q) ha.h g.h hs,qR Ku ha.s g.s)
def G7(z qk g:QE):QE:=λq Q=>z q λd=>match d with
 |.d ks=>qk q λu=>match u.key with
  |some k=>g q λx=>Q ((bI ks k).getD x)
  |none=>False
 |_=>False
def Lm(hu:X.A.units+1<cLine)(hd:QPE X K d td qd)(hk:QPE X K e tk qk)(hx:QPE X K f tx qx)(m:M2 X d "get" apos e f aP:=by exact(U,U,U,U)):QPE X K (.Call (.Attribute d "get" apos) [e,f] [] aP) (FQ td tk tx) (G7 qd qk qx) :=
 (HA hu hd.h hk.h hx.h m,λdl H σ q Q R rd hq k=>hd.s dl H σ q _ _ rd hq λv t F H1 P r1 hq=>by
  split at hq
  ·let(p,vs,G,U,eF,h1,h2):=r1.r.dic;refine(p,U,.inl (vs,Rd.of h1),hk.s dl H1 σ q _ _ (rd.evo P) hq λy u F2 H2 g r2 hq=>?_)
   split at hq
   ·rename_i k0 ek;refine hx.s dl H2 σ q _ _ ((rd.evo P).evo g) hq λz w F3 H3 e3 r3 hq=>?_
    let rp:=(r1.evo P.d g).evo g.d e3;let(p',vs',G',e',aD,az,av):=rp.r.dic;cases e';rw[r2.r.key ek];refine(_,hU.k az,?_);obtain⟨z1,V⟩|⟨t,v,G2,z1,V,z3,z4⟩:=av.look k0
    ·rw[V];rw[z1]at hq;exact k _ _ F3 H3 ((P.trans g).trans e3) r3 hq
    ·rw[V];rw[z1]at hq;exact k _ _ G2 H3 ((P.trans g).trans e3) (Rp.sub z3 rp.n λb hb=>by rw[aD];exact j0 _ (z4 b hb)) hq
   ·exact hq.elim
  ·exact hq.elim)
def VG:T->Option Str
 |.s x=>Z x
 |_=>Y
abbrev txs:List T->Option (List Str):=picks VG
theorem aq.txs{vs:List V}{F:List J}(h:aq K dl H vs ts F)(e:L2.txs ts=Z bs):vs=bs.map V.str :=
 h.picks (λv t F a h e=>by cases t <;> first|(cases e;exact h.str.1)|cases e) e
def J8(bs:List Str):txs (bs.map T.s)=Z bs:=by
 induction bs with
 |nil=>rfl
 |cons b r g=>show(txs (r.map T.s)).map (b :: ·)=_;rw[g];rfl
def So(qo qe:QE):QE:=λq Q=>qo q λs=>match s with
 |.s sep=>qe q λt=>match t with
  |.l xs=>Ex4 (λys=>txs xs=Z ys) (λys=>(ys.map (·.length)).sum+ys.length*sep.length<=16777216) (λys=>(.s (Txt.join sep ys))) Q
  |_=>False
 |_=>False
def Ll(ho:QPE X K o to qo)(he:QPE X K e te qe)(hK:X.K=K:=by rfl)(cB:attributeBase o "join" X.env (eval o X.env)=eval o X.env:=by rfl)
  (i6:At X aP [e]:=by rfl)
  (cA:(apos.endLine==aP.line)=true:=by rfl) (hs:AC X e []:=by rfl) (cG:(backTo aP (kh [] X.env)).any (·.1)=false:=by rfl):
  QPF X K (.Call (.Attribute o "join" apos) [e] [] aP) (tBM K "str" (rJoin K) to (dh te f6)) (So qo qe):=(by
 subst hK;exact rX PySem.F.plainAttrs_str PySem.F.slot_str_join PySem.F.type_str_join MB ho.h (bN he.h eh hs) cB i6 cA hs cG,λdl H σ q Q R rd hq k=>ho.s dl H σ q _ _ rd hq λv t F H1 g V hq=>by
  split at hq
  ·let(U,_):=V.r.str;refine(U,he.s dl H1 σ q _ _ (rd.evo g) hq λw u F2 H2 e2 P hq=>?_)
   split at hq
   ·let(ys,hy,hz,hq):=hq;let(p,vs,G,U,eF,h1,h2):=P.r.lst;let ev:=h2.txs hy;subst ev;exact(_,p,ys,U,U,SqL.of h1,hz,k _ _ [] H2 (g.trans e2) (.c (.s _)) b6 k4 hq)
   ·exact hq.elim
  ·exact hq.elim)
def N5(i:Nat)(qk qv:QE):QS:=λD q=>qv q λt=>match q[i]? with
 |some (.o (.l xs))=>qk q λu=>match u with
  |.i k=>∃j,ixN xs.length k=Z j/\T.ims xs=O/\t.im=O/\D.nx (q.set i (.o (.l (xs.set j t))))
  |_=>False
 |_=>False
end
def zE(vs ws:List V):Bool:=vs.length==ws.length&&(IK vs.length).all λj=>match vs[j]?,ws[j]? with|some x,Z y=>eqV x y|_,_=>ϊ
variable{its:List B}
section
variable{X:Cx}{K:BT}
def Vals.at'(r:Vals vs its)(h:j<its.toArray.size):∃v,vs[j]?=Z v/\RelV v its.toArray[j]:=by
 let hl:=r.length;let hj:=by simpa using h
 let hv:j<vs.length:=by lia
 let(u,h1,h2):=r.get (i:=j) (x:=vs[j]) (by simp[hv])
 have:its[j]?=Z its[j]:=by simp[hj]
 rw[this]at h1;cases h1;exact(vs[j],by simp[hv],by simpa using h2)
def p9{vs:List V}(h:vs.all eu=O)(e:vs[j]?=Z v):eu v=true:=NM.mp h v (px e)
inductive R0(K:BT)(x:V)(y:V)(H:Hp)(Q:VK):Prop
 |mk(p q vs ws)(h1:x=.ref p)(h2:y=.ref q)(h3:((SqL K H p vs/\SqL K H q ws)\/(SqT K H p vs/\SqT K H q ws)))(h4:vs.all eu=O)(h5:ws.all eu=O)(h6:Q (.bl (zE vs ws)) H)
def PR(hu:X.A.units+1<cLine):OpR X (compareOp .Eq) (R0 X.K):=by
 intro gV s σ H x y v u Q I rx ry h;let(p,q,vs,ws,U,U,hs,f1,f2,k):=h;cases rx;cases ry;obtain⟨h1,h2⟩|⟨h1,h2⟩:=hs
 ·let(its,z,p1,_):=I.list h1;let(bK,g,p2,_):=I.list h2;let l1:=z.length;let l2:=g.length;by_cases hl:its.length=bK.length
  ·refine SeqAt.eq_listAt (e:=λj=>match vs[j]?,ws[j]? with|some x,Z y=>eqV x y|_,_=>ϊ) p1.isList p2.isList (by simpa using hl) (by omega) (λj g1 g2=>?_) (.bl _,H,I,U,?_)
   ·let(a,V,ra):=z.at' g1;let(b,P,rb):=g.at' g2;simp only[V,P];exact n8 ra rb (p9 f1 V) (p9 f2 P)
   ·let e:zE vs ws=(IK its.toArray.size).all λj=>match vs[j]?,ws[j]? with|some x,Z y=>eqV x y|_,_=>false:=by
     unfold zE;rw[show(vs.length==ws.length)=O from by simp;lia,Bool.true_and,pM,l1]
    rw[<- e];exact k
  ·refine SeqAt.eq_list_lengthsAt p1.isList p2.isList (by simpa using hl) (by omega) (.bl _,H,I,U,?_)
   let e:zE vs ws=false:=by
    unfold zE;rw[show(vs.length==ws.length)=ϊ from by simp;lia,Bool.false_and]
   rw[<- e];exact k
 ·let(its,z,p1,_):=I.tuple h1;let(bK,g,p2,_):=I.tuple h2;let l1:=z.length;let l2:=g.length;refine SeqAt.eq_tupleAt (e:=λj=>match vs[j]?,ws[j]? with|some x,Z y=>eqV x y|_,_=>ϊ) (p1) (p2) (by omega) (λj g1 g2=>?_) (.bl _,H,I,U,?_)
  ·let(a,V,ra):=z.at' g1;let(b,P,rb):=g.at' g2;simp only[V,P];exact n8 ra rb (p9 f1 V) (p9 f2 P)
  ·let e:zE vs ws=((IK (min its.toArray.size bK.toArray.size)).all (λj=>match vs[j]?,ws[j]? with|some x,Z y=>eqV x y|_,_=>ϊ)&&its.toArray.size==bK.toArray.size):=by
    unfold zE;rw[pM,pM,<- l1,<- l2,Bool.and_comm];by_cases hl:vs.length=ws.length
    ·rw[hl,Yj]
    ·rw[show(vs.length==ws.length)=ϊ from by simpa using hl,WX,WX]
   rw[<- e];exact k
def eqF(xs ys:List T):Bool:=zE (xs.map T.v) (ys.map T.v)
def Lx:Q2:=λt u Q=>match t,u with
 |.l xs,.l ys=>(fls xs&&fls ys)=O/\Q (.b (eqF xs ys))
 |.t xs,.t ys=>(fls xs&&fls ys)=O/\Q (.b (eqF xs ys))
 |t,u=>qEq t u Q
def O4(K:BT):R2:=λx y H Q=>rEq x y H Q\/R0 K x y H Q
def Bi(g:X.A.units+1<cLine)(q:X.K=K):OpR X (compareOp .Eq) (O4 K):=by subst q;exact Od.or (PR g)
def vR:cO K (O4 K) Lx:=by
 intro dl H x y t u F G Q R D q g hq k;unfold Lx at hq
 split at hq
 ·let(p,vs,G1,U,U,h1,h2):=q.r.lst;let(P,vs',V,U,U,h3,h4):=g.r.lst;let(f,hq):=hq;rw[tD]at f;let(U,U):=h2.vs f.1;let(U,U):=h4.vs f.2;exact .inr (p,P,_,_,U,U,.inl (SqL.of h1,SqL.of h3),sI f.1,sI f.2,k _ _ [] H (.refl D) (.c (.b _)) b6 k4 hq)
 ·let(p,vs,U,h1,h2):=q.r.tup;let(P,vs',U,h3,h4):=g.r.tup;let(f,hq):=hq;rw[tD]at f;let(U,U):=h2.vs f.1;let(U,U):=h4.vs f.2;exact .inr (p,P,_,_,U,U,.inr (SqT.of h1,SqT.of h3),sI f.1,sI f.2,k _ _ [] H (.refl D) (.c (.b _)) b6 k4 hq)
 ·exact .inl (OV dl H x y t u F G Q R D q g hq k)
end
end L2
namespace PySem
open Sem (wp)
section
variable{prog:Da}{w:Cl}{A:Db}{E:B->ϋ->Prop}
def pz:typeLookup (.type "tuple") "keys"=pure none:=am_miss_of_fast (by decide +kernel)
def sy:typeLookup (.type "list") "keys"=pure none:=am_miss_of_fast (by decide +kernel)
set_option maxRecDepth 8000 in
theorem pA{s:ϋ}{a:J}{o:Obj}{xs:Array B}{k:Nat}{Q:Option B->ϋ->Prop}
  (hx:s.heap.get? a=Z o) (K:o.cls=.type "tuple") (P:o.data=.seq xs k) (hd:o.dict=Y) (V:A.handled=Y)
  (h:∀h' tk,(∀b o,s.heap.get? b=Z o->h'.get? b=Z o)->Q Y {s with heap:=h',toks:=tk}):
  wpAny (model prog w) A (getAttr? (.ref a) "keys") Q E s:=by
 let(c,av,dat,sl):=o;simp only at K P hd;subst K P hd;let(hp,g,d,tk,os):=s;let hT:∀q,((hp,g,d,q,os):ϋ).TypeIs (.ref a) "tuple":=λ_=>(_,hx,U)
 let f1:=sub_AttributeError;let f3:=F.slot_tuple_getattribute.lookup;let f4:=F.slot_tuple_getattribute.bind (.ref a);let f5:=am_tuple_getattr_none;unfold getAttr? getAttrBy? getAttrBy
 repeat (any_goals (first|assumption|exact hT _|((with_reducible show wpAny _ _ (call (B.builtin "tuple.__getattribute__") _ _) _ _ _);refine call_meets F.slot_tuple_getattribute (hT _) am_entry_tuple_getattribute (F.args_tuple_getattribute_2 _ _) (meets_getattribute_miss_tuple a xs k sl "keys" _ pz (by decide +kernel) (by decide +kernel)) (hx,V,λh' q e z=>?_))|wp_step))
 let(t',u',he):=z.there;show wpAny _ _ (getattributeRaised _ _ _ _ _ _ _) _ _ _;unfold getattributeRaised
 repeat (any_goals (first|assumption|wp_step))
 exact h _ _ z.keeps
set_option maxRecDepth 8000 in
theorem sx{s:ϋ}{a:J}{o:Obj}{xs:Array B}{k:Nat}{Q:Option B->ϋ->Prop}
  (hx:s.heap.get? a=Z o) (K:o.cls=.type "list") (P:o.data=.seq xs k) (hd:o.dict=Y) (V:A.handled=Y)
  (h:∀h' tk,(∀b o,s.heap.get? b=Z o->h'.get? b=Z o)->Q Y {s with heap:=h',toks:=tk}):
  wpAny (model prog w) A (getAttr? (.ref a) "keys") Q E s:=by
 let(c,av,dat,sl):=o;simp only at K P hd;subst K P hd;let(hp,g,d,tk,os):=s;let hT:∀q,((hp,g,d,q,os):ϋ).TypeIs (.ref a) "list":=λ_=>(_,hx,U)
 let f1:=sub_AttributeError;let f3:=F.slot_list_getattribute.lookup;let f4:=F.slot_list_getattribute.bind (.ref a);let f5:=am_list_getattr_none;unfold getAttr? getAttrBy? getAttrBy
 repeat (any_goals (first|assumption|exact hT _|((with_reducible show wpAny _ _ (call (B.builtin "list.__getattribute__") _ _) _ _ _);refine call_meets F.slot_list_getattribute (hT _) am_entry_list_getattribute (F.args_list_getattribute_2 _ _) (meets_getattribute_miss_list a xs k sl "keys" _ sy (by decide +kernel) (by decide +kernel)) (hx,V,λh' q e z=>?_))|wp_step))
 let(t',u',he):=z.there;show wpAny _ _ (getattributeRaised _ _ _ _ _ _ _) _ _ _;unfold getattributeRaised
 repeat (any_goals (first|assumption|wp_step))
 exact h _ _ z.keeps
end
end PySem
namespace PySem
open Sem (wp)
namespace F
def bT:entryFor table "dict.update.loop"=Z Builtin.«dict.update.loop»:=entryFor_of_tree (by kernel_rfl)
def bp:plainId "dict.update.loop"=true:=by decide +kernel
end F
section
variable{prog:Da}{w:Cl}{A:Db}{R:Result->ϋ->Prop}{I:J}{fp wr:List J}{n:Nat}{P:Nat->B->Prop}{St:Nat->Do->Prop}{κ:Type}[DecidableEq κ]{knd:KeyKind prog w κ}
def tT(kvs:List (κ×B))(k:κ)(v:B):(stored kvs k v).length<=kvs.length+1:=by
 unfold stored
 split <;> simp
def kP(kvs:List (κ×B)):∀(more:List (κ×B)),(merged kvs more).length<=kvs.length+more.length:=by
 intro more
 induction more generalizing kvs with
 |nil=>exact m9 _
 |cons p r g =>
  let h1:=g (stored kvs p.1 p.2);let h2:=tT kvs p.1 p.2;show(merged (stored kvs p.1 p.2) r).length<=_;simp only[rl]
  lia
theorem g9(W:Walks prog w A.in1 I fp wr n P St)(S:J)(aK:S ∉ fp)(res:B)(h0:Do)(kvs pairs:List (κ×B))(hsz:kvs.length+pairs.length<=mu)(a3:pairs.length=n)
  (hp:∀i v,P i v->∃(a:J)(o:Obj)(key val:B)(k:κ)(m:Nat),v=.ref a/\pairs[i]?=Z (k,val)/\knd.is k key=O/\h0.get? a=Z o/\o.cls=.type "tuple" /\ o.data=.seq #[key,val] m/\a ∉ wr/\a≠S):
  ∀(j i:Nat)(s:ϋ),n - i=j->i<=n->St i s.heap->s.heap.DictOf knd S (merged kvs (pairs.take i))->(∀b o,b ∉ wr->b≠S->h0.get? b=Z o->s.heap.get? b=Z o) ->
  (∀h' tk,(∀b o,b ∉ wr->b≠S->s.heap.get? b=Z o->h'.get? b=Z o)->h'.DictOf knd S (merged kvs pairs)->R (.ok (.ret res)) {s with heap:=h',toks:=tk}) ->
  codeAny (model prog w) A (.builtin "dict.update.loop" ([.ref S,.ref I,rawInt i,res],[])) R s:=by
 let aF:=λh=>aK (W.sub _ h)
 intro j
 induction j with
 |zero =>
  intro i s hk hi Q hS V hR;let a5:i=n:=by lia
  subst a5;refine U7 F.bT ?_;rw[WN F.bp _];refine dD (W.done s _ _ Q λh' tk g=>?_)
  refine dD (kL (kL (hR h' tk (λb o K _ e=>g b o K e) ?_)))
  rw[<- a3,tI]at hS;let(o,es,ep,ho,r):=hS;exact(o,es,ep,g S o aF ho,r)
 |succ j ih =>
  intro i s hk hi Q hS V hR;let az:=WI hk;refine U7 F.bT ?_;refine dD (W.item i s _ _ az Q λv h' tk hP ux g=>?_)
  let(a,o,key,val,k,m,U,aP,Qx,ho,hc,hd,aD,a6):=hp i v hP;let av:=g a o aD (V a o aD a6 ho);let bt:h'.DictOf knd S (merged kvs (pairs.take i)):=by
   let(o,es,ep,ho,r):=hS;exact(o,es,ep,g S o aF ho,r)
  refine dD (Fq (dD (wpAny_tryCatch ?_)));refine dD (V7 (o,av,hc) ?_);refine dD (wpAny_seqItems av hd (kL ?_));let bG:(merged kvs (pairs.take i)).length<=mu:=by
   let h1:=kP kvs (pairs.take i);rw[z7]at h1;omega
  refine Fq (wpAny_dictSet_pairs Qx bt λbx BA aN=>?_)
  let e:=merged_take_succ kvs pairs i (k,val) aP;rw[<- e]at BA;let fr:∀b o,b≠S->h'.get? b=Z o->bx.get? b=Z o:=λb o K eb=>(aN.2 b K).trans eb
  exact kL (Rn F.bp _,ih (i+1) _ (by rw[Xk,hk];rfl) az (W.frame _ _ _ ux λb K o eb=>fr b o (λz=>aK (z▸K)) eb) BA (λb o K q eb=>fr b o q (g b o K (V b o K q eb))) λh3 aM a4 a7=>(hR h3 aM (λb o K q eb=>a4 b o K q (fr b o q (g b o K eb))) a7))
end
end PySem
namespace PySem
open Sem (wp)
section
variable{prog:Da}{w:Cl}{A:Db}{s:ϋ}{κ:Type}[DecidableEq κ]{knd:KeyKind prog w κ}
theorem hV{its:Array B}{kvs pairs:List (κ×B)}{id:String}{res:B}{R:Result->ϋ->Prop}(Q:A.handled=Y)(hS:s.heap.DictOf knd S kvs)(az:p≠S)
  (ho:∃(o:Obj)(n:Nat),s.heap.get? p=Z o/\o.dict=Y/\o.data=.seq its n/\(o.cls=.type "tuple" \/ o.cls=.type "list")) (hsz:kvs.length+pairs.length<=mu) (aD:pairs.length=its.size)
  (hp:∀(i:Nat)(v:B),its[i]?=Z v->∃(a:J)(o:Obj)(key val:B)(k:κ)(m:Nat),v=.ref a/\pairs[i]?=Z (k,val)/\knd.is k key=O/\s.heap.get? a=Z o/\o.cls=.type "tuple" /\ o.data=.seq #[key,val] m)
  (hR:∀h' tk,(∀b o,b≠S->s.heap.get? b=Z o->h'.get? b=Z o)->h'.DictOf knd S (merged kvs pairs)->R (.ok (.ret res)) {s with heap:=h',toks:=tk}):
  wpAny (model prog w) A.in1 (Builtin.Dict.updateFrom id S (.ref p) [] res) (λfin s'=>match fin with|.done f=>R (.ok f) s' |.again c'=>c'.quiet=O/\codeAny (model prog w) A c' R s') (λe s'=>R (.error e) s') s:=by
 let(o,n,hg,P,q,g):=ho;let fin:∀(h1:Do) tk h2 I St,(∀b o,s.heap.get? b=Z o->h1.get? b=Z o)->(∀b o,h1.get? b=Z o->h2.get? b=Z o)->h1.objs.size<=I->Walks prog w A.in1 I [I,p] [I] its.size (λi v=>its[i]?=Z v) St->St 0 h2 ->
   codeAny (model prog w) A (.builtin "dict.update.loop" ([.ref S,.ref I,rawInt 0,res],[])) R {s with heap:=h2,toks:=tk}:=by
  intro h1 tk h2 I St k1 k2 hI W av;let K:∀b o,s.heap.get? b=Z o->b≠I:=λb o e z=>by
   have:=kS (k1 b o e)
   exact absurd (zZ this hI) (by rw[z];exact WH _)
  let aF:S ∉ [I,p]:=λz=>by
   let(o,_,_,e,_):=hS;obtain z|z:=kz.mp z
   ·exact K S o e z
   ·exact az (g5.mp z).symm
  refine g9 (knd:=knd) W S aF res s.heap kvs pairs hsz aD (λi v hP=>?_) its.size 0 _ U (JG _) av ?_ (λb o _ _ e=>k2 b o (k1 b o e)) λh' V hk aK=>?_
  ·let(a,oa,key,val,k,m,e1,e2,e3,e4,e5,e6):=hp i v hP;refine(a,oa,key,val,k,m,e1,e2,e3,e4,e5,e6,λz=>K a oa e4 (g5.mp z),λz=>?_)
   let(o,_,_,e,hc,hd,_):=hS;rw[<- z,e4]at e;cases e;rw[e6]at hd;cases hd
  ·let(o,es,ep,e,r):=hS;exact(o,es,ep,k2 _ _ (k1 _ _ e),r)
  ·exact hR h' V (λb o hb e=>hk b o (λz=>K b o e (g5.mp z)) hb (k2 b o (k1 b o e))) aK
 obtain g|g:=g
 ·refine dD (V7 (o,hg,g) ?_);refine dD (pA hg g q P Q λh1 tk k1=>?_)
  refine dD (Wb ?_);let hT:h1.IsTuple p its:=(o,k1 _ _ hg,g,n,q);exact dD (wpAny_pyIter_tuple hT (kL (Rn F.bp _,(fin h1 tk _ h1.objs.size _ k1 (λb o e=>j3 _ e) (m9 _) (Walks.tuple (show A.in1.handled=Y from Q) _ p (ui (kS (k1 _ _ hg))) its) ((_,p6 _ U,U,U),hT.push _)))))
 ·refine dD (V7 (o,hg,g) ?_);refine dD (sx hg g q P Q λh1 tk k1=>?_)
  refine dD (Wb ?_);let hT:h1.IsList p its:=(o,k1 _ _ hg,g,n,q);exact dD (wpAny_pyIter_list hT (kL (Rn F.bp _,(fin h1 tk _ h1.objs.size _ k1 (λb o e=>j3 _ e) (m9 _) (Walks.list (show A.in1.handled=Y from Q) _ p (ui (kS (k1 _ _ hg))) its) ((_,p6 _ U,U,U),hT.push _)))))
end
end PySem
namespace L2
open PySem PySem.Spec PyProof.Rows
variable{gV:List (J×Obj)}{H:Hp}{a:J}
section
variable{X:Cx}
def Inv.OD{σ:St}(I:Inv X gV σ H s)(h:H a=Z (.tup xs)):∃its:List B,Vals xs its/\lO s.heap a its.toArray/\xs.length<=mu:=by
 let(z,its,r,p):=(I.hok a _ h);exact(its,r,p,z)
def yV{σ:St}(I:Inv X gV σ H s):∀{ps:List J}{kvs:List (Key×V)}{us:List B},Vals (ps.map V.ref) us->ps.length=kvs.length->(∀(i:Nat)(p:J)(kv:Key×V),ps[i]?=Z p->kvs[i]?=Z kv->H p=Z (.tup [kV kv.1,kv.2])) ->
  ∃pairs:List (Key×B),KV kvs pairs/\∀(i:Nat)(v:B),us[i]?=Z v->∃(a:J)(o:Obj)(key val:B)(k:Key)(m:Nat),v=.ref a/\pairs[i]?=Z (k,val)/\(bE X.prog X.w).is k key=O/\s.heap.get? a=Z o/\o.cls=.type "tuple" /\ o.data=.seq #[key,val] m:=by
 intro ps
 induction ps with
 |nil =>
  intro kvs us r hl _;let e:kvs=[]:=by cases kvs with|nil=>rfl|cons _ _=>simp at hl
  subst e;cases r;exact([],.nil,λi v h=>by simp at h)
 |cons p ps ih =>
  intro kvs us r hl h;cases kvs with
  |nil=>simp at hl
  |cons kv kvs =>
   cases r with
   |@cons _ u _ us P K =>
    let(pairs,h1,h2):=ih K (by simpa using hl) λi p kv q g=>h (i+1) p kv (by simpa using q) (by simpa using g)
    let hp:=h 0 p kv (by simp) (by simp)
    let(its,z,(o,ho,hc,m,hd),_):=I.tuple (SqT.of hp);cases z with
    |@cons _ key _ rest k1 k2 =>
     cases k2 with
     |@cons _ val _ VR k3 Q =>
      cases Q;refine((kv.1,val)::pairs,.cons (U,k3) h1,λi v hv=>?_)
      cases i with
      |zero =>
       simp at hv;subst hv
       cases(P)
       exact(p,o,key,val,kv.1,m,U,by simp,jK k1,ho,hc,hd)
      |succ i =>
       let(a,oa,U4,Uq,k,m',q,g,e3):=h2 i v (by simpa using hv)
       exact(a,oa,U4,Uq,k,m',q,by simpa using g,e3)
inductive wm(xs:List V)(H:Hp)(Q:VK):Prop
 |mk(p:J)(ps:List J)(kvs:List (Key×V))(h1:xs=[.ref p])(h2:(H p=Z (.tup (ps.map V.ref))\/H p=Z (.lst (ps.map V.ref))))(h3:ps.length=kvs.length)(h4:(∀(i:Nat)(a:J)(kv:Key×V),ps[i]?=Z a->kvs[i]?=Z kv->H a=Z (.tup [kV kv.1,kv.2])))(h5:∀d,H d=Y->Q (.ref d) (upd H d (.dK (dt [] kvs))))
theorem jc(hc:X.calm=O):cE X (.type "dict") wm:=by
 intro gV s σ H xs us Q I r h;let(p,ps,kvs,U,hp,hl,av,q):=h;let(u,U,ru):=vals1 r;cases ru;let hh:=I.ok.hd hc;obtain⟨its,rv,z,ob⟩:∃its:List B,Vals (ps.map V.ref) its/\(ps.map V.ref).length<=mu/\∃(o:Obj)(n:Nat),s.heap.get? p=Z o/\o.dict=Y/\o.data=.seq its.toArray n/\(o.cls=.type "tuple" \/ o.cls=.type "list"):=by
  obtain hp|hp:=hp
  ·let(its,rv,((o,ho,h1,n,h2),o',K,h3),z):=I.OD hp;rw[ho]at K;cases K;exact(its,rv,z,o,n,ho,h3,h2,.inl h1)
  ·let(z,its,n,rv,e):=(I.hok p _ hp);exact(its,rv,z,_,n,e,U,U,.inr U)
 let(pairs,kv,Bz):=yV I rv hl av;refine callType_codes (Q₁:=λobj g=>obj=.ref s.heap.objs.size/\g={s with heap:=s.heap.push {cls:=.type "dict",data:=.dict #[]}}) F.kt_called_dict (F.kt_typeCall_dict_1 _) F.entry_dict_init (kt_code_dict_new _ (U,U)) ?_
 rintro obj g ⟨rfl,rfl⟩
 let P:(s.heap.push {cls:=.type "dict",data:=.dict #[]}).DictOf (bE X.prog X.w) s.heap.objs.size []:=Heap.DictOf.new s.heap;refine(P.typeIs,F.args_dict_init_2 _ _,?_);refine dD ?_;refine dD (wpAny_notOrdered_dict P.typeIs ?_);refine kL ?_;let(o,n,ho,aF,aD,aK):=ob;let az:=rv.length;rw[ej]at az z;let aM:=kv.length;refine hV (pairs:=pairs) hh P (ui (kS ho)) (o,n,j3 _ ho,aF,aD,aK) (by simp only[WE];lia) (by rw[pM];lia) (λi v hv=>?_) λh' tk hk hd=>?_
 ·let(a,oa,key,val,k,m,e1,e2,e3,e4,e5,e6):=Bz i v (by simpa using hv)
  exact(a,oa,key,val,k,m,e1,e2,e3,j3 _ e4,e5,e6)
 ·refine(U,.ref s.heap.objs.size,_,I.laid (λb u e=>hk b u (ui (kS e)) (j3 _ e)) (m9 _) ?_,U,q _ (I.hok.fresh (m9 _)))
  refine og ?_ ?_ (KV.merge kv .nil) hd
  ·have:=dA kvs []
   simp only[WE]at this
   lia
  ·have:=I.big
   exact beq_eq_false_iff_ne.mpr (QX this)
end
def fe:List T->Option (List (Key×T))
 |[]=>Z []
 |.t [k,x]::r=>match k.key,fe r with
  |some k,Z r=>Z ((Prod.mk k x)::r)
  |_,_=>Y
 |_=>Y
def aO(ks more:List (Key×T)):List (Key×T):=more.foldl (λacc p=>cF acc p.1 p.2) ks
section
variable{K:BT}{dl:Dl}
def yW(h:fe (x::r)=Z kts):∃k y k0 g,x=.t [k,y]/\k.key=Z k0/\fe r=Z g/\kts=(k0,y)::g:=by
 unfold fe at h
 split at h
 ·rename_i z;cases z
 ·rename_i k y q z;cases z
  split at h
  ·cases h;exact(_,_,_,_,U,‹_›,‹_›,U)
  ·cases h
 ·cases h
def aq.pairs{vs:List V}(h:aq K dl H vs xs F):∀{kts:List (Key×T)},F=[]->fe xs=Z kts ->
  ∃(ps:List J)(kvs:List (Key×V)),vs=ps.map V.ref/\ps.length=kvs.length/\(∀(i:Nat)(a:J)(kv:Key×V),ps[i]?=Z a->kvs[i]?=Z kv->H a=Z (.tup [kV kv.1,kv.2]))/\aI K dl H kvs kts [] :=
 h.ind (M:=λvs xs F=>∀{kts:List (Key×T)},F=[]->fe xs=Z kts ->   ∃(ps:List J)(kvs:List (Key×V)),vs=ps.map V.ref/\ps.length=kvs.length/\(∀(i:Nat)(a:J)(kv:Key×V),ps[i]?=Z a->kvs[i]?=Z kv->H a=Z (.tup [kV kv.1,kv.2]))/\aI K dl H kvs kts []) (λ{kts} _ h=>by
  cases h;exact([],[],U,U,λi a kv h=>by simp at h,.nil)) λ_ _ _ _ _ _ h _ ih kts e q=>by
  let(e1,e2):=Fl.mp e;let(k,y,k0,r0,U,ek,er,U):=yW q;let(ps,kvs,U,hl,ht,hk):=ih e2 er;let(a,ws,U,ha,P):=h.tup;cases P with
  |@cons w1 _ _ _ G1 G2 z g =>
   cases g with
   |@cons w2 _ _ _ G3 G4 h2 h3 =>
    cases h3;let e3:=z.key ek;subst e3;let(z1,Q):=Fl.mp e1;rw[tG]at Q;subst z1 Q;refine(a::ps,(k0,w2)::kvs,U,by simp[hl],λi b kv h1 h2=>?_,.cons h2 hk)
    cases i with
    |zero =>
     simp at h1 h2;subst h1 h2;exact ha
    |succ i=>exact ht i b kv (by simpa using h1) (by simpa using h2)
theorem aI.aO{kvs':List (Key×V)}{kts':List (Key×T)}{kvs:List (Key×V)}{kts:List (Key×T)}{F:List J}(h:aI K dl H kvs kts F):F=[]->∀{vs:List (Key×V)}{ts:List (Key×T)},aI K dl H vs ts []->aI K dl H (dt vs kvs) (L2.aO ts kts) [] :=
 h.ind (λ_ _ _ h=>h) λ_ _ _ _ _ _ _ h1 _ g e _ _ h=>by
  let(z,q):=Fl.mp e;subst z;exact g q (aI.put h1 h)
def Ly:QC:=λts Q=>on1 ts λt=>match t with
 |.t xs=>T.ims xs=O/\Ex3 (λkts=>fe xs=Z kts) (λkts=>(.d (aO [] kts))) Q
 |.l xs=>T.ims xs=O/\Ex3 (λkts=>fe xs=Z kts) (λkts=>(.d (aO [] kts))) Q
 |_=>False
def kW:ou K wm Ly:=by
 intro dl H vs ts F Q R D r hq k;let go:∀p ws xs,vs=[.ref p]->(H p=Z (.tup ws)\/H p=Z (.lst ws))->aq K dl H ws xs []->(Ex3 (λkts=>fe xs=Z kts) (λkts=>(.d (aO [] kts))) Q)->wm vs H R:=by
  rintro p ws xs rfl hp rs ⟨kts,e,hq⟩
  let(ps,kvs,U,hl,P,V):=rs.pairs U e;refine(p,ps,kvs,U,hp,hl,P,λd hd=>?_)
  let ev:=(Evo.refl D).new (o:=.dK (dt [] kvs)) hd;let h2:=aI.aO (kvs':=[]) (kts':=[]) V U .nil;exact k _ _ [d] _ ev (.d aw (h2.cx (ev.tf D) (λ_ z=>z) b6),λb q=>by rw[g5.mp q];exact D.nd0 hd) (λb q=>by rw[g5.mp q];exact hd) (by simp) hq
 replace hq:=on1.inv hq
 let(t,U,hq):=hq;cases t with
 |t xs =>
  let(v,U,g):=r.one;let(p,ws,U,h1,h2):=g.r.tup;let e:=h2.im hq.1;subst e;exact go p ws _ U (.inl h1) h2 hq.2
 |l xs =>
  let(v,U,g):=r.one;let(p,ws,G,U,_,h1,h2):=g.r.lst;let e:=h2.im hq.1;subst e;exact go p ws _ U (.inr h1) h2 hq.2
 |_=>exact hq.elim
end
variable{j:Nat}{x:Str}{py:Pos}{P:Da}{mg:Str->Option B}{base:Do}{fd:Ch}
section
variable{X:Cx}{K:BT}{a b:Ev}{ta tb:TE}{qa qb:QE}{pos:Pos}
def HL:OpR X (compareOp .Is) (λx y H Q=>∃c d,x=.bl c/\y=.bl d/\Q (.bl (c==d)) H):=by
 intro gV s σ H x y v u Q I z g h;let(c,d,U,U,q):=h;cases z;cases g;exact is_bool (.bl _,H,I,U,q)
def Ss:Q2:=λt u Q=>match t,u with
 |.b c,.b d=>Q (.b (c==d))
 |_,_=>False
def Cc:cO K (λx y H Q=>∃c d,x=.bl c/\y=.bl d/\Q (.bl (c==d)) H) Ss:=by
 intro dl H x y t u F G Q R D q g hq k;unfold Ss at hq
 split at hq
 ·let(U,U):=q.r.bl;let(U,U):=g.r.bl;exact(_,_,U,U,k _ _ [] H (.refl D) (.c (.b _)) b6 k4 hq)
 ·exact hq.elim
def O7(V:X.calm=O)(hN:X.N.Nodup)(hi:X.N[i]?=Z x)(hj:X.N[j]?=Z y)(z:i≠j)
  (hx:BC X x) (Q:BC X y) (ha:QPE X K a ta qa) (P:QPE X K b tb qb)
  (hw:swappedStores [.Tuple [.Name x q,.Name y py] kt pt] (.Tuple [a,b] k2 g) X.env=pure (Z [x,y]))
  (hs:swapsWithSole [.Tuple [.Name x q,.Name y py] kt pt] (.Tuple [a,b] k2 g) pos.line X.env=pure false:=by rfl)
  (h1:kh [a,b] X.env=(ϊ,eval a X.env)::kh [b] X.env:=by rfl) (h2:AC X b []:=by rfl):
  QPS X K (.Assign [.Tuple [.Name x q,.Name y py] kt pt] (.Tuple [a,b] k2 g) pos) (OI i j (dh ta (dh tb f6))) (Sh i j qa qb) :=
 (Pq V hN hi hj z hx Q (bN ha.h (bN P.h eh h2) h1) hw hs,Kn ha.s P.s)
def rJ:PSp:=λts Q=>on2 ts λt u=>match t with
 |.df=>match u with|.i m=>0<m/\m<18446744073709551616/\∀r,0<=r->r<m->Q (.i r)|_=>False
 |_=>False
theorem i7(F:bb P w K mg base CX0 k f fd ps FV):bb P w K mg base CX0 k f fd ps (spQ K rJ):=by
 refine F.imp λvs H Q E h=>?_
 let(dl,ts,Fp,Qp,D,r,h,fin):=h
 replace h:=on2.inv h
 let(t,u,U,h):=h
 split at h
 ·split at h
  ·let(v,w',F1,F2,U,r1,r2):=r.two;let(a,l,U,hm,_):=r1.r.dea;let(U,_):=r2.r.int;refine(a,l,_,U,D _ hm,h.1,h.2.1,λr H' r0 av D' q=>fin _ _ [] H' (λb o e n _=>q b o e (n _ hm).1 (n _ hm).2,λp hp=>?_,λb x e=>(x,NL _,by
    let(s2,n2,l2,Q2):=D _ hm;exact q b _ e (il e Q2.hd (λz=>nomatch z)) (il e Q2.hl (λz=>nomatch z)))) (.c (.i _)) b6 k4 (h.2.2 r r0 av))
   by_cases e:p=(a,l)
   ·rw[e];exact D'
   ·let(s1,n1,l1,Q1):=D p hp;let(s2,n2,l2,Q2):=D _ hm;let(s3,n3,l3,Q3):=D';let pa:p.1≠a:=λz=>by
     let z1:=Q1.hd;let z2:=Q2.hd;rw[z]at z1;rw[z1]at z2;let z3:=by injection (Option.some.inj z2)
     let z4:=congrArg (λkv=>fP kv (.inr "left")) z3
     exact e (Prod.ext z (V.ref.inj (Option.some.inj z4)))
    let pl:=il Q1.hd Q2.hl (λz=>nomatch z)
    let az:=il Q1.hl Q2.hd (λz=>nomatch z)
    by_cases g:p.2=l
    ·exact(s1,n1,l3,q _ _ Q1.hd pa pl,by rw[g];exact Q3.hl,Q1.s0,Q1.s1,Q1.n0,Q3.l0)
    ·exact(s1,n1,l1,q _ _ Q1.hd pa pl,q _ _ Q1.hl az g,Q1.s0,Q1.s1,Q1.n0,Q1.l0)
  ·exact h.elim
 ·exact h.elim
end
section
variable{X:Cx}{K:BT}{a b e o:Ev}{tk tv:TE}{qk qv:QE}{pos pos':Pos}
theorem aq.set{dl:Dl}(hw:ay K dl H w t []):∀{vs:List V}{xs:List T}{F:List J}(j:Nat),aq K dl H vs xs F->F=[]->aq K dl H (vs.set j w) (xs.set j t) []
 |_,_,_,_,.nil,_=>.nil
 |_,_,_,0,.cons h r,e=>by
  let(q,g):=Fl.mp e;subst q g;exact .cons hw r
 |_,_,_,j+1,.cons h r,e=>by
  let(q,g):=Fl.mp e;subst q g;exact .cons h (aq.set hw j r U)
def F6(hk:gE K tk qk)(hv:gE K tv qv):j9 K (iG tv (IU (bB i) tk Gy)) (N5 i qk qv):=λdl H₀ hs H σ q Dq D (F,r) hq E=>by
 refine hv dl H σ q _ _ r.rd hq λw t F1 H1 Q r1 hq=>?_
 split at hq
 ·rename_i xs ei;let(v,P,rp):=(r.evo Q).g i _ _ ei U;refine(v,P,hk dl H1 σ q _ _ (r.rd.evo Q) hq λy u F2 H2 e2 r2 hq=>?_)
  split at hq
  ·let(j,hj,hm,ht,hq):=hq;let(U,_):=r2.r.int;obtain rfl:=r1.r.im ht;let V:=rp.evo Q.d e2;let(p,vs,G,U,eF,h1,h2):=V.r.lst;let eG:=h2.im hm;subst eG;exact(p,vs,_,j,U,U,h1,by rw[h2.len];exact hj,(E.nx _ _ _ (r.nH ei P eF (Q.trans e2) (aq.set (r1.evo Q.d e2).r j h2 U) k4 b6) hq))
  ·exact hq.elim
 ·exact hq.elim
def KW(ho:PE X o (bB i))(q:QPE X K a tk qk)(hv:QPE X K b tv qv)(hs:swapsWithSole [.Subscript o a pos'] b pos.line X.env=pure false:=by rfl)(hw:swappedStores [.Subscript o a pos'] b X.env=pure none:=by rfl)
  (h1:(assignEach [.Subscript o a pos'] X.env).map (·.2)=[assign (.Subscript o a pos') X.env]:=by rfl)
  (ha:∀v,assign (.Subscript o a pos') X.env v=(do
   let g <- holding [v] (eval o X.env)
   let iv <- holding [v,g] (eval a X.env)
   standAt pos'
   holding [v,g,iv] (setItem g iv v)
   release [v,g,iv] []):=by intro _;rfl):QPS X K (.Assign [.Subscript o a pos'] b pos) (iG tv (IU (bB i) tk Gy)) (N5 i qk qv) :=
 (wF hv.h (Hr ho q.h set_list ha) hs hw h1,F6 q.s hv.s)
end
variable{elts:List Ev}{pos':Pos}{t1:Bool}{t2:Bool}
section
variable{X:Cx}{K:BT}{dl:Dl}
def lQ(xs ys:List T):List T:=(xs.zip ys).map λp=>.t [p.1,p.2]
def vG{i:Nat}(h:(lQ xs ys)[i]?=Z z):∃x y,xs[i]?=Z x/\ys[i]?=Z y/\z=.t [x,y]:=by
 unfold lQ at h;rw[j5]at h;let(p,hp,U):=kg.mp h;rw[NO]at hp;exact(p.1,p.2,hp.1,hp.2,U)
def ju:(lQ xs ys).length=min xs.length ys.length:=by simp[lQ]
def Qk:uH K dl (Itz K O O a b) (lQ xs ys) [(.ref a,.t xs),(.ref b,.t ys)] where
 go:=λH i D h hi=>by
  let(F,r):=h (.ref a,.t xs) (by simp)
  let(F',Q):=h (.ref b,.t ys) (by simp)
  let(p,vs,e,h1,h2):=r.r.tup;cases e;let(p',vs',e',P,g):=Q.r.tup;cases e';rw[ju]at hi;let l1:i<vs.length:=by rw[h2.len];lia
  let l2:i<vs'.length:=by rw[g.len];lia
  exact(vs,vs',vs[i],vs'[i],SqT.of h1,SqT.of P,by simp[l1],by simp[l2])
 yld:=λH i x fp v H' D h hx y=>by
  let r:=h (.ref a,.t xs) (by simp)
  let Q:=h (.ref b,.t ys) (by simp)
  let(p,vs,e,h1,h2):=r.r.tup;cases e;let(p',vs',e',P,g):=Q.r.tup;cases e';let(x1,y1,aP,aN,U):=vG hx;let(w1,G1,a4,aM,az):=h2.get aP;let(w2,G2,a3,aK,av):=g.get aN;let(q,u1,u2,hq,U,U,aF,aD):=y;let e1:=aF vs (SqT.of h1);rw[a4]at e1;cases e1;let e2:=aD vs' (SqT.of P);rw[a3]at e2;cases e2;let rs:=Rps.cons (aM,λb V=>r.n b (az b V)) (Rps.cons (aK,λb V=>Q.n b (av b V)) (.nil,b6))
  refine((Evo.refl D).new hq,_,rs.tup D hq,λc V=>.inr ?_)
  rw[tG]at V;obtain z|z:=p7.mp V
  ·exact(_,by simp,az c z)
  ·exact((.ref b,.t ys),by simp,av c z)
 stop:=λH D h=>by
  let(F,r):=h (.ref a,.t xs) (by simp)
  let(F',Q):=h (.ref b,.t ys) (by simp)
  let(p,vs,e,h1,h2):=r.r.tup;cases e;let(p',vs',e',P,g):=Q.r.tup;cases e';refine(vs,vs',SqT.of h1,SqT.of P,?_);rw[ju,h2.len,g.len]
  lia
variable{a b:Ev}{ta:TE}{pos p:Pos}
def LP{ta:TA}(z:X.K=K)(hg:Gl X "zip")(hm:X.mg "zip"=Y)(P:bootBuiltins "zip"=Z (.type "zip"))(ha:PA X [a,b] ta)(hs:kh [a,b] X.env=[(ϊ,eval a X.env),(ϊ,eval b X.env)])(g:AD X b):
  PI X (.Tuple elts q pos') (.Call (.Name "zip" p) [a,b] [] pos) (Qs K t1 t2 ta):=by subst z;exact PD hg hm P ha hs g
end
variable{H2:Hp}
section
variable{X:Cx}{K:BT}{e a b:Ev}{tl:TA}{ql:QA}{pos p bZ p2:Pos}{dl:Dl}
def yJ(ql:QA):QE:=λq Q=>ql q λts=>on2 ts λt u=>match t with|.t xs=>(match u with|.t ys=>T.ims xs=O/\T.ims ys=O/\Q (.l (lQ xs ys))|_=>False)|_=>False
def Ec(h:aq K dl H2 vs xs F):F=[]->∀{ws:List V}{ys:List T}{G:List J},aq K dl H2 ws ys G->G=[]->∀{ps:List J},ps.length=min vs.length ws.length ->
  (∀(j:Nat) p x y,ps[j]?=Z p->vs[j]?=Z x->ws[j]?=Z y->H2 p=Z (.tup [x,y]))->aq K dl H2 (ps.map V.ref) (lQ xs ys) [] :=
 h.ind (λ_ _ _ _ _ _ ps hl _=>by
   let e:=Rj.mp (by rw[hl];exact Nat.zero_min _)
   subst e;exact .nil) λv x vs xs F G h _ q e ws ys G' h' e' ps hl hp=>by
  let(e1,Q):=Fl.mp e;subst e1;cases h' with
  |nil =>
   let e:=Rj.mp (by rw[hl];exact Nat.min_zero _)
   subst e;exact .nil
  |cons h' g =>
   let(P,z):=Fl.mp e';subst P;cases ps with
   |nil=>simp at hl
   |cons p ps =>
    exact aq.cons (.t (hp 0 p _ _ U U U) (aq.cons h (aq.cons h' .nil))) (q Q g z (by simp at hl;omega) λj p x y h1 h2 h3=>hp (j+1) p x y h1 h2 h3)
def ym(ha:zV K 2 tl ql):ka K (qM K tl) (yJ ql):=by
 intro dl H σ q Q R rd hq k;refine ha dl H σ q _ _ rd hq λvs ts F H1 P r1 _ g=>?_
 replace g:=on2.inv g
 let(t,u,U,g):=g
 split at g
 ·split at g
  ·let(v,w,F1,F2,U,av,V):=r1.two;let(l1,az,U,h1,h2):=av.r.tup;let(l2,vs2,U,h3,h4):=V.r.tup;let(i1,i2,g):=g;obtain rfl:=h2.im i1;obtain rfl:=h4.im i2;refine(l1,l2,az,vs2,U,SqT.of h1,SqT.of h3,λH2 L ps hL hl hn hf hk aD hp=>?_)
   let sm:∀b o,H1 b=Z o->H2 b=Z o:=λb o e=>by
    rw[hk b (λz=>by rw[(hf b z).1]at e;cases e) (λz=>by rw[z,hL]at e;cases e)]
    exact e
   let ev:Evo dl H1 H2:=(λb o e _ _=>sm b o e,λp hp=>(by
    let(s,n,ls,D):=P.d p hp;exact(s,n,ls,sm _ _ D.hd,sm _ _ D.hl,D.s0,D.s1,D.n0,D.l0)),λb x e=>(x,NL _,sm _ _ e))
   let(_,VW,z1,b1,c1):=(av.evo P.d ev).r.tup;cases z1;rw[sm _ _ h1]at b1;cases b1;let(_,VU,z2,b2,c2):=(V.evo P.d ev).r.tup;cases z2;rw[sm _ _ h3]at b2;cases b2;exact k _ _ [L] H2 (P.trans ev) (.l aD (Ec c1 U c2 U hl hp),λb hb=>by rw[g5.mp hb];exact P.d.nd0 hL) (λb hb=>by rw[g5.mp hb];exact P.free hL) (by simp) g
  ·exact g.elim
 ·exact g.elim
def AX(V:X.K=K)(hg:Gl X "list")(hm:X.mg "list"=Y)(P:Gl X "zip")(z:X.mg "zip"=Y)(ha:QPA X K [a,b] tl ql)
  (hs:kh [a,b] X.env=[(ϊ,eval a X.env),(ϊ,eval b X.env)]:=by rfl) (q:AD X b:=by rfl)
  (g:kh [.Call (.Name "zip" p2) [a,b] [] bZ] X.env=(ϊ,eval (.Call (.Name "zip" p2) [a,b] [] bZ) X.env)::kh [] X.env:=by rfl) (Q:X.calm=true:=by rfl):
  QPF X K (.Call (.Name "list" p) [.Call (.Name "zip" p2) [a,b] [] bZ] [] pos) (qM K tl) (yJ ql):=(by subst V;exact Be hg hm P z ha.h hs q g Q,ym ha.s)
end
inductive qP(K:BT)(vs:List V)(H:Hp)(Q:VK)(_:XK):Prop
 |mk(a:J)(ns:List Int)(h1:vs=[.ref a])(h2:FzL K H a (ns.map V.int))(h3:ns.length<=63)(h4:∀H',Q (.bl O) H')
theorem TR{K:BT}(h:NJ H)(g:SqL K H a xs):FzL K H a xs:=by
 obtain(z |⟨o,z⟩)|z:=g
 ·obtain e |⟨o,ys,e⟩:=h a
  ·rw[e]at z;cases z
  ·rw[e]at z;cases z
 ·exact .inl (o,z)
 ·exact .inr z
variable{H':Hp}
theorem FzL.same{K:BT}(h:FzL K H a xs)(s:lL H H'):FzL K H' a xs:=by
 obtain⟨o,z⟩|z:=h
 ·exact .inl (o,s _ _ z)
 ·exact .inr z
variable{qual:Str}{N:List Str}{n:Nat}
theorem Fun.U1{K:BT}{st:EQ}(F:Fun K x qual st f fd)(S:aB N ["_law_script"] (ao st))(hN:N.length=n+2)(g:cb st=s1::rest)
  (jN:∀(cdv:B)(A:Db)(outer:List Env)(s:ϋ)(H:Hp)(E:XK),cu k (A.deeper (envOfC qual (ao st) s.heap.objs.size f cdv)) ->
   ∃t1 t qs,PS (sO CX0 P w K mg base N qual (ao st) f cdv A outer s H E).nox s1 t1/\ox (sO CX0 P w K mg base N qual (ao st) f cdv A outer s H E).nox K rest t qs /\
    (∀(a:J)(ns:List Int)(D:Ends),SqL K H a (ns.map V.int)->ns.length<=63->(∀(d l:J)(H':Hp),H d=Y->H l=Y->ng H' d l->lL H H'->D.nx ([Z (.ref a),Z (.ref d)]++BQ n Y) H')->t1 D ([Z (.ref a),Y]++BQ n Y) H) /\
    ∀ns:List Int,ns.length<=63->qs {nx:=λ_=>False,rt:=λt=>t=.b O} ([.r (.z ns),.r .df]++BQ n .no)):bb P w K mg base CX0 (k+1) f fd ["_law_script"] (qP K):=by
 refine F.ok S (λvs H Q E h=>?_) (λcdv A outer s H vs Q E hr h=>?_)
 ·let(a,ns,U,_):=h;rfl
 ·let(a,ns,U,hS,hlen,k):=h;let(t1,t,qs,h1,q,r1,hq):=jN cdv A outer s H E hr;rw[g];refine(_,bY h1 q.h,?_);let es:start N [V.ref a]=[Z (.ref a),Y]++BQ n none:=by
   unfold start;rw[hN];rfl
  rw[es];refine r1 a ns _ hS.sq hlen λd l H' hd hl D1 sm=>?_
  let Dq:Dls [(d,l)] H':=λp hp=>by rw[g5.mp hp];exact D1
  let rp:Rps K [(d,l)] H' [.ref a,.ref d] [.z ns,.df] ([]++([] ++ [])):=(.cons (.z (hS.same sm)) (.cons (.x (l:=l) (g5.mpr U)) .nil),b6)
  let R:=uR (n:=n+2) Dq rp (by simp)
  refine q.s [(d,l)] H' [] H' _ _ _ _ R (hq ns hlen) (λ_ _ _ _ z=>z.elim,λ_ _ _ _ z=>z.elim,λ_ _ _ _ z=>z.elim,λv t F H2 _ r' _ _ _ hz=>?_,λ_ _ _ _ _ _ _ _ _ _ _ _ z=>z.elim)
  subst hz;let(U,_):=r'.r.bl;exact k H2
def vOf:B->V
 |.none=>.non
 |.bool b=>.bl b
 |.int i _=>.int i
 |.str x _=>.str x
 |_=>.ty ""
variable{u:B}
def BY(r:RelV v u)(f:eu v=O):vOf u=v:=by
 cases v with
 |non=>cases r;rfl
 |bl b=>cases r;rfl
 |int i=>let(t,U):=r;rfl
 |str x=>let(t,U):=r;rfl
 |_=>exact absurd (f) qE
variable{us:List B}
def Vals.UY(r:Vals vs us):∀{u:B},u∈us->∃v∈vs,RelV v u:=by
 induction r with
 |nil=>intro u h;cases h
 |cons g _ q =>
  intro u h;obtain e|h:=kz.mp h
  ·subst e;exact(_,jf,g)
  ·let(v,hv,rv):=q h;exact(v,j0 _ hv,rv)
def Vals.MG(r:Vals vs us)(f:vs.all eu=O):us.map vOf=vs:=by
 induction r with
 |nil=>rfl
 |cons g _ q =>
  rw[Xt,tD]at f;rw[xY,BY g f.1,q f.2]
section
variable{X:Cx}{K:BT}{o e:Ev}{apos aP:Pos}{tl te:TE}{ql qe:QE}
def GF(K:BT):V->List V->Hp->VK->Prop:=λx vs H Q=>∃l xs y j,x=.ref l/\vs=[y]/\SqL K H l xs/\xs.all eu=O/\eu y=O/\xs.findIdx? (λz=>eqV z y)=Z j/\Q (.int (j:Nat)) H
def Ic:MtR X "list.index" (GF X.K):=by
 intro gV s σ H x vs v us Q I rx rv h;let(l,xs,y,j,U,U,hl,fx,fy,hj,q):=h;cases rx;let(u,U,ru):=rv.one;let(its,r,pl,hz):=I.list hl;let((c,dd,dat,sl),ho,hc,n,hd):=pl.isList;subst hc hd;let az:=by
  rw[<- r.MG fx,Yk]at hj;exact hj
 let(av,hit,P):=WW.mp az;let hlen:=r.length;let hn:=iY;refine call_meets PySem.F.slot_list_index (_,ho,U) PySem.F.entry_list_index (PySem.F.args_list_index_2 _ _) (SeqAt.list_indexAt l its.toArray n dd sl u (λv=>eqV (vOf v) y) j (by simpa using av) (by lia) (by simpa using hit) (λm hm V=>?_)) (ho,λz hz=>?_,?_)
 ·have:=P m V
  simpa using this
 ·let(w,hw,g):=r.UY (by simpa using hz)
  let fw:=NM.mp fx w hw;rw[BY g fw];exact n8 g ru fw fy
 ·exact(.int _,H,I.tok _,(_,U),q)
def UD(ql qe:QE):QE:=λq Q=>ql q λt=>match t with
 |.l xs=>qe q λu=>fls xs=O/\u.fl=O/\Ex3 (λj=>xs.findIdx? (λz=>eqV z.v u.v)=Z j) (λj=>(.i (j:Nat))) Q
 |_=>False
def ET(f:fls xs=O):(xs.map T.v).all eu=true:=by
 rw[Xj,NM];exact λx hx=>xr (NM.mp f x hx)
def GR(ho:QPE X K o tl ql)(he:QPE X K e te qe)(hK:X.K=K:=by rfl)(cB:attributeBase o "index" X.env (eval o X.env)=eval o X.env:=by rfl)
  (i6:At X aP [e]:=by rfl)
  (cA:(apos.endLine==aP.line)=true:=by rfl) (hs:AC X e []:=by rfl) (cG:(backTo aP (kh [] X.env)).any (·.1)=false:=by rfl):
  QPF X K (.Call (.Attribute o "index" apos) [e] [] aP) (tBM K "list" (GF K) tl (dh te f6)) (UD ql qe) :=
 (by subst hK;exact rX PySem.F.plainAttrs_list PySem.F.slot_list_index PySem.F.type_list_index Ic ho.h (bN he.h eh hs) cB i6 cA hs cG,λdl H σ q Q R rd hq k=>ho.s dl H σ q _ _ rd hq λv t F H1 e1 r1 hq=>by
  split at hq
  ·let(p,vs,G,U,eF,h1,h2):=r1.r.lst;refine(.inl (U,vs,SqL.of h1),he.s dl H1 σ q _ _ (rd.evo e1) hq λy u F2 H2 e2 r2 g=>?_)
   let(f1,f2,j,hj,hq):=g;let rp:=r1.evo e1.d e2;let(p',vs',G',e',av,V,P):=rp.r.lst;cases e';let(ev,_):=P.vs f1;let(ey,_):=r2.r.v f2;subst ev ey;exact(p,_,_,j,U,U,SqL.of V,ET f1,xr f2,by rw[Yk];exact hj,(k _ _ [] H2 (e1.trans e2) (.c (.i _)) b6 k4 hq))
  ·exact hq.elim)
end
variable{tp:Bool}{p1:Pos}{p2:Pos}{bZ:Pos}
section
variable{X:Cx}{K:BT}{dl:Dl}
def jQ(xs:List T):List T:=xs.zipIdx.map λp=>.t [.i (p.2:Nat),p.1]
def jP{z:T}(h:(jQ xs)[i]?=Z z):∃x,xs[i]?=Z x/\z=.t [.i (i:Nat),x]:=by
 unfold jQ at h;rw[j5]at h;let(p,hp,U):=kg.mp h;rw[List.getElem?_zipIdx]at hp;let(x,hx,U):=kg.mp hp;exact(x,hx,by simp)
def dY:(jQ xs).length=xs.length:=by simp[jQ]
def CV:uH K dl (Ite K O a) (jQ xs) [(.ref a,.t xs)] where
 go:=λH i D h hi=>by
  let(F,r):=h (.ref a,.t xs) (by simp)
  let(p,vs,e,h1,h2):=r.r.tup;cases e;rw[dY]at hi;let l1:i<vs.length:=by rw[h2.len];omega
  exact(vs,vs[i],SqT.of h1,by simp[l1])
 yld:=λH i x fp v H' D h hx y=>by
  let r:=h (.ref a,.t xs) (by simp)
  let(p,vs,e,h1,h2):=r.r.tup;cases e;let(x1,av,U):=jP hx;let(w1,G1,az,V,g):=h2.get av;let(q,u1,hq,U,U,Q):=y;let e1:=Q vs (SqT.of h1);rw[az]at e1;cases e1;let rs:Rps K dl H [.int (i),w1] [.i (i),x1] ([]++(G1 ++ [])):=Rps.cons (.i _,b6) (Rps.cons (V,λb P=>r.n b (g b P)) (.nil,b6))
  refine((Evo.refl D).new hq,_,rs.tup D hq,λc P=>.inr ?_)
  rw[tG]at P;exact(_,by simp,g c P)
 stop:=λH D h=>by
  let(F,r):=h (.ref a,.t xs) (by simp)
  let(p,vs,e,h1,h2):=r.r.tup;cases e;exact(vs,SqT.of h1,by rw[dY,h2.len];exact m9 _)
variable{e a b:Ev}{te ta:TE}{qe:QE}{tl:TA}{ql:QA}{pos p:Pos}
def VH(ql:QA):QI:=λq Q=>ql q λts=>match ts with|[.t xs]=>Q (jQ xs)|_=>False
def rP{ta:TA}(q:X.K=K)(hg:Gl X "enumerate")(hm:X.mg "enumerate"=Y)(z:bootBuiltins "enumerate"=Z (.type "enumerate"))(ha:PA X [a] ta)(hs:AD X a):
  PI X (.Tuple elts g pos') (.Call (.Name "enumerate" p) [a] [] pos) (zw K tp ta):=by subst q;exact LQ hg hm z ha hs
def Lc{V}(hg:Gl X "enumerate")(hm:X.mg "enumerate"=Y)(gw:bootBuiltins "enumerate"=Z (.type "enumerate"))(ha:QPA X K [a] tl ql)(hs:AD X a:=by rfl)(hK:X.K=K:=by rfl):
  QPI X K (.Tuple elts V pos') (.Call (.Name "enumerate" p) [a] [] pos) (zw K O tl) (VH ql):=(rP hK hg hm gw ha.h hs,λdl H σ q Q R rd hq k=>ha.s dl H σ q _ _ rd hq λvs ts F H' e1 r _ z=>by
 split at z
 ·let(v,U,P):=r.one;let(l1,g,U,h1,h2):=P.r.tup;exact(l1,U,(g,SqT.of h1),k _ _ _ H' e1 CV (λp hp=>by rw[g5.mp hp];exact(_,P)) z)
 ·exact z.elim)
def Sn(qe:QE):QE:=λq Q=>qe q λt=>match t with|.t xs=>T.ims xs=O/\Q (.l xs.reverse)|_=>False
def aq.snoc(hv:ay K dl H v t []){vs:List V}(h:aq K dl H vs ts F):F=[]->aq K dl H (vs ++ [v]) (ts ++ [t]) [] :=
 h.ind (λ_=>.cons hv .nil) λ_ _ _ _ _ _ h _ g e=>by
  let(z,q):=Fl.mp e;subst z;exact .cons h (g q)
def aq.rev{vs:List V}(h:aq K dl H vs ts F):F=[]->aq K dl H vs.reverse ts.reverse [] :=
 h.ind (λ_=>.nil) λ_ _ _ _ _ _ h _ g e=>by
  let(z,q):=Fl.mp e;subst z;rw[V6,V6];exact aq.snoc h (g q) U
def wQ(hK:X.K=K)(hc:X.calm=O)(V:Gl X "list")(P:X.mg "list"=Y)(Q:Gl X "reversed")(z:X.mg "reversed"=Y)(he:PE X e te)
  (q:AD X e) (g:kh [.Call (.Name "reversed" p2) [e] [] bZ] X.env=[(ϊ,eval (.Call (.Name "reversed" p2) [e] [] bZ) X.env)]):
  PE X (.Call (.Name "list" p1) [.Call (.Name "reversed" p2) [e] [] bZ] [] pos) (nt K te):=by subst hK;exact yT hc V P Q z he q g
def yF(hc:X.calm=O)(aF:Gl X "list")(az:X.mg "list"=Y)(aD:Gl X "reversed")(av:X.mg "reversed"=Y)(he:QPE X K e te qe)
  (V:AD X e:=by rfl) (P:kh [.Call (.Name "reversed" p2) [e] [] bZ] X.env=[(ϊ,eval (.Call (.Name "reversed" p2) [e] [] bZ) X.env)]:=by rfl) (hK:X.K=K:=by rfl):
  QPF X K (.Call (.Name "list" p1) [.Call (.Name "reversed" p2) [e] [] bZ] [] pos) (nt K te) (Sn qe) :=
 (wQ hK hc aF az aD av he.h V P,λdl H σ q Q R rd hq k=>he.s dl H σ q _ _ rd hq λv t F H1 e1 r g=>by
  split at g
  ·let(i1,g):=g;obtain rfl:=r.r.im i1;let(l,vs,U,h1,h2):=r.r.tup;refine(l,vs,U,SqT.of h1,λp hp=>?_)
   let rs:Rps K dl H1 vs.reverse _ []:=(h2.rev U,b6)
   exact k _ _ [p] _ (e1.new hp) (rs.lst e1.d hp) (λb hb=>by rw[g5.mp hb];exact e1.free hp) (by simp) g
  ·exact g.elim)
inductive N2(x:V)(vs:List V)(H:Hp)(Q:VK):Prop
 |mk(a p:J)(ps:List J)(kvs more:List (Key×V))(h1:x=.ref a)(h2:vs=[.ref p])(h3:H a=Z (.dK kvs))(h4:H p=Z (.lst (ps.map V.ref)))(h5:ps.length=more.length)(h6:(∀(i:Nat)(b:J)(kv:Key×V),ps[i]?=Z b->more[i]?=Z kv->H b=Z (.tup [kV kv.1,kv.2])))(h7:kvs.length+more.length<=mu)(h8:Q .non (upd H a (.dK (dt kvs more))))
def Ie(hc:X.calm=O):MtR X "dict.update" N2:=by
 intro gV s σ H x vs v us Q I rx rv h;let(a,p,ps,kvs,more,U,U,ha,hp,hl,P,hz,q):=h;cases rx;let(u,U,ru):=rv.one;cases ru;let hh:=I.ok.hd hc;let(z1,az,aD,r1,d1):=Jc I.hok ha;let(aF,its,n,g,e):=(I.hok p _ hp);let(pairs,kv,Bz):=yV I g hl P;let av:=g.length;rw[ej]at av;let aK:=Paired.length kv;let l1:=Paired.length r1;let V:=il hp ha (λz=>nomatch z)
 refine call_meetsIn PySem.F.slot_dict_update d1.typeIs PySem.F.entry_dict_update (PySem.F.args_dict_update_2 _ _) (S:=λA R s'=>s'=s/\A=X.A/\R=wants (EP X gV σ Q) X.xe) (λA R s' (e1,e2,e3)=>?_) (U,U,U)
 subst e1 e2 e3;refine dD ?_;refine dD (wpAny_notOrdered_dict d1.typeIs ?_);refine kL ?_;refine hV (pairs:=pairs) hh d1 V (_,n,e,U,U,.inr U) (by lia) (by rw[pM];lia) (λi v hv=>?_) λh' tk hk hd=>?_
 ·let(b,ob,key,val,k,m,e1,e2,e3,e4,e5,e6):=Bz i v (by simpa using hv)
  exact(b,ob,key,val,k,m,e1,e2,e3,e4,e5,e6)
 ·refine(.non,_,?_,U,q);let K:=xZ (dA more kvs) hz;let he:∃q,h'.get? a=Z q:=let(q,_,_,hq,_):=hd;(q,hq)
  exact I.write (by rw[ha];exact True.intro) (.inl U) (λb q hb z=>hk b q hb z) he (og K az (KV.merge kv r1) hd)
end
variable{d:J}{l:J}
section
variable{K:BT}{dl:Dl}{v:V}{F:List J}
def ay.Vz(h:ay K dl H v (.fd o vs ts) F):∃a,v=.ref a/\F=[]/\H a=Z (.frz o (.dK vs))/\aI K dl H vs ts []:=by cases h with|fd h r=>exact(_,rfl,rfl,h,r)
variable{a:Ev}
def ng.oth{a:J}(D:ng H d l)(h1:a≠d)(h2:a≠l):ng (upd H a o) d l:=by
 let(s,n,ls,Q):=D;exact(s,n,ls,by rw[aj h1.symm];exact Q.hd,by rw[aj h2.symm];exact Q.hl,Q.s0,Q.s1,Q.n0,Q.l0)
end
section
variable{K:BT}{dl:Dl}{F:List J}
theorem aq.lookup:∀{ns:List Str}{vs:List V}{ts:List T}{F:List J}{u:T},aq K dl H vs ts F->(ns.zip ts).lookup f=Z u->∃w G,(ns.zip vs).lookup f=Z w/\ay K dl H w u G/\∀b∈G,b∈F
 |[],_,_,_,_,_,h=>by simp at h
 |_::_,_,_,_,_,.nil,h=>by simp at h
 |n::ns,_,_,_,u,.cons h1 r,h=>by
  rw[Xm,x3]at h ⊢;cases e:(f==n)with
  |true =>
   rw[e]at h;cases h;exact(_,_,U,h1,λb g=>qF _ g)
  |false =>
   rw[e]at h;let(w,G,a1,a2,q):=aq.lookup r h;exact(w,G,a1,a2,λb g=>p5 _ (q b g))
end
section
variable{X:Cx}{K:BT}{dl:Dl}{a b:Ev}{ta tb:TE}{qa qb:QE}{pos:Pos}
def UB(qa qb:QE):QE:=λq Q=>qa q λt=>qb q λu=>match t,u with
 |.l xs,.i k=>Ex2 (λx=>atI xs k=Z x) Q
 |_,_=>False
def k6(ha:QPF X K a ta qa)(hb:QPE X K b tb qb)(hs:gN b:=by intro _ _;rfl)(hK:X.K=K:=by rfl):QPF X K (.Subscript a b pos) (tOp (rIx K) ta tb) (UB qa qb):=by
 refine(by subst hK;exact oG sA ha.h hb.h hs,λdl H σ q Q R rd hq k=>(ha.s dl H σ q _ _ rd hq λv t F H1 e1 P f1 n1 V=>(hb.s dl H1 σ q _ _ (rd.evo e1) V λw u G H2 e2 r2 g=>?_)))
 let P:=P.evo e1.d e2
 split at g
 ·let(U,U):=r2.r.int;let(p,vs,G,U,U,h1,h2):=P.r.lst;let(z,hz,hq):=g;let(j,hj,hi):=mZ hz h2.len.symm;let(v,G',hv,rv,hs):=h2.QG hj;let sub:∀c∈G',c∈p::G:=λc hc=>j0 _ (hs.subset hc)
  exact .inl (p,vs,_,v,U,U,SqL.of h1,lJ hi hv,k v z G' H2 (e1.trans e2) (Rp.sub rv P.n sub) (λc hc=>f1 c (sub c hc)) ((u3.mp n1).2.sublist hs) hq)
 ·exact g.elim
end
section
variable{X:Cx}{K:BT}{dl:Dl}{a e:Ev}{te:TE}{qe:QE}{tl:TA}{ql:QA}{pos p:Pos}
def Ua(ql:QA):QJ:=λq Q=>ql q λts=>match ts with|[.t xs]=>T.ims xs=O/\Q (jQ xs) q|_=>False
def La{x1}(hg:Gl X "enumerate")(hm:X.mg "enumerate"=Y)(gw:bootBuiltins "enumerate"=Z (.type "enumerate"))(ha:QPA X K [a] tl ql)(hs:AD X a:=by rfl)(hK:X.K=K:=by rfl):
  QPJ X K (.Tuple elts x1 pos') (.Call (.Name "enumerate" p) [a] [] pos) (zw K O tl) (Ua ql):=(rP hK hg hm gw ha.h hs,λdl H₀ hs H σ q Q R (F0,r0) hq k=>ha.s dl H σ q _ _ r0.rd hq λvs ts F H' e1 r _ g=>by
 split at g
 ·let(i1,g):=g;let(v,U,V):=r.one;obtain rfl:=V.r.im i1;let q1:=(r0.evo e1).hold V λj u hj b hb z=>nomatch z
  let(l1,P,U,h1,h2):=V.r.tup;exact(l1,U,(P,SqT.of h1),k _ _ _ H' q (F0,q1) CV g)
 ·exact g.elim)
def Pk(qe:QE):QE:=λq Q=>qe q λt=>match t with|.l xs=>T.ims xs=O/\Q (.l xs.reverse)|_=>False
def yU(hK:X.K=K)(hc:X.calm=O)(V:Gl X "list")(P:X.mg "list"=Y)(Q:Gl X "reversed")(z:X.mg "reversed"=Y)(he:PE X e te)
  (q:AD X e) (g:kh [.Call (.Name "reversed" p2) [e] [] bZ] X.env=[(ϊ,eval (.Call (.Name "reversed" p2) [e] [] bZ) X.env)]):
  PE X (.Call (.Name "list" p1) [.Call (.Name "reversed" p2) [e] [] bZ] [] pos) (qN K te):=by subst hK;exact rV hc V P Q z he q g
def yG(hc:X.calm=O)(aF:Gl X "list")(az:X.mg "list"=Y)(aD:Gl X "reversed")(av:X.mg "reversed"=Y)(he:QPE X K e te qe)
  (V:AD X e:=by rfl) (P:kh [.Call (.Name "reversed" p2) [e] [] bZ] X.env=[(ϊ,eval (.Call (.Name "reversed" p2) [e] [] bZ) X.env)]:=by rfl) (hK:X.K=K:=by rfl):
  QPF X K (.Call (.Name "list" p1) [.Call (.Name "reversed" p2) [e] [] bZ] [] pos) (qN K te) (Pk qe) :=
 (yU hK hc aF az aD av he.h V P,λdl H σ q Q R rd hq k=>he.s dl H σ q _ _ rd hq λv t F H1 e1 r g=>by
  split at g
  ·let(i1,g):=g;let(l,vs,G,U,U,h1,h2):=r.r.lst;obtain rfl:=h2.im i1;refine(l,vs,U,SqL.of h1,λp hp=>?_)
   let rs:Rps K dl H1 vs.reverse _ []:=(h2.rev U,b6)
   exact k _ _ [p] _ (e1.new hp) (rs.lst e1.d hp) (λb hb=>by rw[g5.mp hb];exact e1.free hp) (by simp) g
  ·exact g.elim)
end
variable{A:Db}
section
variable{K:BT}{dl:Dl}
def dy(h:aq K dl H vs ts F)(hv:vs[j]?=Z v):∃t G,ts[j]?=Z t/\ay K dl H v t G:=by
 let hl:=h.len;let hj:j<ts.length:=by rw[<- hl];exact(kf.mp hv).1
 let(w,G,hw,r,_):=h.get (show ts[j]?=Z ts[j]from by simp[hj])
 rw[hv]at hw;cases hw;exact(_,G,by simp[hj],r)
def zx(hr:cu k A):A.units+150<cLine:=by have:=hr.un;lia
end
section
def TF.dict{kv kw:List (Key×V)}(hp:H p=Z (.dK kv)):TF H (upd H p (.dK kw)) :=
 let ne:∀{a:J}{o:HO},H a=Z o->(∀kv,o ≠ .dK kv)->a≠p:=λh n e=>by rw[e,hp]at h;exact n _ (Option.some.inj h).symm
 (λa vs h=>by rw[aj (ne h λ_ z=>nomatch z)];exact h,λa o u h=>by rw[aj (ne h λ_ z=>nomatch z)];exact h,λa φ h=>by rw[aj (ne h λ_ z=>nomatch z)];exact h,λa xs h=>(xs,by rw[aj (ne h λ_ z=>nomatch z)];exact h),λa x h=>(x,NL _,by rw[aj (ne h λ_ z=>nomatch z)];exact h))
end
section
variable{X:Cx}{σ:St}{s:ϋ}{x:Int}
def Inv.Oe(I:Inv X gV σ H s){u:HO}(ha:H a=Z u)(g:∀o v,u ≠ .frz o v):∀o v,X.H₀ a≠Z (.frz o v):=λo v e=>by
 have:=I.base.lC a o v e
 rw[ha]at this;exact g o v (Option.some.inj this)
def Inv.FG(I:Inv X gV σ H s)(ha:H a=Z (.lst [.int x])):Inv X gV σ (upd H a (.room x)) s:=by
 let(_,its,n,r,e):=(I.hok a _ ha);exact I.Cj ha (λ_ z=>nomatch z) (λ_ z=>nomatch z) (λ_ z=>nomatch z) (I.Oe ha (λ_ _ z=>nomatch z)) (its,n,r,e)
def Inv.PX(I:Inv X gV σ H s)(ha:H a=Z (.room x)):Inv X gV σ (upd H a (.lst [.int x])) s:=by
 let(its,n,r,e):=(I.hok a _ ha);exact I.Cj ha (λ_ z=>nomatch z) (λ_ z=>nomatch z) (λ_ z=>nomatch z) (I.Oe ha (λ_ _ z=>nomatch z)) (by show 1<=mu;decide,its,n,r,e)
end
variable{p3:Pos}
section
variable{X:Cx}{K:BT}{a b e o:Ev}{ta tb te:TE}{qa qb qe:QE}{pos:Pos}
inductive GC(x:V)(y:V)(H:Hp)(Q:VK):Prop
 |mk(p r)(h1:x=.ref p)(h2:y=.int 0)(h3:H p=Z (.room r))(h4:Q (.int r) H)
def CT:IxR X GC:=by
 intro value slice gV s σ H x y v u Q I K z h hs;let(p,m,U,U,hq,q):=h;cases K;let(t,U):=z;let(its,n,r,e):=(I.hok p _ hq);let pl:PlainL s.heap p its.toArray:=(_,n,e,U,U,U);let(w,P,g):=r.get (show [V.int m][0]?=Z (.int m)from U);let fin:EP X gV σ Q w s:=(.int m,H,I,g,q);exact item_listR pl.isList (NL 0) (by decide) (by simpa using P) fin hs
inductive Gx(o:V)(i:V)(v:V)(H:Hp)(Q:(Hp->Prop)):Prop
 |mk(p x y)(h1:o=.ref p)(h2:i=.int 0)(h3:v=.int y)(h4:H p=Z (.room x))(h5:Q (upd H p (.room y)))
def Gm:Rg X Gx:=by
 intro gV s σ H o i v V iv u Q I K P rv h;let(p,x,y,U,U,U,hp,q):=h;let I1:=I.PX hp;refine thn (set_list gV s σ _ (.ref p) (.int 0) (.int y) V iv u (λH'=>H'=upd H p (.lst [.int y])) I1 K P rv (p,[.int x],0,0,U,U,aw,U,by rw[pP];rfl)) λ_ s' z=>?_
 let(H',I',z):=z;subst z;let g:=I'.FG aw;rw[pP]at g;exact(_,g,q)
def NQ(te:TE):TE:=λσ H Q=>te σ H λv H1=>∃a x,v=.ref a/\H1 a=Z (.lst [.int x])/\Q v (upd H1 a (.room x))
def LR(he:PE X e te):PE X e (NQ te):=by
 left;refine thn (he gV s σ H _ I h) λu s' g=>?_
 let(v,H',K,r,a,x,P,z,q):=g;exact(v,_,K.FG z,r,q)
def Evo.fresh{dl:Dl}{a:J}{o:HO}(e:Evo dl H H')(ha:H a=Y)(nd:Nd dl a):Evo dl H (upd H' a o) :=
 (λb u h n r=>by rw[aj (bh h ha)];exact e.k b u h n r,λp hp=>(e.d p hp).oth (nd p hp).1 (nd p hp).2,λb x h=>let(y,g,e'):=e.r b x h;(y,g,by rw[aj (bh h ha)];exact e'))
def Se(qe:QE):QE:=λq Q=>qe q λt=>match t with
 |.l [.i x]=>Q (.rm x)
 |_=>False
def Lg(he:QPF X K e te qe):QPF X K e (NQ te) (Se qe):=(LR he.h,λdl H σ q Q R rd hq k=>he.s dl H σ q _ _ rd hq λv t F H1 V P f1 n1 g=>by
 split at g
 ·rename_i x;let(p,vs,G,U,U,h1,h2):=P.r.lst;cases h2 with
  |cons h3 h4 =>
   cases h4;let(U,U):=h3.int;exact(p,x,U,h1,k _ (.rm x) [] _ (V.fresh (f1 p jf) (P.n p jf)) (.rm aw (NL _),b6) b6 k4 g)
 ·exact g.elim)
def Pl:Q2:=λt u Q=>match t,u with
 |.rm m,.i k=>k=0/\∀r,r<=m->Q (.i r)
 |_,_=>False
def Kt:Ff K GC Pl:=by
 intro dl H x y t u F G Q R D q g hq k;unfold Pl at hq
 split at hq
 ·let(p,m,U,h1,h2,_):=q.r.roo;let(U,_):=g.r.int;let(U,hq):=hq;exact(p,m,U,U,h1,k _ (.i m) [] H (.refl D) (.i m,b6) (hq m h2))
 ·exact hq.elim
def Lh(ha:QPE X K a ta qa)(g:QPE X K b tb qb)(hs:gN b:=by intro _ _;rfl):QPE X K (.Subscript a b pos) (tOp GC ta tb) (qOp Pl qa qb):=(oG CT ha.h g.h hs,qR Kt ha.s g.s)
def A0(i:Nat)(qe:QE):QS:=λD q=>match q[i]? with
 |some x=>match x.get with
  |some (.rm u)=>qe q λt=>match t with
   |.i k=>0<=k/\D.nx (q.set i (.r (.rm (u - k))))
   |_=>False
  |_=>False
 |none=>False
def N1:R2:=rI0 λi j=>.int (i - j)
def Gk{xs:List α}{x:α}(h:xs[i]?=Z x):xs.set i x=xs:=by
 let(hl,e):=kf.mp h;subst e;exact W3 hl
def D3(he:gE K te qe):j9 K (iG (tOp N1 (tOp GC (bB i) (tC (.int 0))) te) (IU (bB i) (tC (.int 0)) Gx)) (A0 i qe):=λdl H₀ hs H σ q Dq D (F,r) hq E=>by
 unfold A0 at hq
 split at hq
 ·rename_i x ex
  split at hq
  ·rename_i u eg;let(v,hv,rp):=r.g i x _ ex eg;let(p,m,U,h1,h2,hF):=rp.r.roo;refine(_,hv,p,m,U,U,h1,he dl H σ q _ _ r.rd hq λw t F1 H1 V r1 Q=>?_)
   split at Q
   ·rename_i k;let(hk,Q):=Q;let(U,_):=r1.r.int;let(y,hy,e2):=V.r p m h1;let nd:=r.d.nd h1 (λ_ z=>nomatch z) (λ_ z=>nomatch z)
    refine(m,k,U,U,_,hv,p,y,m - k,U,U,U,e2,?_);let ev:Evo dl H (upd H1 p (.room (m - k))):=by
     refine(λb o P n nr=>?_,λd hd=>(V.d d hd).oth (nd d hd).1 (nd d hd).2,λb z P=>?_)
     ·let ne:b≠p:=λz=>by rw[z,h1]at P;exact nr _ (Option.some.inj P).symm
      rw[aj ne];exact V.k b o P n nr
     ·by_cases eb:b=p
      ·subst eb;rw[h1]at P;cases P;exact(_,Int.sub_le_self _ hk,aw)
      ·let(z',av,e3):=V.r b z P;exact(z',av,by rw[aj eb];exact e3)
    let R2:=(r.evo ev).LA (t:=.rm (u - k)) (kf.mp ex).1 (.rm aw (by lia),b6) (λ_ _ _ _ _ _=>B9)
    rw[Gk hv]at R2;exact E.nx _ _ _ (_,R2) Q
   ·exact Q.elim
  ·exact hq.elim
 ·exact hq.elim
def yC{g V Q P:Pos}(ho:PE X (.Name x p1) (bB i))(av:PE X (.Name x p3) (bB i))(he:QPE X K e te qe)
  (hs:swapsWithSole [.Subscript (.Name x p1) (.Constant (.int 0) q g) pos'] (.BinOp (.Subscript (.Name x p3) (.Constant (.int 0) j2 V) Q) .Sub e P) pos.line X.env=pure false:=by rfl) (hw:swappedStores [.Subscript (.Name x p1) (.Constant (.int 0) q g) pos'] (.BinOp (.Subscript (.Name x p3) (.Constant (.int 0) j2 V) Q) .Sub e P) X.env=pure none:=by rfl)
  (h1:(assignEach [.Subscript (.Name x p1) (.Constant (.int 0) q g) pos'] X.env).map (·.2)=[assign (.Subscript (.Name x p1) (.Constant (.int 0) q g) pos') X.env]:=by rfl)
  (ha:∀v,assign (.Subscript (.Name x p1) (.Constant (.int 0) q g) pos') X.env v=(do
   let z <- holding [v] (eval (.Name x p1) X.env)
   let iv <- holding [v,z] (eval (.Constant (.int 0) q g) X.env)
   standAt pos'
   holding [v,z,iv] (setItem z iv v)
   release [v,z,iv] []):=by intro _;rfl):
  QPS X K (.Assign [.Subscript (.Name x p1) (.Constant (.int 0) q g) pos'] (.BinOp (.Subscript (.Name x p3) (.Constant (.int 0) j2 V) Q) .Sub e P) pos) (iG (tOp N1 (tOp GC (bB i) (tC (.int 0))) te) (IU (bB i) (tC (.int 0)) Gx)) (A0 i qe) :=
 (wF (cL Bg (oG CT av bA (λ_ _=>rfl)) he.h) (Hr ho bA Gm ha) hs hw h1,D3 he.s)
end
def su(H:Hp)(a:J):Hp:=λb=>if b=a then Y else H b
def lr:su H a a=none:=if_pos U
def sr(h:b≠a):su H a b=H b:=if_neg h
inductive spM(K:BT)(j:Nat)(ps:PSp)(vs:List V)(H:Hp)(Q:VK)(_:XK):Prop
 |mk(dl:Dl)(ts:List T)(a:J)(ks:List (Key×T))(Qp:T->Prop)(h1:Dls dl H)(h2:vs.length=ts.length)(h3:vs[j]?=Z (.ref a))(h4:ts[j]?=Z (.dp a ks))(h5:Rp K dl H (.ref a) (.dp a ks) [a])(h6:(∀i v t,i≠j->vs[i]?=Z v->ts[i]?=Z t->Rp K dl H v t []))(h7:ps ts Qp)(h8:∀ks' H',Frm dl (su H a) H'->Dls dl H'->Rp K dl H' (.ref a) (.dp a ks') [a]->Qp (.dp a ks')->Q .non H')
theorem AR{K:BT}{dl:Dl}{ts:List T}(D:Dls dl H)(hl:vs.length=ts.length)(hv:vs[j]?=Z (.ref a))(ht:ts[j]?=Z (.dp a ks))(r0:Rp K dl H (.ref a) (.dp a ks) [a])(ro:∀i v t,i≠j->vs[i]?=Z v->ts[i]?=Z t->Rp K dl H v t [])(hj:j<ts.length):Rel K dl (su H a) [] H (start N vs) ((ts.map Sl.r).set j (.o (.dp a ks))++BQ (N.length - ts.length) .no) (λi=>if i=j then [a]else []):=by
 let lk:∀i y,((ts.map Sl.r).set j (.o (.dp a ks))++BQ (N.length - ts.length) Sl.no)[i]?=Z y->(i=j/\y=.o (.dp a ks))\/(i≠j/\∃t,ts[i]?=Z t/\y=.r t)\/(ts.length<=i/\y=.no):=λi y h=>by
  by_cases hi:i<ts.length
  ·rw[u4 (by simpa using hi)]at h
   obtain⟨Q,q,_⟩|⟨Q,q⟩:=get_set h
   ·exact .inl (Q,q)
   ·rw[j5,eO hi]at q;exact .inr (.inl (Q,ts[i],by simp,(Option.some.inj q).symm))
  ·rw[vr (by simpa using hi),Wy]at h
   split at h
   ·exact .inr (.inr (by lia,(Option.some.inj h).symm))
   ·cases h
 let g:∀i v,vs[i]?=Z v->(start N vs)[i]?=Z (Z v):=λi v e=>by
  let hi:=(kf.mp e).1;show(vs.map Z++BQ (N.length - vs.length) Y)[i]?=_;rw[u4 (by simpa using hi),j5,e]
  rfl
 refine(D,λi y t h1 h2=>?_,λi y h1 h2=>?_,λi hi=>?_,λi t h1=>?_,λp hp=>(by cases hp),(λb o h _ _=>?_,λb x h=>(x,NL _,?_)),?_)
 ·obtain⟨rfl,rfl⟩|⟨ne,u,e,rfl⟩|⟨_,rfl⟩:=lk i y h1
  ·cases h2;refine(.ref a,g _ _ hv,?_);rw[if_pos rfl];exact r0
  ·cases h2;obtain⟨v,ev⟩:∃v,vs[i]?=Z v:=(vs[i]'(by rw[hl];exact(kf.mp e).1),eO _)
   refine(v,g _ _ ev,?_);rw[if_neg ne];exact ro i v t ne ev e
  ·cases h2
 ·obtain⟨rfl,rfl⟩|⟨ne,u,e,rfl⟩|⟨hi,rfl⟩:=lk i y h1
  ·cases h2
  ·cases h2
  ·exact if_neg (by lia)
 ·refine if_neg ?_;simp at hi
  lia
 ·obtain⟨rfl,e⟩|⟨ne,u,e,z⟩|⟨_,z⟩:=lk i _ h1
  ·refine(by simp,λb P=>?_,λk hk b P=>?_)
   ·simp only[if_pos]at P;rw[g5.mp P];exact lr
   ·simp only[if_neg hk];exact B9
  ·cases z
  ·cases z
 ·by_cases e:b=a
  ·rw[e,lr]at h;cases h
  ·rw[sr e]at h;exact h
 ·by_cases e:b=a
  ·rw[e,lr]at h;cases h
  ·rw[sr e]at h;exact h
 ·show _=(vs.map Z++BQ (N.length - vs.length) Y).length;simp[hl]
theorem Fun.okM{K:BT}{st:EQ}(F:Fun K x qual st f fd)(S:aB N ps (ao st))(len:∀ts Q,av ts Q->ts.length=ps.length)
  (jN:∀(cdv:B)(A:Db)(outer:List Env)(s:ϋ)(H:Hp)(E:XK),cu k (A.deeper (envOfC qual (ao st) s.heap.objs.size f cdv)) ->
   ∃t qs,ox (sO CX0 P w K mg base N qual (ao st) f cdv A outer s H E).nox K (cb st) t qs/\∀ts Q a ks,av ts Q->ts[j]?=Z (.dp a ks)->qs {nx:=λq=>∃ks',q[j]?=Z (.o (.dp a ks'))/\T.imk ks'=O/\Q (.dp a ks'),rt:=λ_=>False,ru:=λq r=>r=.n/\∃ks',q[j]?=Z (.o (.dp a ks'))/\T.imk ks'=O/\Q (.dp a ks')} ((ts.map Sl.r).set j (.o (.dp a ks))++BQ (N.length - ts.length) .no)):bb P w K mg base CX0 (k+1) f fd ps (spM K j av):=by
 refine F.ok S (λvs H Q E h=>?_) (λcdv A outer s H vs Q E hr h=>?_)
 ·let(dl,ts,a,ks,Qp,_,hl,_,_,_,_,h,_):=h;rw[hl];exact len ts Qp h
 ·let(dl,ts,a,ks,Qp,D,hl,hv,ht,r0,ro,h,fin):=h;let(t,qs,hb,hq):=jN cdv A outer s H E hr;refine(t,hb.h,?_);let z:=hq ts Qp a ks h ht;let hj:=(kf.mp ht).1;let R:=AR (N:=N) D hl hv ht r0 ro hj;refine hb.s dl (su H a) [] H _ _ _ _ (_,R) z (λH' σ q hr V=>?_,λ_ _ _ _ V=>V.elim,λ_ _ _ _ V=>V.elim,λ_ _ _ _ _ _ _ _ _ V=>V.elim,λH' σ q F v t' F' r' rv _ _ _ V=>?_)
  ·let(F,r'):=hr;let(ks',e1,az,V):=V;let(v',_,rp):=r'.g j _ _ e1 U;let(vs',G,U,eF,g1,g2):=rp.r.dpp;obtain rfl:=g2.im az;rw[eF]at rp;exact fin ks' H' r'.f r'.d rp V
  ·let(U,ks',e1,az,V):=V;let(U,_):=rv.r.non;let(v',_,rp):=r'.g j _ _ e1 U;let(vs',G,U,eF,g1,g2):=rp.r.dpp;obtain rfl:=g2.im az;rw[eF]at rp;exact fin ks' H' r'.f r'.d rp V
section
variable{K:BT}{dl:Dl}{H₀:Hp}{hs:List (V×T)}{σ:St}{q:Sq}{F:Nat->List J}
def Rel.uu(r:Rel K dl H₀ hs H σ q F)(hi:q[i]?=Z (.o t))(hv:σ[i]?=Z (Z v))(hF:F i=[a])(ha:∃kvs,H a=Z (.dK kvs))(f:Frm dl (su H a) H')(D:Dls dl H')(hr:Rp K dl H' v t' [a]):fU K dl H₀ hs H' σ (q.set i (.o t')):=by
 let(kvs,ha):=ha;let ne:∀{b:J}{o:HO},H b=Z o->(∀kv,o ≠ .dK kv)->b≠a:=λh n e=>by rw[e,ha]at h;exact n _ (Option.some.inj h).symm
 let cut:∀{b:J}{o:HO},H b=Z o->b≠a->su H a b=Z o:=λh n=>by rw[sr n];exact h
 let tf:TF H H':=(λb vs h=>f.k b _ (cut h (ne h λ_ z=>nomatch z)) (r.d.nd h (λ_ z=>nomatch z) λ_ z=>nomatch z) (λ_ z=>nomatch z),λb o u h=>f.k b _ (cut h (ne h λ_ z=>nomatch z)) (r.d.nd h (λ_ z=>nomatch z) λ_ z=>nomatch z) (λ_ z=>nomatch z),
  λb φ h=>f.k b _ (cut h (ne h λ_ z=>nomatch z)) (r.d.nd h (λ_ z=>nomatch z) λ_ z=>nomatch z) (λ_ z=>nomatch z),λb xs h=>(by
  by_cases hn:Nd dl b
  ·exact(xs,f.k b _ (cut h (ne h λ_ z=>nomatch z)) hn (λ_ z=>nomatch z))
  ·obtain⟨p,hp,z⟩:∃p∈dl,¬(b≠p.1/\b≠p.2):=Classical.byContradiction λc=>hn λp hp=>Classical.byContradiction λz=>c (p,hp,z)
   let(s,n,ls,Q):=r.d p hp;let(s',n',ls',Q'):=D p hp;let h1:=il h Q.hd (λz=>nomatch z)
   let h2:=Classical.byContradiction λz'=>z (h1,z')
   exact(_,by rw[h2];exact Q'.hl)),λb x h=>f.r b x (cut h (ne h λ_ z=>nomatch z)))
 let st:∀{w:V}{u:T}{Fw:List J},Rp K dl H w u Fw->a ∉ Fw->Rp K dl H' w u Fw:=λ{w u Fw} h np =>
  (h.r.cx tf (λ_ z=>z) λb P o e=>f.k b o (cut e λz=>np (z▸P)) (h.n b P) (.of (h.r.there b P) e),h.n)
 let(o1,o2,o3):=r.o i t hi;refine(F,D,λj x u h1 h2=>?_,λj x h1 h2=>?_,λj hj=>r.z j (by rw[NP]at hj;exact hj),λj u h1=>?_,λp hp=>?_,(λb o h n nr=>?_,λb x h=>?_),by simp[r.l])
 ·obtain⟨rfl,rfl,_⟩|⟨ne',h1⟩:=get_set h1
  ·cases h2;exact(v,hv,by rw[hF];exact hr)
  ·let(w,h3,h4):=r.g j x u h1 h2;exact(w,h3,st h4 (o3 j ne' a (by rw[hF];exact jf)))
 ·obtain⟨rfl,rfl,_⟩|⟨ne',h1⟩:=get_set h1
  ·cases h2
  ·exact r.n j x h1 h2
 ·obtain⟨rfl,e,_⟩|⟨ne',h1⟩:=get_set h1
  ·exact(o1,o2,o3)
  ·exact r.o j u h1
 ·let(Fp,h1,h2):=r.h p hp;refine(Fp,st h1 (h2 i t hi a (by rw[hF];exact jf)),λj u hj b P z=>?_)
  obtain⟨rfl,e,_⟩|⟨ne',hj⟩:=get_set hj
  ·exact h2 j t hi b P z
  ·exact h2 j u hj b P z
 ·let n0:b≠a:=λz=>by rw[z,o2 a (by rw[hF];exact jf)]at h;cases h
  exact f.k b o (cut (r.f.k b o h n nr) n0) n nr
 ·let n0:b≠a:=λz=>by rw[z,o2 a (by rw[hF];exact jf)]at h;cases h
  let(y,hy,e1):=r.f.r b x h;let(y',av,e2):=f.r b y (cut e1 n0);exact(y',Wc av hy,e2)
end
variable{H₀:Hp}{q:Sq}
section
variable{X:Cx}{K:BT}{e a b o:Ev}{es:List Ev}{te tk tv:TE}{tl:TA}{qe qk qv:QE}{ql:QA}{pos p:Pos}{k:Nat}{f:J}{prs:List Str}{ps:PSp}{i:Nat}
structure JD(X:Cx)(K:BT)(es:List Ev)(tl:TA)(i j:Nat)(ql:QA):Prop where
 h:PA X es tl
 s:∀(dl:Dl)(H:Hp)(σ:St)(q:Sq)(v0:V)(Q:List T->Prop)(R:List V->Hp->Prop),RdR K dl H σ q->σ[i]?=Z (Z v0)->ql q Q ->
  (∀vs ts H',Evo dl H H'->vs.length=ts.length->vs[j]?=Z v0->(∀n v t,n≠j->vs[n]?=Z v->ts[n]?=Z t->Rp K dl H' v t [])->Q ts->R vs H')->tl σ H R
def aq.im1{dl:Dl}{vs:List V}(h:aq K dl H vs ts F)(g:T.ims ts=O):∀(n:Nat)(v:V)(t:T),vs[n]?=Z v->ts[n]?=Z t->ay K dl H v t []:=by
 obtain rfl:=h.im g;intro n v t h1 h2;let(z,G,q,r,s):=h.QG h2;rw[h1]at q;cases q;rw[W6.mp s]at r;exact r
def d8(hx:PE X e (bB i))(hr:QPA X K es tl ql)(hs:AC X e es:=by rfl):JD X K (e::es) (dh (bB i) tl) i 0 (λq Q=>ql q λts=>T.ims ts=O/\Q (.n::ts)) :=
 (bN hx hr.h hs,λdl H σ q v0 Q R rd hv hq k=>(v0,hv,hr.s dl H σ q _ _ rd hq λvs ts F H1 V g l1 P=>k _ (.n::ts) H1 V (by simp[g.r.len]) U (λn v t ne h1 h2=>by
  cases n with
  |zero=>exact absurd U ne
  |succ n=>exact(g.r.im1 P.1 n v t (by simpa using h1) (by simpa using h2),b6)) P.2))
def Cp(he:QPE X K e te qe)(hr:JD X K es tl i j ql)(hs:AC X e es:=by rfl):JD X K (e::es) (dh te tl) i (j+1) (λq Q=>qe q λt=>t.im=O/\ql q λts=>Q (t::ts)) :=
 (bN he.h hr.h hs,λdl H σ q v0 Q R rd hv hq k=>he.s dl H σ q _ _ rd hq λv t F H1 g P V=>hr.s dl H1 σ q v0 _ _ (rd.evo g) hv V.2 λvs ts H2 e2 l2 hj ho z=>by
  let r2:=P.evo g.d e2;obtain rfl:=P.r.im V.1;exact k (v::vs) (t::ts) H2 (g.trans e2) (by simp[l2]) (by simpa using hj) (λn w u ne h1 h2=>by
   cases n with
   |zero=>simp at h1 h2;subst h1 h2;exact r2
   |succ n=>exact ho n w u (λz=>ne (by rw[z])) (by simpa using h1) (by simpa using h2)) z)
def N7(i j:Nat)(ps:PSp)(ql:QA):QS:=λD q=>onO q i λt=>match t with
 |.d ks=>T.imk ks=O/\∀a,ql q λts=>ps (ts.set j (.dp a ks)) λt=>match t with
  |.dp _ ks'=>D.nx (q.set i (.o (.d ks')))
  |_=>False
 |.dp a ks=>T.imk ks=O/\ql q λts=>ps (ts.set j (.dp a ks)) λt=>match t with
  |.dp _ ks'=>D.nx (q.set i (.o (.dp a ks')))
  |_=>False
 |_=>False
def GX(i:Nat)(qk qv:QE):QS:=λD q=>match q[i]? with
 |some (.o (.dp a xs))=>qv q λt=>qk q λu=>match u.key with
  |some k=>xs.length<mu/\T.imk xs=O/\t.im=O/\D.nx (q.set i (.o (.dp a (cF xs k t))))
  |none=>False
 |_=>False
def Rel.KJ{dl:Dl}{p:J}(r:Rel K dl H₀ hs H σ q F)(hi:q[i]?=Z (.o (.dp p xs)))(hv:σ[i]?=Z (Z (.ref p)))(e:Evo dl H H')
  (rs:aI K dl H' ws ys []):fU K dl H₀ hs (upd H' p (.dK ws)) σ (q.set i (.o (.dp p ys))):=by
 let r':=r.evo e;let(v',Q,rp):=r'.g i _ _ hi U;rw[hv]at Q;let(vs2,G2,e2,eF,h1,h2):=rp.r.dpp;let pn:=rp.n p (by rw[eF];exact jf)
 let P:aI K dl (upd H' p (.dK ws)) ws ys []:=rs.cx (TF.dict h1) (λ_ z=>z) b6
 exact(_,r'.write hi hv (by rw[eF];exact jf) (λav h=>by rw[h1]at h;cases h) (.dp aw P,λb hb=>by rw[g5.mp hb];exact pn) (by simp) λb hb=>by rw[g5.mp hb,eF];exact .inl jf)
def F7(hk:gE K tk qk)(hv:gE K tv qv):j9 K (rn (bB i) tk tv) (GX i qk qv):=λdl H₀ hs H σ q Dq D (F,r) hq E=>by
 unfold GX at hq
 split at hq
 ·rename_i p xs ei;refine hv dl H σ q _ _ r.rd hq λw t F1 H1 P r1 hq=>?_
  let(v,z,rp):=(r.evo P).g i _ _ ei U;refine(v,z,hk dl H1 σ q _ _ (r.rd.evo P) hq λy u F2 H2 V r2 hq=>?_)
  split at hq
  ·rename_i k ek;let(hz,hm,ht,hq):=hq;obtain rfl:=r1.r.im ht;let Q:=rp.evo P.d V;let(vs,G,U,eF,h1,h2):=Q.r.dpp;obtain rfl:=h2.im hm;rw[r2.r.key ek];exact(p,_,U,pN.k h1 (by rw[h2.len];exact hz),E.nx _ _ _ (r.KJ ei z (P.trans V) (aI.put (r1.evo P.d V).r h2)) hq)
  ·exact hq.elim
 ·exact hq.elim
def iO(q:X.A.units+1<cLine)(ho:PE X o (bB i))(g:QPE X K a tk qk)(hv:QPE X K b tv qv)(hs:swapsWith b (Z (.Subscript o a pos')) pos.line X.env=pure false:=by rfl):
  QPS X K (.Assign [.Subscript o a pos'] b pos) (rn (bB i) tk tv) (GX i qk qv):=(iS q ho g.h hv.h hs,F7 g.s hv.s)
def F9(ha:JD X K es tl i j ql):j9 K (fO (qO (spM K j ps) [] E0 tl)) (N7 i j ps ql):=λdl H₀ hs H σ q Dq D (F,r) hq E=>by
 let go:∀{a:J}{ks:List (Key×T)}{t:T} W (t1:List (Key×T)->T),q[i]?=Z (.o t)->σ[i]?=Z (Z (.ref a))->(∀{H:Hp}{G:List J},ay K dl H (.ref a) t G->ay K dl H (.ref a) (.dp a ks) G)->F i=[a]->(∀{H:Hp}{ks':List (Key×T)},ay K dl H (.ref a) (.dp a ks') [a]->ay K dl H (.ref a) (t1 ks') [a]) ->
   (∀ks',W (.dp a ks')->Dq.nx (q.set i (.o (t1 ks'))))->(ql q λts=>ps (ts.set j (.dp a ks)) W)->fO (qO (spM K j ps) [] E0 tl) D σ H:=by
  intro a ks t W t1 hi hv tr hF ba hW hq;refine ha.s dl H σ q (.ref a) _ _ r.rd hv hq λvs ts H1 e1 l1 hj ho hz=>?_
  let r1:=r.evo e1;let(v',Q,P):=r1.g i _ _ hi U;rw[hv]at Q;cases Q;rw[hF]at P;rw[tG];let av:j<ts.length:=by rw[<- l1];exact(kf.mp hj).1
  let(kvs,G,_,_,g1,_):=(tr P.r).dpp;exact(dl,ts.set j (.dp a ks),a,ks,W,r1.d,by simp[l1],hj,JF av,(tr P.r,P.n),λn v u ne h1 h2=>ho n v u ne h1 (by rwa [E3 (λz=>ne z.symm)]at h2),hz,λks' H' f D' r' hw=>(E.nx _ _ _ (r1.uu hi hv hF (_,g1) f D' (ba r'.r,r'.n)) (hW ks' hw)))
 replace hq:=onO.inv hq
 let(t,V,hq):=hq;cases t with
 |d ks =>
  let(v,hv,P):=r.g i _ _ V U;let(a,vs,G,U,eF,h1,h2):=P.r.dic;obtain rfl:=h2.im hq.1;refine go _ (λks'=>.d ks') V hv (λ{H G} z=>?_) eF (λ{H ks'} z=>?_) (λks' z=>z) (hq.2 a)
  ·let(a',vs',G',e1,U,h3,h4):=z.dic;cases e1;exact .dp h3 h4
  ·let(vs',G',e1,e2,h3,h4):=z.dpp;rw[e2];exact .d h3 h4
 |dp a ks =>
  let(v,hv,P):=r.g i _ _ V U;let(vs,G,U,eF,h1,h2):=P.r.dpp;obtain rfl:=h2.im hq.1;exact go _ (λks'=>.dp a ks') V hv (λz=>z) eF (λz=>z) (λks' z=>z) hq.2
 |_=>exact hq.elim
theorem d7(F:bb X.prog X.w X.K X.mg X.base CX0 k f fd prs (spM K j ps))(hr:cu k X.A)(hg:Gl X x)(hm:X.mg x=Z (.ref f))(z:W.keepIn X.K (.ref f)=O)(P:Binds X.K fd prs [])(ha:JD X K (e::es) tl i j ql)
  (q:AS x:=by decide) (he:AC X e es:=by rfl) (g:AM X pos es:=by rfl) (hs:swapsWith (.Call (.Name x p) (e::es) [] pos) Y pos'.line X.env=pure false:=by rfl):
  QPS X K (.Expr (.Call (.Name x p) (e::es) [] pos) pos') (fO (qO (spM K j ps) [] E0 tl)) (N7 i j ps ql):=(fi (wR F hr hg hm z P .nil kN ha.h q he g) hs,F9 ha)
end
def T.dof:T->Option (List (Key×T))
 |.d ks=>Z ks
 |.fd _ _ ks=>Z ks
 |.dp _ ks=>Z ks
 |_=>Y
variable{kvs:List (Key×V)}{neg:Bool}
section
variable{X:Cx}{K:BT}{dl:Dl}{v:V}{F:List J}{a b c e:Ev}{ta tb:TE}{qa qb:QE}{pos:Pos}
theorem ay.dof{t:T}(h:ay K dl H v t F)(e:t.dof=Z ks):∃a vs G,v=.ref a/\Rd H a (.dK vs)/\aI K dl H vs ks G/\∀b∈G,b∈F:=by
 cases t with
 |d ks' =>
  cases e;let(a,vs,G,U,U,h1,h2):=h.dic;exact(a,vs,G,U,.inl h1,h2,λ_ g=>j0 _ g)
 |fd o vs ks' =>
  cases e;let(a,U,U,h1,h2):=h.Vz;exact(a,vs,[],U,.inr (_,h1),h2,λ_ g=>g)
 |dp a ks' =>
  cases e;let(vs,G,U,U,h1,h2):=h.dpp;exact(a,vs,G,U,.inl h1,h2,λ_ g=>j0 _ g)
 |_=>cases e
def hU.rd{a:J}{k:Key}(e:Rd H a (.dK kvs)):hU H a (kV k) (fP kvs k):=.inl (kvs,k,e,U,U)
def N9(neg:Bool):Q2:=λt u Q=>match u.dof with
 |some ks=>match t.key with
  |some k=>Q (.b (if neg then !(bI ks k).isSome else(bI ks k).isSome))
  |none=>False
 |none=>False
def Ge:cO K (KR neg) (N9 neg):=by
 intro dl H x y t u F G Q R D r1 V hq k;unfold N9 at hq
 split at hq
 ·rename_i ks P
  split at hq
  ·rename_i k0 ek;let(p,vs,G,U,h1,h2,_):=V.r.dof P;rw[r1.r.key ek];refine(p,_,U,hU.rd h1,k _ _ [] H (.refl D) (.c (.b _)) b6 k4 ?_)
   let e:(fP vs k0).isSome=(bI ks k0).isSome:=by
    obtain⟨q,g⟩|⟨_,_,_,q,g,_⟩:=h2.look k0
    ·rw[q,g];rfl
    ·rw[q,g];rfl
   rw[e];exact hq
  ·exact hq.elim
 ·exact hq.elim
def G6:Q2:=λt u Q=>match t.dof with
 |some ks=>match u.key with
  |some k=>Ex2 (λx=>bI ks k=Z x) Q
  |none=>False
 |none=>False
inductive GD(x:V)(y:V)(H:Hp)(Q:VK):Prop
 |mk(a kvs k v)(h1:x=.ref a)(h2:y=kV k)(h3:Rd H a (.dK kvs))(h4:fP kvs k=Z v)(h5:Q v H)
def Iy:IxR X GD:=by
 intro value slice gV s σ H x y v u Q I P K h hs;let(a,kvs,k,w,U,U,ha,hv,q):=h;cases P;let(z,hd,vs,rel,dd):=iB I.hok ha;let(V,hw,g):=iD.some_of (by rw[<- hv];exact rel.val k)
 exact subscriptTail_builtinR dd.typeIs PySem.F.slot_dict_getitem.lookup (wpAny_getItem_of (jK K) dd.mapOf hw (U,w,H,I.tok _,g,q)) hs
def Ga:Ff K GD G6:=by
 intro dl H x y t u F G Q R D r1 r2 hq k;unfold G6 at hq
 split at hq
 ·rename_i ks P
  split at hq
  ·rename_i k0 ek;let(z,g,hq):=hq;let(p,vs,G,U,h1,h2,sub):=r1.r.dof P;rw[r2.r.key ek];obtain⟨q,V⟩|⟨t',v,G',q,V,z3,z4⟩:=h2.look k0
   ·rw[q]at g;cases g
   ·rw[q]at g;cases g;exact(p,vs,k0,v,U,U,h1,V,k v _ G' H (.refl D) (Rp.sub z3 r1.n λb hb=>sub b (z4 b hb)) hq)
  ·exact hq.elim
 ·exact hq.elim
def bg(ha:QPE X K a ta qa)(g:QPE X K b tb qb)(hs:gN b:=by intro _ _;rfl):QPE X K (.Subscript a b pos) (tOp GD ta tb) (qOp G6 qa qb):=(oG Iy ha.h g.h hs,qR Ga ha.s g.s)
inductive uT(xs:List V)(H:Hp)(Q:VK):Prop
 |mk(p:J)(kvs:List (Key×V))(h1:xs=[.ref p])(h2:Rd H p (.dK kvs))(h3:∀d,H d=Y->Q (.ref d) (upd H d (.dK kvs)))
theorem jX:cE X (.type "dict") uT:=by
 intro gV s σ H xs us Q I r h;let(p,kvs,U,hp,q):=h;let(u,U,ru):=vals1 r;cases ru;let(z,az,vs,kv,dd):=iB I.hok hp;refine callType_codes (Q₁:=λobj K=>obj=.ref s.heap.objs.size/\K={s with heap:=s.heap.push {cls:=.type "dict",data:=.dict #[]}}) F.kt_called_dict (F.kt_typeCall_dict_1 _) F.entry_dict_init (kt_code_dict_new _ (U,U)) ?_
 rintro obj K ⟨rfl,rfl⟩
 let V:(s.heap.push {cls:=.type "dict",data:=.dict #[]}).DictOf (bE X.prog X.w) s.heap.objs.size []:=Heap.DictOf.new s.heap;let aF:p<s.heap.objs.size:=by
  let(o,_,_,e,_):=dd;exact kS e
 let g:(s.heap.push {cls:=.type "dict",data:=.dict #[]}).DictOf (bE X.prog X.w) p vs:=by
  let(o,es,ep,e,r):=dd;exact(o,es,ep,j3 _ e,r)
 let av:(vs.map (·.1)).Nodup:=by
  let(o,es,ep,_,_,_,_,_,n):=dd;exact n
 let aM:=Paired.length kv;refine(V.typeIs,F.args_dict_init_2 _ _,?_);refine dD ?_;refine dD (wpAny_notOrdered_dict V.typeIs ?_);refine kL ?_;show wpAny _ _ (Builtin.Dict.updateFrom "dict.__init__" s.heap.objs.size (.ref p) [] .none) _ _ _;refine dD (V7 g.typeIs ?_);refine dD ?_;refine dD ?_;refine dD (V4 g.typeIs isSubtype_dict_dict ?_);refine dD (VP g.typeIs F.slot_dict_iter.lookup (kL ?_));refine wpAny_mergeDict (QX aF) az V g λh' P aK aD=>?_
 rw[merged_nil_of_nodup _ av]at P;refine dD (kL (kL (U,.ref s.heap.objs.size,_,I.laid (λb u e=>?_) (m9 _) (og z ?_ kv P),U,q _ (I.hok.fresh (m9 _)))))
 ·rw[aD.2 b (ui (kS e))];exact j3 _ e
 ·have:=I.big
  exact beq_eq_false_iff_ne.mpr (QX this)
def uY:QC:=λts Q=>match ts with
 |[t]=>match t.dof with
  |some ks=>T.imk ks=O/\Q (.d ks)
  |none=>False
 |_=>False
def lY:ou K uT uY:=by
 intro dl H vs ts F Q R D r hq k;unfold uY at hq
 split at hq
 ·split at hq
  ·rename_i ks q;let(v,U,P):=r.one;let(p,kvs,G,U,h1,h2,sub):=P.r.dof q;obtain rfl:=h2.im hq.1;refine(p,kvs,U,h1,λd hd=>?_)
   let ev:Evo dl H (upd H d (.dK kvs)):=(Evo.refl D).new hd;exact k _ _ [d] _ ev (.d aw (h2.cx (ev.tf D) (λ_ z=>z) b6),λb g=>by rw[g5.mp g];exact D.nd0 hd) (λb g=>by rw[g5.mp g];exact hd) (by simp) hq.2
  ·exact hq.elim
 ·exact hq.elim
def TF.VB{kv:List (Key×V)}{o:Obj}{u:HO}(hp:H p=Z (.dK kv)):TF H (upd H p (.frz o u)) :=
 let ne:∀{a:J}{o:HO},H a=Z o->(∀kv,o ≠ .dK kv)->a≠p:=λh n e=>by rw[e,hp]at h;exact n _ (Option.some.inj h).symm
 (λa vs h=>by rw[aj (ne h λ_ z=>nomatch z)];exact h,λa o u h=>by rw[aj (ne h λ_ z=>nomatch z)];exact h,λa φ h=>by rw[aj (ne h λ_ z=>nomatch z)];exact h,λa xs h=>(xs,by rw[aj (ne h λ_ z=>nomatch z)];exact h),λa x h=>(x,NL _,by rw[aj (ne h λ_ z=>nomatch z)];exact h))
end
section
variable{X:Cx}{K:BT}{st:EQ}{t:TS}{qt:QS}
inductive FO(i:Nat)(t:TS)(D:Ends)(σ:St)(H:Hp):Prop
 |mk(a kvs:_)(h1:σ[i]?=Z (Z (.ref a)))(h2:H a=Z (.dK kvs))(h3:∀o,t D σ (upd H a (.frz o (.dK kvs))))
def Pr(h:PS X st t):PS X st (FO i t):=by
 intro gV s σ H D I z;let(a,kvs,_,ha,k):=z;let(_,o,g):=I.freeze ha;exact h gV s σ _ D g (k o)
def G8(i:Nat)(qt:QS):QS:=λD q=>match q[i]? with
 |some (.o (.d ks))=>T.imk ks=O/\∀o vs,qt D (q.set i (.o (.fd o vs ks)))
 |_=>False
theorem Rel.frz{dl:Dl}{o:Obj}(r:Rel K dl H₀ hs H σ q F)(ei:q[i]?=Z (.o (.d ks)))(hv:σ[i]?=Z (Z (.ref a)))(Q:F i=[a])(rp:Rp K dl H (.ref a) (.d ks) (F i))(h1:H a=Z (.dK vs))(h2:aI K dl H vs ks []):fU K dl H₀ hs (upd H a (.frz o (.dK vs))) σ (q.set i (.o (.fd o vs ks))):=by
 refine(qW F i [],?_);let tf:=TF.VB (o:=o) (u:=.dK vs) h1;let na:=rp.n a (by rw[Q];exact jf)
 let(o1,o2,o3):=r.o i _ ei;let st:∀{w:V}{u:T}{Fw:List J},Rp K dl H w u Fw->a ∉ Fw->Rp K dl (upd H a (.frz o (.dK vs))) w u Fw:=λ{w u Fw} h np =>
  (h.r.cx tf (λ_ z=>z) λb P ob e=>(by
   let n0:b≠a:=λz=>np (by rw[<- z];exact P)
   rw[aj n0];exact e),h.n)
 refine(λd hd=>(r.d d hd).oth (na d hd).1 (na d hd).2,λj x u h3 h4=>?_,λj x h3 h4=>?_,λj hj=>?_,λj u h3=>?_,λp hp=>?_,(λb ob P nb nr=>?_,λb x P=>?_),by simp[r.l])
 ·obtain⟨rfl,rfl,_⟩|⟨ne,h3⟩:=get_set h3
  ·cases h4;exact(_,hv,by rw[aR];exact(.fd aw (h2.cx tf (λ_ z=>z) b6),b6))
  ·let(w,h5,h6):=r.g j x u h3 h4;exact(w,h5,by rw[aE ne];exact st h6 (o3 j ne a (by rw[Q];exact jf)))
 ·obtain⟨rfl,rfl,_⟩|⟨ne,h3⟩:=get_set h3
  ·cases h4
  ·rw[aE ne];exact r.n j x h3 h4
 ·rw[NP]at hj;by_cases e:j=i
  ·rw[e,aR]
  ·rw[aE e];exact r.z j hj
 ·obtain⟨rfl,e,_⟩|⟨ne,h3⟩:=get_set h3
  ·rw[aR];exact(k4,λ_ z=>absurd z B9,λ_ _ _ z=>absurd z B9)
  ·rw[aE ne];let(p1,p2,p3):=r.o j u h3;refine(p1,p2,λk hk b P=>?_)
   by_cases ek:k=i
   ·rw[ek,aR];exact B9
   ·rw[aE ek];exact p3 k hk b P
 ·let(Fp,h3,h4):=r.h p hp;refine(Fp,st h3 (h4 i _ ei a (by rw[Q];exact jf)),λj u hj b P z=>?_)
  obtain⟨rfl,e,_⟩|⟨ne,hj⟩:=get_set hj
  ·rw[aR]at P;cases P
  ·rw[aE ne]at P;exact h4 j u hj b P z
 ·let n0:b≠a:=λz=>by rw[z,o2 a (by rw[Q];exact jf)]at P;cases P
  rw[aj n0];exact r.f.k b ob P nb nr
 ·let n0:b≠a:=λz=>by rw[z,o2 a (by rw[Q];exact jf)]at P;cases P
  rw[aj n0];exact r.f.r b x P
def Gd(h:j9 K t qt):j9 K (FO i t) (G8 i qt):=λdl H₀ hs H σ q Dq D (F,r) hq E=>by
 unfold G8 at hq
 split at hq
 ·rename_i ks P;let(v,hv,z):=r.g i _ _ P U;let(a,vs,G,U,Q,h1,h2):=z.r.dic;obtain rfl:=h2.im hq.1;exact(a,vs,hv,h1,λo=>h dl H₀ hs _ σ _ Dq D (r.frz P hv Q z h1 h2) (hq.2 o vs) E)
 ·exact hq.elim
def GL(h:QPS X K st t qt):QPS X K st (FO i t) (G8 i qt):=(Pr h.h,Gd h.s)
end
section
variable{X:Cx}{σ:St}{s:ϋ}{u1 u2 v1 v2:HO}{C:J}{fs:List (Str×V)}
def Inv.Gv(I:Inv X gV σ H s)(ne:d≠a)(ha:H a=Z v1)(hd:H d=Z v2)(t1:∀xs,v1 ≠ .tup xs)(t2:∀xs,v2 ≠ .tup xs)(b1:∀ps,v1 ≠ .tbl ps)(b2:∀ps,v2 ≠ .tbl ps)(z1:∀o v,v1 ≠ .frz o v)(V:∀o v,v2 ≠ .frz o v)(w1:∀c,v1 ≠ .own c)(w2:∀c,v2=.own c->c=a)
  (UX:c7 X.prog X.w (upd (upd H a u1) d u2) s.heap a u1) (UW:c7 X.prog X.w (upd (upd H a u1) d u2) s.heap d u2):Inv X gV σ (upd (upd H a u1) d u2) s:=by
 let g:∀{b:J}{o:HO},H b=Z o->o≠v1->b≠a:=λe n z=>by rw[z,ha]at e;exact n (Option.some.inj e).symm
 let K:∀{b:J}{o:HO},H b=Z o->o≠v2->b≠d:=λe n z=>by rw[z,hd]at e;exact n (Option.some.inj e).symm
 let n0:∀{b:J},H b=Y->b≠a/\b≠d:=λ{b} e=>(λz=>(by rw[z,ha]at e;cases e),λz=>(by rw[z,hd]at e;cases e))
 let st:∀{b:J},b≠a->b≠d->upd (upd H a u1) d u2 b=H b:=λh1 h2=>by rw[aj h2,aj h1]
 refine(I.ok,I.os,I.bare,(I.base.keep,I.base.slot,λb o e n hx=>?_,I.base.there,λb xs e=>?_,λb o v e=>?_,λb ps e=>?_),I.loc,I.cell,?_,λx c e=>?_,λp hp=>?_,λb o e=>?_,I.len)
 ·have:=I.base.free b o e n hx
  rw[st (n0 this).1 (n0 this).2];exact this
 ·have:=I.base.qK b xs e
  rw[st (g this λz=>t1 _ z.symm) (K this λz=>t2 _ z.symm)]
  exact this
 ·have:=I.base.lC b o v e
  rw[st (g this λz=>z1 _ _ z.symm) (K this λz=>V _ _ z.symm)]
  exact this
 ·let(more,this):=I.base.qL b ps e;refine(more,?_);rw[st (g this λz=>b1 _ z.symm) (K this λz=>b2 _ z.symm)]
  exact this
 ·rw[st (n0 I.free).1 (n0 I.free).2];exact I.free
 ·rw[st (n0 (I.gx x c e)).1 (n0 (I.gx x c e)).2];exact I.gx x c e
 ·let(p1,p2,p3):=I.pin p hp;exact(p1,by rw[st (n0 p2).1 (n0 p2).2];exact p2,p3)
 ·by_cases P:b=d
  ·subst P;rw[aw]at e;cases e;exact UW
  ·by_cases Q:b=a
   ·subst Q;rw[aj P,aw]at e;cases e;exact UX
   ·rw[st Q P]at e;refine(I.hok b o e).cx (λ_ _ _ q=>q) (λc q=>?_) λc xs q=>?_
    ·rw[st (g q λz=>w1 _ z.symm) (λz=>by rw[z,hd]at q;exact Q (w2 b (Option.some.inj q)))];exact q
    ·rw[st (g q λz=>t1 _ z.symm) (K q λz=>t2 _ z.symm)];exact q
def Inv.RE(I:Inv X gV σ H s)(ha:H a=Z (.ins C d fs)):d≠a/\fs.length<=1000/\H d=Z (.own a)/\Inv X gV σ (upd (upd H a (.ext (xT a C d))) d (.ext (XD d fs))) s:=by
 let(hd,hl,ne,e,mA,n,r,w):=(I.hok a _ ha);exact(ne,hl,hd,I.Gv ne ha hd (λ_ z=>nomatch z) (λ_ z=>nomatch z) (λ_ z=>nomatch z) (λ_ z=>nomatch z) (λ_ _ z=>nomatch z) (λ_ _ z=>nomatch z) (λ_ z=>nomatch z) (λc z=>by cases z;rfl)
  (e,(_,e),λh1 h2 p k=>k _ p) (XD.ok (mA,n,r,w)))
def Inv.UN(I:Inv X gV σ H s)(ne:d≠a)(hl:fs.length<=1000)(ha:H a=Z (.ext (xT a C d)))(hd:H d=Z (.ext (XD d fs))):Inv X gV σ (upd (upd H a (.ins C d fs)) d (.own a)) s:=by
 let e:=(I.hok a _ ha).1;let(mA,n,r,w):=(I.hok d _ hd).1;refine I.Gv ne ha hd (λ_ z=>nomatch z) (λ_ z=>nomatch z) (λ_ z=>nomatch z) (λ_ z=>nomatch z) (λ_ _ z=>nomatch z) (λ_ _ z=>nomatch z) (λ_ z=>nomatch z) (λc z=>nomatch z) (aw,hl,ne,e,mA,n,r,w) ?_
 let(o,_,_,e',_):=n;exact(o,e')
end
variable{C:J}{prs:List Str}
section
variable{X:Cx}{K:BT}{e:Ev}{es:List Ev}{te:TE}{qe:QE}{tl:TA}{ql:QA}{pos p:Pos}{f:Str}
def NW(K:BT)(ta:TE)(f:Str):TE:=λσ H Q=>ta σ H λx H1=>∃a C fs v,x=.ref a/\ObH H1 a C fs/\fs.length<=1000/\Cls K C/\bf K C f/\fs.lookup f=Z v/\Q v H1
def LX(he:PE X e te)(hb:attributeBase e f X.env (eval e X.env)=eval e X.env):PE X (.Attribute e f pos) (NW X.K te f):=by
 left;refine Dw hb (thn (he gV s σ H _ I h) λu s1 z=>?_)
 let(x,H1,I1,rx,a,C,fs,v,ex,(dx,ne,h1,h2),hl,c,n,l,q):=z;subst ex;obtain rfl:=rx;refine lB (I1.UN ne hl h1 h2) (by rw[aj ne.symm,aw]) c n l λu' s2 I2 ru=>(v,H1,?_,ru,q)
 let(_,_,_,V):=I2.RE (by rw[aj ne.symm,aw])
 let e:upd (upd (upd (upd H1 a (.ins C dx fs)) dx (.own a)) a (.ext (xT a C dx))) dx (.ext (XD dx fs))=H1:=by
  funext b
  by_cases g:b=dx
  ·rw[g,aw,h2]
  ·by_cases P:b=a
   ·rw[aj g,P,aw,h1]
   ·rw[aj g,aj P,aj g,aj P]
 rw[e]at V;exact V
def Sw(C:J)(f:Str)(qe:QE):QE:=λq Q=>qe q λt=>match t with
 |.ob g ns ts=>g=C/\ns.length<=1000/\Ex2 (λx=>(ns.zip ts).lookup f=Z x) Q
 |_=>False
def Cr(hc:Cls K C)(hn:bf K C f)(he:QPE X K e te qe)(z:attributeBase e f X.env (eval e X.env)=eval e X.env:=by rfl)(hK:X.K=K:=by rfl):QPE X K (.Attribute e f pos) (NW K te f) (Sw C f qe):=(by subst hK;exact LX he.h z,λdl H σ q Q R rd hq k=>he.s dl H σ q _ _ rd hq λv t F H1 e1 V g=>by
 split at g
 ·let(U,hl,x,hx,g):=g;let(a,vs,U,U,ho,rs):=V.r.obj;let(w,G,e2,P,s2):=rs.lookup hx;refine(a,_,_,w,U,ho,?_,hc,hn,e2,k _ _ G H1 e1 (P,λb z=>nomatch s2 b z) g)
  rw[NN];exact xZ (Nat.min_le_left _ _) hl
 ·exact g.elim)
inductive Av(C:J)(ns:List Str)(vs:List V)(H:Hp)(Q:VK)(_:XK):Prop
 |mk(x dx args)(h1:vs=.ref x::args)(h2:args.length=ns.length)(h3:H x=Z (.ins C dx []))(h4:Q .non (upd H x (.ins C dx (ns.zip args))))
def FL(C:J)(ns:List Str)(t:TA):TE:=λσ H Q=>t σ H λvs H1=>vs.length=ns.length/\∀x dx,H1 x=Y->H1 dx=Y->dx≠x->Q (.ref x) (upd (upd H1 x (.ext (xT x C dx))) dx (.ext (XD dx (ns.zip vs))))
theorem Hv(M:Mk X.K C g)(G:bb X.prog X.w X.K X.mg X.base CX0 k g fd prs (Av C ns))(hr:cu (k+1) X.A)(hg:Gl X x)(hm:X.mg x=Z (.ref C))(hb:Binds X.K fd prs [])(ha:PA X (e::es) tl)
  (av:AS x:=by decide) (he:AC X e es:=by rfl) (V:AM X pos es:=by rfl):
  PE X (.Call (.Name x p) (e::es) [] pos) (FL C ns tl):=by
 left;refine TH (pY I hg hm (W.callWith_K (h₀:=X.base) I.ok.mod.kin M.kp (thn (ha pos gV s σ H _ I h) λus s1 (vs,H1,I1,r,q)=>(I1.kIn,(thn (yu (Q:=λv H2=>∃a dx fs,v=.ref a/\H2 a=Z (.ins C dx fs)/\Q v (upd (upd H2 a (.ext (xT a C dx))) dx (.ext (XD dx fs)))) M G hr hb .nil kN I1 r λx dx hx hd ne=>(x,dx,vs,by simp,q.1,aw,U,x,dx,ns.zip vs,U,aw,?_)) λu s' (v,H',I',rv,a,dx,fs,e1,e2,qq)=>?_))) he V) av)
 ·let e:upd (upd (upd (upd (upd H1 dx (.own x)) x (.ins C dx [])) x (.ins C dx (ns.zip vs))) x (.ext (xT x C dx))) dx (.ext (XD dx (ns.zip vs)))=upd (upd H1 x (.ext (xT x C dx))) dx (.ext (XD dx (ns.zip vs))):=by
   funext b
   by_cases z:b=dx
   ·rw[z,aw,aw]
   ·by_cases P:b=x
    ·rw[aj z,aj z,P,aw,aw]
    ·rw[aj z,aj P,aj P,aj P,aj z,aj z,aj P]
  rw[e];exact q.2 x dx hx hd ne
 ·let(_,_,_,I2):=I'.RE e2;exact(v,_,I2,rv,qq)
def Pj(C:J)(ns:List Str)(ql:QA):QE:=λq Q=>ql q λts=>T.ims ts=O/\ts.length=ns.length/\Q (.ob C ns ts)
def rF(hK:X.K=K)(M:Mk K C g)(G:bb X.prog X.w X.K X.mg X.base CX0 k g fd prs (Av C ns))(hr:cu (k+1) X.A)(hg:Gl X x)(hm:X.mg x=Z (.ref C))(hb:Binds X.K fd prs [])(ha:QPA X K (e::es) tl ql)
  (av:AS x:=by decide) (he:AC X e es:=by rfl) (V:AM X pos es:=by rfl):
  QPF X K (.Call (.Name x p) (e::es) [] pos) (FL C ns tl) (Pj C ns ql):=by
 subst hK;refine(Hv M G hr hg hm hb ha.h av he V,λdl H σ q Q R rd hq k=>ha.s dl H σ q _ _ rd hq λvs ts F H1 e1 P _ hz=>?_)
 let(z1,z2,z3):=hz;obtain rfl:=P.r.im z1;refine(P.r.len.trans z2,λx dx hx hd ne=>?_)
 let ev:Evo dl H1 (upd (upd H1 x (.ext (xT x C dx))) dx (.ext (XD dx (ns.zip vs)))):=((Evo.refl e1.d).new hx).new (by rw[aj ne];exact hd)
 let r2:=P.evo e1.d ev;exact k _ _ [] _ (e1.trans ev) (.ob (dx,ne,by rw[aj ne.symm,aw],aw) r2.r,b6) b6 k4 z3
end
variable{tg:Ev}{e:Ev}{g:Tg}
section
variable{X:Cx}{K:BT}
inductive Gz(K:BT)(x:V)(y:V)(H:Hp)(Q:VK):Prop
 |mk(p q vs)(h1:x=.ref p)(h2:y=.ref q)(h3:SqL K H p vs)(h4:SqL K H q [])(h5:Q (.bl (!vs.isEmpty)) H)
def yX(hu:X.A.units+1<cLine)(hK:X.K=K):OpR X (compareOp .NotEq) (Gz K):=by
 subst hK;intro gV s σ H x y v u Q I V P h;let(p,q,vs,U,U,h1,h2,k):=h;cases V;cases P;let(its,r1,p1,_):=I.list h1;let(z,g,p2,_):=I.list h2;let l1:=r1.length;let l2:=g.length;let e2:z.length=0:=l2.symm;by_cases hl:its.length=z.length
 ·refine SeqAt.RcNeAt.lists (e:=λ_=>O) p1.isList p2.isList (by simpa using hl) (by omega) (λj g1 g2=>?_) X.prog X.w X.xe _ (.bl _,H,I,U,?_)
  ·let(a,ea,ra):=g.at' g2;simp at ea
  ·let e:vs=[]:=Rj.mp (by lia)
   subst e;let e3:its.toArray.size=0:=by simp;exact Rj.mp (by lia)
   rw[e3];exact k
 ·refine SeqAt.RcNeAt.lists_lengths p1.isList p2.isList (by simpa using hl) (by omega) X.prog X.w X.xe _ (.bl _,H,I,U,?_)
  cases vs with
  |nil=>exact absurd l1.symm (by rw[<- l2]at hl;exact hl)
  |cons _ _=>exact k
def GY:Q2:=λt u Q=>match t,u with
 |.l xs,.l []=>Q (.b (!xs.isEmpty))
 |_,_=>False
def uO:cO K (Gz K) GY:=by
 intro dl H x y t u F G Q R D q g hq k;unfold GY at hq
 split at hq
 ·rename_i xs;let(p,vs,G1,U,U,h1,h2):=q.r.lst;let(P,vs',V,U,U,h3,h4):=g.r.lst;cases h4;refine(p,P,vs,U,U,SqL.of h1,SqL.of h3,k _ _ [] H (.refl D) (.c (.b _)) b6 k4 ?_)
  let e:vs.isEmpty=xs.isEmpty:=by
   have:=h2.len
   cases vs <;> cases xs <;> simp at this ⊢
  rw[e];exact hq
 ·exact hq.elim
def SN{q g:TI}(h1:PI X tg e q)(h2:PI X tg e g):PI X tg e (λσ H R=>q σ H R\/g σ H R):=by
 intro gV s σ H R I h;obtain h|h:=h
 ·exact h1 gV s σ H R I h
 ·exact h2 gV s σ H R I h
def asP(i:Nat):QJ:=λq Q=>match q[i]? with
 |some (.r (.l xs))=>Q xs q
 |some (.r (.t xs))=>Q xs q
 |_=>False
def O8(h:PE X e (bB i))(hK:X.K=K:=by rfl):QPJ X K tg e (λσ H R=>vj K (bB i) σ H R\/IC K (bB i) σ H R) (asP i):=(SN (rO hK h) (wM hK h),λdl H₀ hs H σ q Q R (F0,r0) hq k=>by
 let hold:∀{t:T}{v:V},q[i]?=Z (.r t)->Rp K dl H v t (F0 i)->Rel K dl H₀ ((v,t)::hs) H σ q F0:=λ{t v} e r=>r0.hold r λj u hj b hb=>by
  let ne:i≠j:=λz=>by rw[z,hj]at e;cases e
  exact(r0.o j u hj).2.2 i ne b hb
 unfold asP at hq
 split at hq
 ·rename_i xs P;let(v,hv,r):=r0.g i _ _ P U;let r1:=hold P r;let(p,vs,G,U,_,h1,h2):=r.r.lst;exact .inl (_,hv,p,U,(vs,SqL.of h1),k _ _ _ H q (F0,r1) pZ hq)
 ·rename_i xs P;let(v,hv,r):=r0.g i _ _ P U;let r1:=hold P r;let(p,vs,U,h1,h2):=r.r.tup;exact .inr (_,hv,p,U,(vs,SqT.of h1),k _ _ _ H q (F0,r1) Bv hq)
 ·exact hq.elim)
def GU(g:Tg)(i:Nat):QS:=λD q=>match q[i]? with
 |some (.r t)=>Ex2 (λq'=>g.put t q=Z q') D.nx
 |_=>False
def FY:j9 K (iG (bB i) (g.h K)) (GU g i):=λdl H₀ hs H σ q Dq D (F,r) hq E=>by
 unfold GU at hq
 split at hq
 ·rename_i t Q;let(q',P,hz):=hq;let(v,hv,rp):=r.g i _ _ Q U;exact(v,hv,AQ r rp (λj u hj b hb=>(r.o j u hj).2.2 i (λz=>by rw[z,hj]at Q;cases Q) b hb) P λV r'=>E.nx _ _ _ r' hz)
 ·exact hq.elim
def wo{pos:Pos}(he:PE X e (bB i))(hg:PG X tg (g.h K))(hs:swapsWithSole [tg] e pos.line X.env=pure false:=by rfl)(hw:swappedStores [tg] e X.env=pure none:=by rfl)
  (h1:(assignEach [tg] X.env).map (·.2)=[assign tg X.env]:=by rfl):QPS X K (.Assign [tg] e pos) (iG (bB i) (g.h K)) (GU g i):=(wF he hg hs hw h1,FY)
def zu{dl:Dl}:uH K dl (Ite K ϊ a) (jQ xs) [(.ref a,.l xs)] where
 go:=λH i D h hi=>by
  let(F,r):=h (.ref a,.l xs) (by simp)
  let(p,vs,G,e,_,h1,h2):=r.r.lst;cases e;rw[dY]at hi;let l1:i<vs.length:=by rw[h2.len];omega
  exact(vs,vs[i],SqL.of h1,by simp[l1])
 yld:=λH i x fp v H' D h hx y=>by
  let r:=h (.ref a,.l xs) (by simp)
  let(p,vs,G,e,eF,h1,h2):=r.r.lst;cases e;let(x1,V,U):=jP hx;let(w1,G1,av,Q,az):=h2.get V;let(q,u1,hq,U,U,P):=y;let e1:=P vs (SqL.of h1);rw[av]at e1;cases e1;let sub:∀b∈G1,b∈fp (.ref a,.l xs):=λb g=>by rw[eF];exact j0 _ (az b g)
  let rs:Rps K dl H [.int (i),w1] [.i (i),x1] ([]++(G1 ++ [])):=Rps.cons (.i _,b6) (Rps.cons (Q,λb g=>r.n b (sub b g)) (.nil,b6))
  refine((Evo.refl D).new hq,_,rs.tup D hq,λc g=>.inr ?_)
  rw[tG]at g;exact(_,by simp,sub c g)
 stop:=λH D h=>by
  let(F,r):=h (.ref a,.l xs) (by simp)
  let(p,vs,G,e,_,h1,h2):=r.r.lst;cases e;exact(vs,SqL.of h1,by rw[dY,h2.len];exact m9 _)
def Ou(i:Nat):QJ:=λq Q=>match q[i]? with
 |some (.o (.l xs))=>Q (jQ xs) (q.set i (.r (.l xs)))
 |some (.r (.l xs))=>Q (jQ xs) q
 |_=>False
def GO{a:Ev}{x1}{pos p:Pos}(hg:Gl X "enumerate")(hm:X.mg "enumerate"=Y)(gw:bootBuiltins "enumerate"=Z (.type "enumerate"))(h:PE X a (bB i))(hs:AD X a:=by rfl)(av:AC X a []:=by rfl)(hK:X.K=K:=by rfl):
  QPJ X K (.Tuple elts x1 pos') (.Call (.Name "enumerate" p) [a] [] pos) (zw K ϊ (dh (bB i) f6)) (Ou i):=(rP hK hg hm gw (bN h eh av) hs,λdl H₀ hs H σ q Q R (F0,P) hq k=>by
 unfold Ou at hq
 split at hq
 ·rename_i xs V;let(v,hv,r):=P.g i _ _ V U;let r1:=(P.down V).hold r λj u hj b hb=>by
   obtain⟨_,z,_⟩|⟨ne,hj⟩:=get_set hj
   ·cases z
   ·exact(P.o j u hj).2.2 i (λz=>ne z.symm) b hb
  let(p,vs,G,U,_,h1,h2):=r.r.lst;exact(_,hv,p,U,(vs,SqL.of h1),k _ _ _ H _ (F0,r1) zu hq)
 ·rename_i xs V;let(v,hv,r):=P.g i _ _ V U;let r1:=P.hold r λj u hj b hb=>(P.o j u hj).2.2 i (λz=>by subst z;rw[V]at hj;cases hj) b hb
  let(p,vs,G,U,_,h1,h2):=r.r.lst;exact(_,hv,p,U,(vs,SqL.of h1),k _ _ _ H _ (F0,r1) zu hq)
 ·exact hq.elim)
end
def Alk:Nat->T->T->Prop
 | 0,t,u=>(∃x y,t=.s x/\u=.s y)\/∃x y,t=.i x/\u=.i y
 |n+1,t,u=>(∃x y,t=.s x/\u=.s y)\/(∃x y,t=.i x/\u=.i y)\/∃ts us,t=.t ts/\u=.t us/\∀(j:Nat)(x y:T),ts[j]?=Z x->us[j]?=Z y->Alk n x y
def Dep:Nat->T->Prop
 | 0,t=>(∃x,t=.s x)\/∃x,t=.i x
 |n+1,t=>(∃x,t=.s x)\/(∃x,t=.i x)\/∃ts,t=.t ts/\∀x∈ts,Dep n x
theorem Dep.s:Dep n (.s x):=by cases n <;> exact .inl (x,U)
theorem Dep.i{x:Int}:Dep n (.i x):=by
 cases n
 ·exact .inr (x,U)
 ·exact .inr (.inl (x,U))
theorem Dep.t(h:∀x∈ts,Dep n x):Dep (n+1) (.t ts):=.inr (.inr (ts,U,h))
def Dep.mono{t:T}(h:Dep n t)(hm:n<=m):Dep m t:=by
 induction n generalizing m t with
 |zero =>
  obtain⟨x,rfl⟩|⟨x,rfl⟩:=h
  ·exact Dep.s
  ·exact Dep.i
 |succ n g =>
  obtain⟨x,rfl⟩|⟨x,rfl⟩|⟨ts,rfl,h⟩:=h
  ·exact Dep.s
  ·exact Dep.i
  ·obtain⟨k,rfl⟩:∃k,m=k+1:=(m - 1,by lia)
   exact Dep.t λx hx=>g (h x hx) (by lia)
variable{G:List J}
section
variable{X:Cx}{K:BT}{dl:Dl}
def xQ{t u:T}{x y:B}(h:(∃x y,t=.s x/\u=.s y)\/∃x y,t=.i x/\u=.i y)(r1:ay K dl H v t F)(Q:ay K dl H w u G)(P:RelV v x)(q:RelV w y):∃c:Bool,(c=O ↔ t=u)/\SeqAt.EqAt A s x y c:=by
 obtain⟨z,g,rfl,rfl⟩|⟨z,g,rfl,rfl⟩:=h
 ·let(U,_):=r1.str;let(U,_):=Q.str;exact(_,(λh=>congrArg T.s (eq_of_beq (show(z==g)=O from h)),λh=>by cases h;exact beq_self_eq_true z),n8 P q U U)
 ·let(U,_):=r1.int;let(U,_):=Q.int;exact(_,(λh=>congrArg T.i (eq_of_beq (show(z==g)=O from h)),λh=>by cases h;exact beq_self_eq_true z),n8 P q U U)
def xD{ts us:List T}{n q g:Nat}{e:Nat->Bool}(hn:q=ts.length)(hm:g=us.length)(he:∀(j:Nat)(x y:T),ts[j]?=Z x->us[j]?=Z y->(e j=O ↔ x=y)):((IK (min q g)).all e&&q==g)=O ↔ ts=us:=by
 subst hn hm;rw[tD,NM,beq_iff_eq]
 constructor
 ·rintro⟨h1,h2⟩
  exact W4 h2 λi g1 g2=>((he i _ _ (eO g1) (eO g2)).mp (h1 i (Wx.mpr (by omega))))
 ·rintro rfl
  refine(λj hj=>?_,U)
  let hj:j<ts.length:=by have:=Wx.mp hj;lia
  exact(he j _ _ (eO hj) (eO hj)).mpr U
def Jy:∀(n:Nat){t u:T}{v:V}{F G:List J},Alk n t u->ay K dl H v t F->ay K dl H v u G->t=u:=by
 intro n;let sc:∀{t u:T}{v:V}{F G:List J},((∃x y,t=.s x/\u=.s y)\/∃x y,t=.i x/\u=.i y)->ay K dl H v t F->ay K dl H v u G->t=u:=λh q g=>by
  obtain⟨z,z',rfl,rfl⟩|⟨z,z',rfl,rfl⟩:=h
  ·let(U,_):=q.str;let(e,_):=g.str;cases e;rfl
  ·let(U,_):=q.int;let(e,_):=g.int;cases e;rfl
 induction n with
 |zero=>exact λh q g=>sc h q g
 |succ n ih =>
  intro t u v F G h q g;obtain h|h |⟨ts,us,rfl,rfl,ht⟩:=h
  ·exact sc (.inl h) q g
  ·exact sc (.inr h) q g
  ·let(a,vs,U,h1,f1):=q.tup;let(b,ws,e,h2,f2):=g.tup;cases e;rw[h1]at h2;cases h2;let l3:=f1.len;let l4:=f2.len;refine congrArg L2.T.t (W4 (by lia) λi g1 g2=>?_)
   let gv:i<vs.length:=by lia
   let(t1,G1,Q,az):=dy f1 (eO gv);let(t2,G2,P,av):=dy f2 (eO gv);rw[eO g1]at Q;rw[eO g2]at P;cases Q;cases P;exact ih (ht i _ _ (eO g1) (eO g2)) az av
def zF{σ:St}(I:Inv X gV σ H s)(hK:X.K=K):∀(n:Nat)(A:Db)(t u:T)(v w:V)(F G:List J)(x y:B),Alk n t u->ay K dl H v t F->ay K dl H w u G->RelV v x->RelV w y->A.units+n<cLine->∃c:Bool,(c=O ↔ t=u)/\SeqAt.EqAt A s x y c:=by
 intro n
 induction n with
 |zero =>
  intro A t u v w F G x y P z q rx ry hu;exact xQ P z q rx ry
 |succ n ih =>
  intro A t u v w F G x y P z q rx ry hu;obtain h|h |⟨ts,us,rfl,rfl,P⟩:=P
  ·exact xQ (.inl h) z q rx ry
  ·exact xQ (.inr h) z q rx ry
  ·let(a,vs,U,h1,f1):=z.tup;let(b,ws,U,h2,f2):=q.tup;cases rx;cases ry;let(its,q1,p1,_):=I.tuple (SqT.of h1);let(Q,q2,p2,_):=I.tuple (SqT.of h2);let l1:=q1.length;let l2:=q2.length;let l3:=f1.len;let l4:=f2.len;let go:∀j,∃c:Bool,∀g1 (g2:j<Q.toArray.size),(∀x y,ts[j]?=Z x->us[j]?=Z y->(c=O ↔ x=y))/\SeqAt.EqAt A.in1 s its.toArray[j] Q.toArray[j] c:=λj=>by
    by_cases g:j<its.toArray.size/\j<Q.toArray.size
    ·let(g1,g2):=g;let(v1,e1,aK):=q1.at' g1;let(v2,e2,aF):=q2.at' g2;let(t1,G1,aD,aN):=dy f1 e1;let(t2,G2,az,aM):=dy f2 e2;let(c,hc,hE):=ih A.in1 t1 t2 v1 v2 G1 G2 _ _ (P j t1 t2 aD az) aN aM aK aF (by show A.units+1+n<_;lia)
     refine(c,λ_ _=>(λx y hx hy=>?_,hE))
     rw[aD]at hx;rw[az]at hy;cases hx;cases hy;exact hc
    ·exact(O,λg1 g2=>absurd (g1,g2) g)
   let hc:=λj=>Classical.choose_spec (go j)
   let key:((IK (min its.toArray.size Q.toArray.size)).all (λj=>Classical.choose (go j))&&its.toArray.size==Q.toArray.size)=O ↔ ts=us:=by
    let e1:its.toArray.size=ts.length:=by simp;omega
    let e2:Q.toArray.size=us.length:=by simp;omega
    refine xD (n:=n) e1 e2 λj x y hx hy=>?_
    let g1:=(kf.mp hx).1;let g2:=(kf.mp hy).1;exact(hc j (by omega) (by omega)).1 x y hx hy
   by_cases av:a=b
   ·subst av;exact(O,(λ_=>Jy (n+1) (.inr (.inr (ts,us,U,U,P))) z q,λ_=>rfl),SeqAt.EqAt.same _)
   ·refine(_,(λh=>congrArg L2.T.t (key.mp h),λh=>key.mpr (by cases h;rfl)),SeqAt.EqAt.of_refs av (SeqAt.RcAt.tuples (p1) (p2) (by omega) λj g1 g2=>(hc j g1 g2).2))
end
variable{N':List Str}{sc:Scope}{fp:List J}
section
variable{X:Cx}{K:BT}{a b:Ev}{es:List Ev}{te ta tb:TE}{qe qa qb:QE}{tl:TA}{ql:QA}{pos p:Pos}{st:EQ}{k k':Nat}{f:J}
structure Dn(K:BT)(mg:Str->Option B)(x:Str)(st:EQ)(f:J)(fd:Ch)(ps:List Str):Prop where
 F:Fun K x x st f fd
 m:mg x=Z (.ref f)
 b:Binds K fd ps []
def a8(F:bb X.prog X.w X.K X.mg X.base CX0 k f fd prs (spQ K ps))(hr:cu k' X.A)(D:Dn X.K X.mg x st f fd prs)(ha:QPA X K (e::es) tl ql)(z:k<=k':=by first|decide|omega)(hg:Gl X x:=by exact U)
  (q:AS x:=by decide) (he:AC X e es:=by rfl) (g:AM X pos es:=by rfl):
  QPF X K (.Call (.Name x p) (e::es) [] pos) (qO (spQ K ps) [] E0 tl) (ig ps ql):=Lq F (hr.mono z) hg D.m D.F.kp D.b ha q he g
def au:QPA X K [] f6 fc:=xS.w ak
def ah:QPE X K (.Constant (.int i) j pos) (tC (.int i)) (qC (.i i)):=Za bS
def bP(hm:X.mg "len"=Y)(ha:QPA X K (e::es) tl ql)(hg:Gl X "len":=by exact U)(q:X.K=K:=by exact U)
  (he:AC X e es:=by rfl) (g:AM X pos es:=by rfl):QPF X K (.Call (.Name "len" p) (e::es) [] pos) (tCB (GB K) tl) (qCB Eg ql):=bD (E8 q) Ks hg hm (by kernel_rfl) ha (by decide) (by decide) he g
def aC(i:Nat)(g:X.N.Nodup)(he:QPF X K e te qe)(hi:X.N[i]?=Z x:=by rfl)(hx:Loc X.env.scope x:=by first|exact .inl rfl|exact .inr U)(hs:swapsWith e (Z (.Name x pos')) pos.line X.env=pure false:=by rfl)(hf:AT X x:=by first|exact .inl rfl|exact .inr rfl|assumption):
  QPS X K (.Assign [.Name x pos'] e pos) (iG te (eY i)) (AZ i qe):=O6 g hi hx he hs hf
def bu(i:Nat)(g:X.N.Nodup)(hi:X.N[i]?=Z x:=by rfl)(hx:Loc X.env.scope x:=by first|exact .inl rfl|exact .inr U)(hf:AT X x:=by first|exact .inl rfl|exact .inr rfl|assumption):PG X (.Name x pos) (eY i):=mE g hi hx hf
def dO{cl:List (Str×J)}{s₂:ϋ}{H₂:Hp}(i:Nat)(g:N'.Nodup:=by decide +kernel)(hi:N'[i]?=Z x:=by rfl)(hx:Loc (blk X N' sc cl C s₂ H₂ fp).env.scope x:=by first|exact .inl rfl|exact .inr U)(hf:(blk X N' sc cl C s₂ H₂ fp).env.scope.names.lookup x=Z .local:=by rfl):PG (blk X N' sc cl C s₂ H₂ fp) (.Name x pos) (eY i):=mE (X:=blk X N' sc cl C s₂ H₂ fp) g hi hx (.inr hf)
def ik{q g:Str}{t1 t2:TG}(h1:PG X (.Name q p1) t1)(h2:PG X (.Name g p2) t2)(Q:X.K=K:=by exact U)(P:X.calm=true:=by exact U)
  (hn:(assignEach [.Name q p1,.Name g p2] X.env).length=2:=by rfl) (z:(assignEach [.Name q p1,.Name g p2] X.env).findIdx? (·.1)=none:=by rfl):PG X (.Tuple [.Name q p1,.Name g p2] j pos) (Nb K 2 (C4 t1 (C4 t2 QK))):=fk Q P (aW h1 (aW h2 fj)) hn z
def cf(g:X.A.units+1<cLine)(ha:QPE X K a ta qa)(q:QPE X K b tb qb)(z:X.K=K:=by exact U):QPT X K (.Compare a [.Eq] [b] pos) (B0 (tOp (O4 K) ta tb)) (uX (qOp Lx qa qb)):=cj (Bi g z) vR (bz _) ha q
def Cn(ha:QPE X K a ta qa)(g:QPE X K b tb qb):=cj (pos:=pos) SQ (qU (K:=K) (g':=λi j=>.b (decide (i<j))) λ_ _ _ _=>.b _) (bz _) ha g
def R5(ha:QPE X K a ta qa)(g:QPE X K b tb qb):=cj (pos:=pos) SR (qU (K:=K) (g':=λi j=>.b (decide (i<=j))) λ_ _ _ _=>.b _) (bz _) ha g
def uU(ha:QPE X K a ta qa)(g:QPE X K b tb qb):=cj (pos:=pos) CH (qU (K:=K) (g':=λi j=>.b (decide (j<i))) λ_ _ _ _=>.b _) (bz _) ha g
end
abbrev NI(K:BT)(x:Str)(f:J):Prop:=W.nsIn K mainGlobals x=Z (Z (.ref f))
abbrev LK(K:BT)(f:J)(x q:Str)(st:EQ)(oc:B)(od:Option J)(kV dc pm:B)(an:Option J)(cd ct:B)(sl:Array (Option B)):Prop:=K.lookup f=Z (oc,od,.func (W.fnOf x q (eI st) (cb st) (ao st) .none kV dc pm an cd ct),sl)
abbrev CI(K:BT)(cd:B)(x:Str):Prop:=W.codeIn K cd x=O
abbrev KI(K:BT)(f:J):Prop:=W.keepIn K (.ref f)=O
section
variable{K:BT}{q:Str}{f:J}{st:EQ}{oc kV dc pm cd ct:B}{od an:Option J}{sl:Array (Option B)}
abbrev NB(K:BT)(x:Str):Prop:=W.nsIn K mainGlobals x=Z Y
inductive DY(K:BT)(x:Str)(st:EQ)(f:J):Prop
 |mk(n:NI K x f)(fd:Ch)(F:Fun K x x st f fd)
inductive DM(K:BT)(C:J)(x q:Str)(st:EQ)(f:J):Prop
 |mk(M:Meth K C x f)(fd:Ch)(F:Fun K x q st f fd)
def DY.of(n:NI K x f)(l:LK K f x x st oc od kV dc pm an cd ct sl)(c:CI K cd x)(k:KI K f):DY K x st f:=(n,_,BD l c k)
theorem DM.of(m:W.findIn K (.ref C) x=Z (Z (.ref f)))(l:LK K f x q st oc od kV dc pm an cd ct sl)(c:CI K cd q)(k:KI K f)(i:W.isFn K (.ref f)=O):DM K C x q st f:=((m,i,k),_,BD l c k)
theorem Fun.b1{p1:Str}(F:Fun K x q st f fd)(g:∀kV dc pm an cd ct u1,bindArgs (W.fnOf x q (eI st) (cb st) (ao st) .none kV dc pm an cd ct) ([u1],[])=pure [(p1,u1)]:=by intros;rfl):Binds K fd [p1] []:=F.binds λkV dc pm an cd ct us hl=>S7 (P:=λus=>bindArgs _ (us,[])=pure (Yl _ us)) (g kV dc pm an cd ct) us hl
theorem Fun.b2{p1 p2:Str}(F:Fun K x q st f fd)(g:∀kV dc pm an cd ct u1 u2,bindArgs (W.fnOf x q (eI st) (cb st) (ao st) .none kV dc pm an cd ct) ([u1,u2],[])=pure [(p1,u1),(p2,u2)]:=by intros;rfl):Binds K fd [p1,p2] []:=F.binds λkV dc pm an cd ct us hl=>S6 (P:=λus=>bindArgs _ (us,[])=pure (Yl _ us)) (g kV dc pm an cd ct) us hl
theorem Fun.b3{p1 p2 p3:Str}(F:Fun K x q st f fd)(z:∀kV dc pm an cd ct u1 u2 g,bindArgs (W.fnOf x q (eI st) (cb st) (ao st) .none kV dc pm an cd ct) ([u1,u2,g],[])=pure [(p1,u1),(p2,u2),(p3,g)]:=by intros;rfl):Binds K fd [p1,p2,p3] []:=F.binds λkV dc pm an cd ct us hl=>S5 (P:=λus=>bindArgs _ (us,[])=pure (Yl _ us)) (z kV dc pm an cd ct) us hl
theorem Fun.b4{p1 p2 p3 Q:Str}(F:Fun K x q st f fd)(V:∀kV dc pm an cd ct u1 u2 z g,bindArgs (W.fnOf x q (eI st) (cb st) (ao st) .none kV dc pm an cd ct) ([u1,u2,z,g],[])=pure [(p1,u1),(p2,u2),(p3,z),(Q,g)]:=by intros;rfl):Binds K fd [p1,p2,p3,Q] []:=F.binds λkV dc pm an cd ct us hl=>S4 (P:=λus=>bindArgs _ (us,[])=pure (Yl _ us)) (V kV dc pm an cd ct) us hl
theorem Fun.b5{p1 p2 p3 p4 V:Str}(F:Fun K x q st f fd)(hb:∀kV dc pm an cd ct u1 u2 Q z g,bindArgs (W.fnOf x q (eI st) (cb st) (ao st) .none kV dc pm an cd ct) ([u1,u2,Q,z,g],[])=pure [(p1,u1),(p2,u2),(p3,Q),(p4,z),(V,g)]:=by intros;rfl):Binds K fd [p1,p2,p3,p4,V] []:=F.binds λkV dc pm an cd ct us hl=>U0 (P:=λus=>bindArgs _ (us,[])=pure (Yl _ us)) (hb kV dc pm an cd ct) us hl
end
mutual
def T.pln:T->Bool
 |.n=>O
 |.b _=>O
 |.i _=>O
 |.s _=>O
 |.t xs=>T.dz xs
 |.zl xs=>T.dz xs
 |.fd _ _ ks=>T.gC ks
 |_=>ϊ
def T.dz:List T->Bool
 |[]=>O
 |x::r=>x.pln&&T.dz r
def T.gC:List (Key×T)->Bool
 |[]=>O
 | (_,x)::r=>x.pln&&T.gC r
end
def nof{A:Prop}(h:ϊ=O):A:=absurd h qE
theorem ay.plain{K:BT}{dl:Dl}(kt:∀a vs,H a=Z (.tup vs)->H' a=Z (.tup vs))(z:∀a o u,H a=Z (.frz o u)->H' a=Z (.frz o u)){v:V}{t:T}(h:ay K dl H v t F):t.pln=O->ay K dl H' v t F :=
 ay.rec (motive_2:=λv t F _=>T.dz t=O->aq K dl H' v t F) (motive_3:=λv t F _=>T.gC t=O->aI K dl H' v t F)
  (λ_=>.n) (λx _=>.b x) (λx _=>.i x) (λx _=>.s x) (λ_ h=>nof h) (λh _ g q=>.t (kt _ _ h) (g q)) (λ_ _ _ h=>nof h) (λ_ _ _ h=>nof h) (λ_ h=>nof h) (λ_ h=>nof h) (λ_ h=>nof h) (λh _ g q=>.fd (z _ _ _ h) (g q)) (λ_ h=>nof h) (λ_ _ _ h=>nof h)
  (λ_ _ h=>nof h) (λ_ _ _ h=>nof h) (λ_ _ _ h=>nof h) (λ_ _ _ h=>nof h) (λh _ g q=>.zl (z _ _ _ h) (g q)) (λ_ h=>nof h) (λ_ _ _ _ _ h=>nof h) (λ_=>.nil) (λ_ _ i1 i2 q=>.cons (i1 (tD _ _▸q).1) (i2 (tD _ _▸q).2)) (λ_=>.nil) (λ_ _ i1 i2 q=>.cons (i1 (tD _ _▸q).1) (i2 (tD _ _▸q).2)) h
theorem aq.plain{K:BT}{dl:Dl}(kt:∀a vs,H a=Z (.tup vs)->H' a=Z (.tup vs))(g:∀a o u,H a=Z (.frz o u)->H' a=Z (.frz o u)){vs:List V}(h:aq K dl H vs ts F):T.dz ts=O->aq K dl H' vs ts F :=
 h.ind (λ_=>.nil) (λ_ _ _ _ _ _ h _ z q=>.cons (h.plain kt g (tD _ _▸q).1) (z (tD _ _▸q).2))
theorem ay.PB{K:BT}{dl:Dl}{v:V}{t:T}(h:ay K dl H v t F):t.pln=O->F=[] :=
 ay.rec (motive_3:=λ_ _ _ _=>True)
  (λ_=>rfl) (λ_ _=>rfl) (λ_ _=>rfl) (λ_ _=>rfl) (λ_ h=>nof h) (λ_ _ g=>g) (λ_ _ _ h=>nof h) (λ_ _ _ h=>nof h) (λ_ h=>nof h) (λ_ h=>nof h) (λ_ h=>nof h) (λ_ _ _ _=>rfl) (λ_ h=>nof h) (λ_ _ _ h=>nof h)
  (λ_ _ h=>nof h) (λ_ _ _ h=>nof h) (λ_ _ _ h=>nof h) (λ_ _ _ h=>nof h) (λ_ _ _ _=>rfl) (λ_ h=>nof h) (λ_ _ _ _ _ h=>nof h) (λ_=>rfl) (λ_ _ i1 i2=>sD i1 i2) trivial (λ_ _ _ _=>trivial) h
theorem aq.PB{K:BT}{dl:Dl}{vs:List V}(h:aq K dl H vs ts F):T.dz ts=O->F=[]:=h.ind (λ_=>rfl) (λ_ _ _ _ _ _ h _ g=>sD h.PB g)
variable{its:List B}
section
variable{X:Cx}{K:BT}{dl:Dl}{σ:St}{s:ϋ}{o:Ev}{te:TE}{qe:QE}{apos aP dm:Pos}
def Inv.Nc(I:Inv X gV σ H s)(ha:H a=Z (.lst xs)):∃o,Inv X gV σ (upd H a (.frz o (.lst xs))) s:=by
 let g:∀o v,X.H₀ a≠Z (.frz o v):=λo v e=>by
  have:=I.base.lC a o v e
  rw[ha]at this;cases this
 let(z,its,n,r,e):=(I.hok a _ ha);exact(_,I.Cj ha (λ_ z=>nomatch z) (λ_ z=>nomatch z) (λ_ z=>nomatch z) g (e,z,its,n,r,e))
def NV(te:TE):TE:=λσ H Q=>te σ H λv H1=>∃a xs,v=.ref a/\H1 a=Z (.lst xs)/\∀o,Q v (upd H1 a (.frz o (.lst xs)))
def LW(he:PE X e te):PE X e (NV te):=by
 left;refine thn (he gV s σ H _ I h) λu s' g=>?_
 let(v,H',P,r,a,xs,V,z,q):=g;let(o,K):=P.Nc z;exact(v,_,K,r,q o)
def Sv(qe:QE):QE:=λq Q=>qe q λt=>match t with
 |.l ts=>T.dz ts=O/\Q (.zl ts)
 |_=>False
def c9(he:QPF X K e te qe):QPF X K e (NV te) (Sv qe):=(LW he.h,λdl H σ q Q R rd hq k=>he.s dl H σ q _ _ rd hq λv t F H1 e1 P f1 n1 g=>by
 split at g
 ·let(p,vs,G,U,U,h1,h2):=P.r.lst;obtain rfl:=h2.PB g.1;refine(p,vs,U,h1,λo=>?_)
  let V:=e1.fresh (o:=.frz o (.lst vs)) (f1 p jf) (P.n p jf);let ne:∀{a:J}{u:HO},H1 a=Z u->(∀xs,u ≠ .lst xs)->a≠p:=λh n z=>by rw[z,h1]at h;exact n _ (Option.some.inj h).symm
  let ts:=h2.plain (H':=upd H1 p (.frz o (.lst vs))) (λa us h=>by rw[aj (ne h λ_ z=>nomatch z)];exact h) (λa o u h=>by rw[aj (ne h λ_ z=>nomatch z)];exact h) g.1
  exact k _ (.zl _) [] _ V (.zl aw ts,b6) b6 k4 g.2
 ·exact g.elim)
def A2(i:Nat):QS:=λD q=>match q[i]? with
 |some (.o (.l _))=>D.nx (q.set i (.o (.l [])))
 |_=>False
def D5:j9 K (fO (DV K "list" AV (bB i))) (A2 i):=λdl H₀ hs H σ q Dq D (F,r) hq E=>by
 unfold A2 at hq
 split at hq
 ·rename_i xs P;let(v,hv,Q):=r.g i _ _ P U;let(p,vs,G,U,V,h1,h2):=Q.r.lst;exact(_,hv,.inl (U,_,SqL.of h1),p,vs,U,U,h1,E.nx _ σ _ (r.nH P hv V (.refl r.d) .nil k4 b6) hq)
 ·exact hq.elim
def GN(ho:PE X o (bB i))(q:X.K=K:=by rfl)(z:attributeBase o "clear" X.env (eval o X.env)=eval o X.env:=by rfl)(P:(apos.endLine==aP.line)=true:=by rfl)
  (g:swapsWith (.Call (.Attribute o "clear" apos) [] [] aP) Y dm.line X.env=pure false:=by rfl):
  QPS X K (.Expr (.Call (.Attribute o "clear" apos) [] [] aP) dm) (fO (DV K "list" AV (bB i))) (A2 i) :=
 (by subst q;exact fi (wU PySem.F.plainAttrs_list PySem.F.slot_list_clear PySem.F.type_list_clear Ig ho z P) g,D5)
inductive RZ(K:BT)(neg:Bool)(x:V)(y:V)(H:Hp)(Q:VK):Prop
 |mk(dl ts us vs ws n p q F G)(h1:x=.ref p)(h2:y=.ref q)(h3:SqL K H p vs)(h4:SqL K H q ws)(h5:aq K dl H vs ts F)(h6:aq K dl H ws us G)(h7:(∀(j:Nat)(x y:T),ts[j]?=Z x->us[j]?=Z y->Alk n x y))(h8:n<=100)(h9:∀c:Bool,(c=O ↔ ts=us)->Q (.bl (if neg then !c else c)) H)
def Dx(I:Inv X gV σ H s)(hK:X.K=K){ts us:List T}{q:List B}(q1:Vals vs its)(q2:Vals ws q)(f1:aq K dl H vs ts F)(f2:aq K dl H ws us G)(ht:∀(j:Nat)(x y:T),ts[j]?=Z x->us[j]?=Z y->Alk n x y)(hu:A.units+n<cLine):
  ∃e:Nat->Bool,(∀(j:Nat)(g1:j<its.toArray.size)(g2:j<q.toArray.size),SeqAt.EqAt A s its.toArray[j] q.toArray[j] (e j))/\∀(j:Nat)(x y:T),ts[j]?=Z x->us[j]?=Z y->(e j=O ↔ x=y):=by
 let l1:=q1.length;let l2:=q2.length;let l3:=f1.len;let l4:=f2.len;let go:∀j,∃c:Bool,∀g1 (g2:j<q.toArray.size),(∀x y,ts[j]?=Z x->us[j]?=Z y->(c=O ↔ x=y))/\SeqAt.EqAt A s its.toArray[j] q.toArray[j] c:=λj=>by
  by_cases g:j<its.toArray.size/\j<q.toArray.size
  ·let(g1,g2):=g;let(v1,e1,az):=q1.at' g1;let(v2,e2,av):=q2.at' g2;let(t1,G1,Q,aF):=dy f1 e1;let(t2,G2,P,aD):=dy f2 e2;let(c,hc,hE):=zF I hK n A t1 t2 v1 v2 G1 G2 _ _ (ht j t1 t2 Q P) aF aD az av hu;refine(c,λ_ _=>(λx y hx z=>?_,hE))
   rw[Q]at hx;rw[P]at z;cases hx;cases z;exact hc
  ·exact(O,λg1 g2=>absurd (g1,g2) g)
 refine(λj=>Classical.choose (go j),λj g1 g2=>(Classical.choose_spec (go j) g1 g2).2,λj x y hx z=>?_)
 let g1:=(kf.mp hx).1;let g2:=(kf.mp z).1;exact(Classical.choose_spec (go j) (by simp;lia) (by simp;lia)).1 x y hx z
def HN(hu:X.A.units+150<cLine)(hK:X.K=K):OpR X (compareOp .Eq) (RZ K ϊ):=by
 subst hK;intro gV s σ H x y v u Q I rx V h;let(dl,ts,us,vs,ws,n,p,q,F,G,U,U,h1,h2,f1,f2,ht,hn,k):=h;cases rx;cases V;let(its,P,p1,_):=I.list h1;let(bK,g,p2,_):=I.list h2;let l1:=P.length;let l2:=g.length;let l3:=f1.len;let l4:=f2.len;let(e,hE,he):=Dx (A:=X.A.in1) I U P g f1 f2 ht (by show X.A.units+1+n<_;lia)
 by_cases hl:its.length=bK.length
 ·refine SeqAt.eq_listAt p1.isList p2.isList (by simpa using hl) (by omega) hE (.bl _,H,I,U,k _ ?_)
  let key:=xD (n:=n) U U he;rw[show(ts.length==us.length)=O from by simp;lia,X1,show min ts.length us.length=its.toArray.size from by simp;lia]at key
  exact key
 ·exact SeqAt.eq_list_lengthsAt p1.isList p2.isList (by simpa using hl) (by omega) (.bl _,H,I,U,k ϊ (λz=>absurd z qE,λz=>by rw[z]at l3;lia))
def T.lst:T->Option (List T)
 |.l xs=>Z xs
 |.zl xs=>Z xs
 |_=>Y
def UG(neg:Bool):Q2:=λt u Q=>∃ts us n,t.lst=Z ts/\u.lst=Z us/\n<=100/\(∀(j:Nat)(x y:T),ts[j]?=Z x->us[j]?=Z y->Alk n x y)/\∀c:Bool,(c=O ↔ ts=us)->Q (.b (if neg then !c else c))
def Rp.MH(r:Rp K dl H v t F)(h:t.lst=Z ts):∃p vs G,v=.ref p/\SqL K H p vs/\aq K dl H vs ts G:=by
 cases t with
 |l xs=>cases h;let(p,vs,G,U,U,h1,h2):=r.r.lst;exact(p,vs,G,U,SqL.of h1,h2)
 |zl xs=>cases h;let(p,o,vs,U,U,h1,h2):=r.r.zls;exact(p,vs,[],U,.inl (.inr (o,h1)),h2)
 |_=>cases h
def Cd:cO K (RZ K neg) (UG neg):=by
 intro dl H x y t u F G Q R D q g hq k;let(ts,us,n,e1,e2,hn,V,hq):=hq;let(p,vs,G1,U,h1,f1):=q.MH e1;let(P,ws,G2,U,h2,f2):=g.MH e2;exact(dl,ts,us,vs,ws,n,p,P,G1,G2,U,U,h1,h2,f1,f2,V,hn,λc hc=>k _ _ [] H (.refl D) (.c (.b _)) b6 k4 (hq c hc))
end
end L2
namespace L2
open PySem PySem.Spec PyProof.Rows
def mK(H:Hp)(F:List J):Hp:=λb=>if b∈F then Y else H b
variable{H:Hp}
def zo(h:b∈F):mK H F b=none:=if_pos h
def sv(h:b ∉ F):mK H F b=H b:=if_neg h
structure fN(dl:Dl)(H:Hp)(F:List J)(H':Hp):Prop where
 k:∀b o,H b=Z o->b ∉ F->Nd dl b->NR o->H' b=Z o
 r:∀a x,H a=Z (.room x)->a ∉ F->∃y,y<=x/\H' a=Z (.room y)
 l:∀b xs,b∈F->H b=Z (.lst xs)->∃ys,H' b=Z (.lst ys)
 d:Dls dl H'
abbrev uE:=List T->(T->T->Prop)->Prop
inductive Oth(K:BT)(dl:Dl)(H:Hp)(vs:List V)(ts:List T)(j:Nat)(F0:List J):Prop
 |mk(G:Nat->List J)(h1:(∀i v t,i≠j->vs[i]?=Z v->ts[i]?=Z t->Rp K dl H v t (G i)/\∀b∈G i,b ∉ F0))(h2:∀i,ts.length<=i->G i=[])
variable{j:Nat}
theorem Oth.im{K:BT}{dl:Dl}(h:∀i v t,i≠j->vs[i]?=Z v->ts[i]?=Z t->Rp K dl H v t []):Oth K dl H vs ts j F0:=(λ_=>[],λi v t h1 h2 h3=>(h i v t h1 h2 h3,b6),λ_ _=>rfl)
inductive spL(K:BT)(j:Nat)(ps:uE)(vs:List V)(H:Hp)(Q:VK)(_:XK):Prop
 |mk(dl:Dl)(ts:List T)(v0:V)(t0:T)(F0:List J)(Qp:T->T->Prop)(h1:Dls dl H)(h2:vs.length=ts.length)(h3:vs[j]?=Z v0)(h4:ts[j]?=Z t0)(h5:Rp K dl H v0 t0 F0)(h6:F0.Nodup)(h7:Oth K dl H vs ts j F0)(h8:ps ts Qp)(h9:∀v r Fr t' F' H',fN dl H F0 H'->Rp K dl H' v0 t' F'->F'.Nodup->(∀b∈F',b∈F0\/H b=Y)->Rp K dl H' v r Fr->Fr.Nodup->(∀b∈Fr,b∈F0\/H b=Y)->(∀b∈Fr,b ∉ F')->Qp r t'->Q v H')
def hsq(H:Hp)(F:List J):List (V×T):=F.filterMap λb=>match H b with
 |some (.lst _)=>Z (.ref b,.q)
 |_=>Y
theorem Qt{K:BT}{dl:Dl}:∀p∈hsq H F,Rp K dl H p.1 p.2 []:=λp hp=>by
 let(b,_,e):=WS.mp hp
 split at e
 ·rename_i xs h;cases e;exact(.q h,b6)
 ·cases e
def M4{xs:List V}(g:b∈F)(h:H b=Z (.lst xs)):(V.ref b,T.q)∈hsq H F:=WS.mpr (b,g,by rw[h])
variable{N:List Str}
theorem AU{K:BT}{dl:Dl}{ts:List T}(D:Dls dl H)(hl:vs.length=ts.length)(hv:vs[j]?=Z v0)(r0:Rp K dl H v0 t0 F0)(n0:F0.Nodup){G:Nat->List J}(ro:∀i v t,i≠j->vs[i]?=Z v->ts[i]?=Z t->Rp K dl H v t (G i)/\∀b∈G i,b ∉ F0)(rz:∀i,ts.length<=i->G i=[])(hj:j<ts.length)(hh:∀p∈hs,Rp K dl H p.1 p.2 []):
  Rel K dl (mK H F0) hs H (start N vs) ((ts.map Sl.r).set j (.o t0)++BQ (N.length - ts.length) .no) (λi=>if i=j then F0 else G i):=by
 let lk:∀i y,((ts.map Sl.r).set j (.o t0)++BQ (N.length - ts.length) Sl.no)[i]?=Z y->(i=j/\y=.o t0)\/(i≠j/\∃t,ts[i]?=Z t/\y=.r t)\/(ts.length<=i/\y=.no):=λi y h=>by
  by_cases hi:i<ts.length
  ·rw[u4 (by simpa using hi)]at h
   obtain⟨e1,Q,_⟩|⟨e1,Q⟩:=get_set h
   ·exact .inl (e1,Q)
   ·rw[j5,eO hi]at Q;exact .inr (.inl (e1,ts[i],by simp,(Option.some.inj Q).symm))
  ·rw[vr (by simpa using hi),Wy]at h
   split at h
   ·exact .inr (.inr (by omega,(Option.some.inj h).symm))
   ·cases h
 let g:∀i v,vs[i]?=Z v->(start N vs)[i]?=Z (Z v):=λi v e=>by
  let hi:=(kf.mp e).1;show(vs.map Z++BQ (N.length - vs.length) Y)[i]?=_;rw[u4 (by simpa using hi),j5,e]
  rfl
 let q:∀b o,mK H F0 b=Z o->H b=Z o:=λb o h=>by
  by_cases e:b∈F0
  ·rw[zo e]at h;cases h
  ·rw[sv e]at h;exact h
 refine(D,λi y t h1 h2=>?_,λi y h1 h2=>?_,λi hi=>?_,λi t h1=>?_,λp hp=>([],hh p hp,λ_ _ _ _ _ z=>nomatch z),(λb o h _ _=>q b o h,λb x h=>(x,NL _,q b _ h)),?_)
 ·obtain⟨rfl,rfl⟩|⟨ne,u,e,rfl⟩|⟨_,rfl⟩:=lk i y h1
  ·cases h2;refine(v0,g _ _ hv,?_);rw[if_pos rfl];exact r0
  ·cases h2;obtain⟨v,ev⟩:∃v,vs[i]?=Z v:=(vs[i]'(by rw[hl];exact(kf.mp e).1),eO _)
   refine(v,g _ _ ev,?_);rw[if_neg ne];exact(ro i v t ne ev e).1
  ·cases h2
 ·obtain⟨rfl,rfl⟩|⟨ne,u,e,rfl⟩|⟨hi,rfl⟩:=lk i y h1
  ·cases h2
  ·cases h2
  ·rw[if_neg (by lia)];exact rz i hi
 ·let av:ts.length<=i:=by simp at hi;lia
  rw[if_neg (by lia)];exact rz i av
 ·obtain⟨rfl,e⟩|⟨ne,u,e,z⟩|⟨_,z⟩:=lk i _ h1
  ·refine(by rw[if_pos rfl];exact n0,λb P=>?_,λk hk b P=>?_)
   ·rw[if_pos rfl]at P;exact zo P
   ·rw[if_pos rfl]at P;rw[if_neg hk];intro z;by_cases az:k<ts.length
    ·exact(ro k (vs[k]'(by lia)) ts[k] hk (eO _) (eO _)).2 b z P
    ·rw[rz k (by omega)]at z;cases z
  ·cases z
  ·cases z
 ·show _=(vs.map Z++BQ (N.length - vs.length) Y).length;simp[hl]
def T.adr:T->Option J
 |.lp a _=>Z a
 |.dp a _=>Z a
 |.om a _ _ _=>Z a
 |_=>Y
theorem ay.adr{K:BT}{dl:Dl}{v:V}{t:T}(h:ay K dl H v t F)(e:t.adr=Z a):v=.ref a:=by
 cases t with
 |lp b xs=>cases e;let(_,_,z,_):=h.lpp;exact z
 |dp b xs=>cases e;let(_,_,z,_):=h.dpp;exact z
 |om b _ _ _=>cases e;let(_,_,_,z,_):=h.omm;exact z
 |_=>cases e
def dZ.ow(j:Nat)(a:J)(Q:T->T->Prop):dZ:={nx:=λq=>∃t',q[j]?=Z (.o t')/\t'.adr=Z a/\Q .n t',rt:=λ_=>False,ru:=λq r=>∃t',q[j]?=Z (.o t')/\t'.adr=Z a/\Q r t'}
variable{P:Da}{mg:Str->Option B}{base:Do}{x:Str}{qual:Str}{fd:Ch}
theorem Fun.okL{K:BT}{st:EQ}(F:Fun K x qual st f fd)(S:aB N ps (ao st))(len:∀ts Q,av ts Q->ts.length=ps.length)
  (jN:∀(cdv:B)(A:Db)(outer:List Env)(s:ϋ)(H:Hp)(E:XK),cu k (A.deeper (envOfC qual (ao st) s.heap.objs.size f cdv)) ->
   ∃t qs,ox (sO CX0 P w K mg base N qual (ao st) f cdv A outer s H E).nox K (cb st) t qs/\∀ts Q t0 a,av ts Q->ts[j]?=Z t0->t0.adr=Z a->qs (.ow j a Q) ((ts.map Sl.r).set j (.o t0)++BQ (N.length - ts.length) .no))
  (Vt:∀ts Q,av ts Q->∃t0 a,ts[j]?=Z t0/\t0.adr=Z a):bb P w K mg base CX0 (k+1) f fd ps (spL K j av):=by
 refine F.ok S (λvs H Q E h=>?_) (λcdv A outer s H vs Q E hr h=>?_)
 ·let(dl,ts,v0,t0,F0,Qp,_,hl,_,_,_,_,_,h,_):=h;rw[hl];exact len ts Qp h
 ·let(dl,ts,v0,t0,F0,Qp,D,hl,hv,ht,r0,n0,ro,h,fin):=h;let(t,qs,hb,hq):=jN cdv A outer s H E hr;refine(t,hb.h,?_);let(aK,a,aD,ea):=Vt ts Qp h;rw[ht]at aD;cases aD;let z:=hq ts Qp t0 a h ht ea;let hj:=(kf.mp ht).1;let(G,ro,rz):=ro;let R:=AU (N:=N) (hs:=hsq H F0) D hl hv r0 n0 ro rz hj Qt;let aF:=r0.r.adr ea;let az:∀{b:J}{o:HO},H b=Z o->b ∉ F0->mK H F0 b=Z o:=λh n=>by rw[sv n];exact h
  let uu:∀{H':Hp}{σ:St}{q:Sq}{F':Nat->List J},Rel K dl (mK H F0) (hsq H F0) H' σ q F'->fN dl H F0 H':=λ{H' σ q F'} V =>
   (λb o e n nd nr=>V.f.k b o (az e n) nd nr,λb x e n=>V.f.r b x (az e n),λb xs hb e=>(by
    let(Fp,rq,_):=V.h _ (M4 hb e);cases rq.r with
    |q h=>exact(_,h)),V.d)
  let fr:∀{b:J},mK H F0 b=Y->b∈F0\/H b=none:=λ{b} h=>by
   by_cases e:b∈F0
   ·exact .inl e
   ·rw[sv e]at h;exact .inr h
  let at':∀{H':Hp}{σ:St}{q:Sq}{F':Nat->List J}{t':T},Rel K dl (mK H F0) (hsq H F0) H' σ q F'->q[j]?=Z (.o t')->t'.adr=Z a->Rp K dl H' v0 t' (F' j):=λ{H' σ q F' t'} V e1 e2=>by
   let(v',_,rp):=V.g j _ _ e1 U;rw[aF,<- rp.r.adr e2];exact rp
  refine hb.s dl (mK H F0) (hsq H F0) H _ _ _ _ (_,R) z (λH' σ q hr hz=>?_,λ_ _ _ _ hz=>hz.elim,λ_ _ _ _ hz=>hz.elim,λ_ _ _ _ _ _ _ _ _ hz=>hz.elim,λH' σ q F' v r Fr V rv f1 n1 dj hz=>?_)
  ·let(F',V):=hr;let(t',e1,e2,hz):=hz;let(o1,o2,_):=V.o j t' e1;exact fin .non .n [] t' (F' j) H' (uu V) (at' V e1 e2) o1 (λb hb=>fr (o2 b hb)) (.n,b6) k4 b6 b6 hz
  ·let(t',e1,e2,hz):=hz;let(o1,o2,_):=V.o j t' e1;exact fin v r Fr t' (F' j) H' (uu V) (at' V e1 e2) o1 (λb hb=>fr (o2 b hb)) rv n1 (λb hb=>fr (f1 b hb)) (dj j) hz
variable{F':List J}
section
variable{K:BT}{dl:Dl}{H₀ H':Hp}{hs:List (V×T)}{σ:St}{q:Sq}{F:Nat->List J}
def Rel.S3(r:Rel K dl H₀ hs H σ q F)(hi:q[i]?=Z (.o t))(hv:σ[i]?=Z (Z v))(f:fN dl H (F i) H')(hr:Rp K dl H' v t' F')(n':F'.Nodup)(hF:∀b∈F',b∈F i\/H b=Y):Rel K dl H₀ hs H' σ (q.set i (.o t')) (qW F i F'):=by
 let th:∀{b:J},b∈F i->fD H b:=λP=>r.fF P
 let ne:∀{b:J}{o:HO},H b=Z o->o.mt=ϊ->b ∉ F i:=λ{b o} h n1 z=>by
  let(_,e,m):=th z;rw[h]at e;cases e;rw[n1]at m;cases m
 let tf:TF H H':=(λb vs h=>f.k b _ h (ne h U) (r.d.nd h (λ_ z=>nomatch z) λ_ z=>nomatch z) (λ_ z=>nomatch z),λb o u h=>f.k b _ h (ne h U) (r.d.nd h (λ_ z=>nomatch z) λ_ z=>nomatch z) (λ_ z=>nomatch z),
  λb φ h=>f.k b _ h (ne h U) (r.d.nd h (λ_ z=>nomatch z) λ_ z=>nomatch z) (λ_ z=>nomatch z),λb xs h=>(by
  by_cases P:b∈F i
  ·exact f.l b xs P h
  ·by_cases hn:Nd dl b
   ·exact(xs,f.k b _ h P hn (λ_ z=>nomatch z))
   ·obtain⟨p,hp,z⟩:∃p∈dl,¬(b≠p.1/\b≠p.2):=Classical.byContradiction λc=>hn λp hp=>Classical.byContradiction λz=>c (p,hp,z)
    let(s,n,ls,Q):=r.d p hp;let(s',n',ls',Q'):=f.d p hp;let h1:=il h Q.hd (λz=>nomatch z)
    let h2:=Classical.byContradiction λz'=>z (h1,z')
    exact(_,by rw[h2];exact Q'.hl)),λb x h=>f.r b x h (ne h U))
 let st:∀{w:V}{u:T}{Fw:List J},Rp K dl H w u Fw->(∀b∈Fw,b ∉ F i)->Rp K dl H' w u Fw:=λ{w u Fw} h np =>
  (h.r.cx tf (λ_ z=>z) λb P o e=>f.k b o e (np b P) (h.n b P) (.of (h.r.there b P) e),h.n)
 let(o1,o2,o3):=r.o i t hi;let out:∀j,j≠i->∀b∈F',b ∉ F j:=λj hj b P z=>by
  obtain h|h:=hF b P
  ·exact o3 j hj b h z
  ·exact(r.fF z).no h
 refine(f.d,λj x u h1 h2=>?_,λj x h1 h2=>?_,λj hj=>?_,λj u h1=>?_,λp hp=>?_,(λb o h n nr=>?_,λb x h=>?_),by simp[r.l])
 ·obtain⟨rfl,rfl,_⟩|⟨ne',h1⟩:=get_set h1
  ·cases h2;exact(v,hv,by rw[aR];exact hr)
  ·let(w,h3,h4):=r.g j x u h1 h2;exact(w,h3,by rw[aE ne'];exact st h4 λb P z=>o3 j ne' b z P)
 ·obtain⟨rfl,rfl,_⟩|⟨ne',h1⟩:=get_set h1
  ·cases h2
  ·rw[aE ne'];exact r.n j x h1 h2
 ·let hl:=(kf.mp hi).1;rw[NP]at hj;rw[aE (by lia)]
  exact r.z j hj
 ·obtain⟨rfl,e,_⟩|⟨ne',h1⟩:=get_set h1
  ·rw[aR];exact(n',λb P=>(hF b P).elim (o2 b) r.fz,λk hk b P=>by rw[aE hk];exact out k hk b P)
  ·let(p1,p2,p3):=r.o j u h1;rw[aE ne'];refine(p1,p2,λk hk b P z=>?_)
   by_cases ek:k=i
   ·subst ek;rw[aR]at z;exact out j ne' b z P
   ·rw[aE ek]at z;exact p3 k hk b P z
 ·let(Fp,h1,h2):=r.h p hp;refine(Fp,st h1 (λb P z=>h2 i t hi b z P),λj u hj b P z=>?_)
  obtain⟨rfl,e,_⟩|⟨ne',hj⟩:=get_set hj
  ·rw[aR]at P;obtain h|h:=hF b P
   ·exact h2 j t hi b h z
   ·exact fD.no (h1.r.there b z) h
  ·rw[aE ne']at P;exact h2 j u hj b P z
 ·exact f.k b o (r.f.k b o h n nr) (λz=>by rw[o2 b z]at h;cases h) n nr
 ·let(y,hy,e1):=r.f.r b x h;let(y',av,e2):=f.r b y e1 (λz=>by rw[o2 b z]at h;cases h)
  exact(y',Wc av hy,e2)
end
section
variable{X:Cx}{K:BT}{dl:Dl}{H₀ H':Hp}{hs:List (V×T)}{σ:St}{q:Sq}{F:Nat->List J}{b e:Ev}{te:TE}{qe:QE}{pos:Pos}
def KY(he:QPF X K e te qe):QPS X K (.Return (Z e) pos) (FI te) (λD q=>qe q λr=>D.ru q r):=(k7 he.h,λdl H₀ hs H σ q Dq D (F,r) hq E =>
 he.s dl H σ q _ _ r.rd hq λv t F' H' e1 P f1 Q V=>E.ru H' σ q F v t F' (r.evo e1) P (λb g=>r.fz (f1 b g)) Q (λ_ b g z=>(r.fF z).no (f1 b g)) V)
end
section
variable{X:Cx}{K:BT}{a b:Ev}{ta tb:TE}{qa qb:QE}{pos p:Pos}
inductive GG(x:V)(y:V)(H:Hp)(Q:VK):Prop
 |mk(l b xs zs)(h1:x=.ref l)(h2:y=.ref b)(h3:Rd H l (.lst xs))(h4:Rd H b (.lst zs))(h5:xs.length+zs.length<=mu)(h6:∀p,H p=Y->Q (.ref p) (upd H p (.lst (xs++zs))))
def Mq:OpR X (binaryOp .Add) GG:=by
 intro gV s σ H x y v u Q I rx V h;let(l,b,xs,zs,U,U,hH,hB,hz,q):=h;cases rx;cases V;let(z,its,n,r,e):=(hH.ok I.hok);let(z2,K,n2,g,e2):=(hB.ok I.hok);let hl:=r.length;let av:=g.length;refine PySem.P.add_list e e2 ?_ (by rw[pM,pM];lia)
 let ea:its.toArray++K.toArray=(its++K).toArray:=by simp
 rw[ea];exact(.ref _,_,I.S2 (r.append g) (by rw[pL];omega),U,q _ I.fresh)
def Rp.S1{dl:Dl}(r:Rp K dl H v t F)(h:t.lst=Z ts):∃p vs G,v=.ref p/\Rd H p (.lst vs)/\aq K dl H vs ts G:=by
 cases t with
 |l xs=>cases h;let(p,vs,G,U,U,h1,h2):=r.r.lst;exact(p,vs,G,U,.inl h1,h2)
 |zl xs=>cases h;let(p,o,vs,U,U,h1,h2):=r.r.zls;exact(p,vs,[],U,.inr (o,h1),h2)
 |_=>cases h
def Oa:Q2:=λt u Q=>∃xs ys,t.lst=Z xs/\u.lst=Z ys/\xs.length+ys.length<=mu/\T.ims xs=O/\T.ims ys=O/\Q (.l (xs++ys))
def Gg:cO K GG Oa:=by
 intro dl H x y t u F G Q R D q g hq k;let(xs,ys,e1,e2,hl,i1,i2,hq):=hq;let(p,vs,G1,U,h1,f1):=q.S1 e1;let(z,ws,G2,U,h2,f2):=g.S1 e2;obtain rfl:=f1.im i1;obtain rfl:=f2.im i2;refine(p,z,vs,ws,U,U,h1,h2,by rw[f1.len,f2.len];exact hl,λp hp=>?_)
 let rs:Rps K dl H (vs++ws) _ ([] ++ []):=(f1.append f2,λc P=>nomatch P)
 exact k _ _ _ _ ((Evo.refl D).new hp) (rs.lst D hp) (λb V=>by rw[g5.mp V];exact hp) (by simp) hq
def Lr(ha:QPE X K a ta qa)(g:QPE X K b tb qb):QPF X K (.BinOp a .Add b pos) (tOp GG ta tb) (qOp Oa qa qb):=(cL Mq ha.h g.h,vP Gg ha.s g.s)
end
end L2
namespace L2
end L2
namespace L2
open PySem PySem.Spec PyProof.Rows
abbrev Way:=List (Sum Str Nat)
def putN(f:Str):List Str->List Str
 |[]=>[f]
 |g::r=>if g=f then g::r else g::putN f r
def eT{α:Type}(f:Str)(y:α):List Str->List α->List α
 |[],_=>[y]
 |g::r,x::ts=>if g=f then y::ts else x::eT f y r ts
 |_::_,[]=>[]
def T.sub:Way->T->Option T
 |[],x=>Z x
 |.inl f::p,.om _ _ ns ts=>match(ns.zip ts).lookup f with
  |some u=>T.sub p u
  |none=>Y
 |.inr m::p,.l ts=>match ts[m]? with
  |some u=>T.sub p u
  |none=>Y
 |_::_,_=>Y
def T.put(u:T):Way->T->T
 |[],_=>u
 |.inl f::p,.om a C ns ts=>match(ns.zip ts).lookup f with
  |some x=>.om a C ns (eT f (T.put u p x) ns ts)
  |none=>.om a C ns ts
 |.inr m::p,.l ts=>match ts[m]? with
  |some x=>.l (ts.set m (T.put u p x))
  |none=>.l ts
 |_::_,x=>x
def VAt(H:Hp):Way->V->V->Prop
 |[],v,w=>v=w
 |.inl f::p,v,w=>∃a C dx fs x,v=.ref a/\H a=Z (.ins C dx fs)/\fs.lookup f=Z x/\VAt H p x w
 |.inr m::p,v,w=>∃a xs x,v=.ref a/\H a=Z (.lst xs)/\xs[m]?=Z x/\VAt H p x w
variable{H:Hp}
def VAt.uniq:∀{v w K:V},VAt H p v w->VAt H p v K->w=K:=by
 induction p with
 |nil=>exact λh h'=>h.symm.trans h'
 |cons s p P =>
  intro v w K h h';cases s with
  |inl f =>
   let(a,C,dx,fs,x,e,h1,h2,h3):=h;let(a',C',az,av,x',e',z,q,g):=h';subst e;cases e';cases h1.symm.trans z;cases h2.symm.trans q;exact P h3 g
  |inr m =>
   let(a,xs,x,e,h1,h2,h3):=h;let(a',Q,x',e',z,q,g):=h';subst e;cases e';cases h1.symm.trans z;cases h2.symm.trans q;exact P h3 g
def VAt.snoc:∀{v w x:V},VAt H p v w->VAt H [s] w x->VAt H (p ++ [s]) v x:=by
 induction p with
 |nil=>intro v w x h h';cases h;exact h'
 |cons t p g =>
  intro v w x h h';cases t with
  |inl f=>let(a,C,dx,fs,x,e,h1,h2,h3):=h;exact(a,C,dx,fs,x,e,h1,h2,g h3 h')
  |inr m=>let(a,xs,x,e,h1,h2,h3):=h;exact(a,xs,x,e,h1,h2,g h3 h')
def T.B7{p:Way}(h:T.sub (.inl f::p) y=Z u):∃a C ns ts x,y=.om a C ns ts/\(ns.zip ts).lookup f=Z x/\T.sub p x=Z u:=by
 cases y with
 |om a C ns ts =>
  unfold T.sub at h;cases e:(ns.zip ts).lookup f with
  |none=>rw[e]at h;cases h
  |some x=>rw[e]at h;exact(a,C,ns,ts,x,U,e,h)
 |_=>cases h
def T.B6{p:Way}(h:T.sub (.inr m::p) y=Z u):∃ts x,y=.l ts/\ts[m]?=Z x/\T.sub p x=Z u:=by
 cases y with
 |l ts =>
  unfold T.sub at h;cases e:ts[m]? with
  |none=>rw[e]at h;cases h
  |some x=>rw[e]at h;exact(ts,x,U,e,h)
 |_=>cases h
def T.sub_snoc{s:Sum Str Nat}:∀{t u x:T},T.sub p t=Z u->T.sub [s] u=Z x->T.sub (p ++ [s]) t=Z x:=by
 induction p with
 |nil=>intro t u x h h';cases h;exact h'
 |cons r p g =>
  intro t u x h h';cases r with
  |inl f =>
   let(a,C,ns,ts,y,U,e,h):=T.B7 h;show T.sub (.inl f ::(p ++ [s])) _=_;unfold T.sub;rw[e];exact g h h'
  |inr m =>
   let(ts,y,U,e,h):=T.B6 h;show T.sub (.inr m ::(p ++ [s])) _=_;unfold T.sub;rw[e];exact g h h'
def JZ:∀{ns:List Str}{vs:List V},ns.length=vs.length->eU f v (ns.zip vs)=(putN f ns).zip (eT f v ns vs):=by
 intro ns
 induction ns with
 |nil=>intro vs h;cases vs with|nil=>rfl|cons=>cases h
 |cons g r q =>
  intro vs h;cases vs with
  |nil=>cases h
  |cons x vs =>
   show eU f v ((g,x)::r.zip vs)=_;unfold eU putN eT
   split
   ·rfl
   ·rw[q (Nat.succ.inj h)];rfl
theorem Cv:∀{ns:List Str}{ts:List α},ns.length=ts.length->(putN f ns).length=(eT f y ns ts).length
 |[],[],_=>rfl
 |g::r,x::ts,h=>by
  unfold putN eT
  split
  ·exact h
  ·exact congrArg (· + 1) (Cv (Nat.succ.inj h))
theorem yK:∀{ns:List Str}{vs:List V},(ns.zip vs).lookup f=Z v->putN f ns=ns/\(ns.length=vs.length->eT f v ns vs=vs)
 |[],_,h=>by cases h
 |g::r,[],h=>by cases h
 |g::r,x::vs,h=>by
  rw[show(g::r).zip (x::vs)=(g,x)::r.zip vs from U,x3]at h;unfold putN eT;by_cases e:g=f
  ·subst e;rw[beq_self_eq_true]at h;cases h;exact(if_pos U,λ_=>if_pos U)
  ·let q:=beq_eq_false_iff_ne.mpr λz=>e z.symm
   rw[q]at h;let(h1,h2):=yK h;rw[if_neg e,if_neg e,h1];exact(U,λl=>by rw[h2 (Nat.succ.inj l)])
theorem Im:∀{ns:List Str}{vs:List α}{ts:List β},vs.length=ts.length->((ns.zip ts).lookup f=Y ↔ (ns.zip vs).lookup f=Y)
 |[],_,_,_=>by simp
 |g::r,[],[],_=>by simp
 |g::r,x::vs,y::ts,h=>by
  rw[show(g::r).zip (x::vs)=(g,x)::r.zip vs from U,show(g::r).zip (y::ts)=(g,y)::r.zip ts from U,x3,x3]
  split
  ·simp
  ·exact Im (Nat.succ.inj h)
variable{a:J}
section
variable{K:BT}{dl:Dl}
theorem aq.fld{vs:List V}(h:aq K dl H vs ts F):∀{c:T},(ns.zip ts).lookup f=Z c->∃w Fc G,(ns.zip vs).lookup f=Z w/\ay K dl H w c Fc/\F.Perm (Fc++G) /\
  ∀H' Q c' q,TF H H'->(∀b∈G,∀o,H b=Z o->H' b=Z o)->ay K dl H' Q c' q->∃F',aq K dl H' (eT f Q ns vs) (eT f c' ns ts) F'/\F'.Perm (q++G) :=
 h.ind (M:=λvs ts F=>∀{ns:List Str}{c:T},(ns.zip ts).lookup f=Z c->∃w Fc G,(ns.zip vs).lookup f=Z w/\ay K dl H w c Fc/\F.Perm (Fc++G) /\   ∀H' Q c' q,TF H H'->(∀b∈G,∀o,H b=Z o->H' b=Z o)->ay K dl H' Q c' q->∃F',aq K dl H' (eT f Q ns vs) (eT f c' ns ts) F'/\F'.Perm (q++G)) 
  (λ{ns c} e=>by cases ns <;> cases e) λv x vs ts F G hx hr ih ns c e=>by
  cases ns with
  |nil=>cases e
  |cons g r =>
   rw[show(g::r).zip (x::ts)=(g,x)::r.zip ts from U,x3]at e;by_cases eg:g=f
   ·subst eg;rw[beq_self_eq_true]at e;cases e;refine(v,F,G,?_,hx,.refl _,λH' Q c' q tf k h'=>(q++G,?_,.refl _))
    ·rw[show(g::r).zip (v::vs)=(g,v)::r.zip vs from U,x3,beq_self_eq_true]
    ·unfold eT;rw[if_pos U,if_pos rfl];exact .cons h' (hr.cx tf (λ_ z=>z) k)
   ·let P:=beq_eq_false_iff_ne.mpr λz=>eg z.symm
    rw[P]at e;let(w,Fc,G1,h1,h2,h3,h4):=ih e;refine(w,Fc,F++G1,?_,h2,((h3.append_left F).trans (Wl _ _ _)),λH' Q c' q tf k h'=>?_)
    ·rw[show(g::r).zip (v::vs)=(g,v)::r.zip vs from U,x3,P];exact h1
    ·let(F',q1,q2):=h4 H' Q c' q tf (λb P=>k b (p5 _ P)) h'
     unfold eT;rw[if_neg eg,if_neg eg];exact(F++F',.cons (hx.cx tf (λ_ z=>z) λb P=>k b (qF _ P)) q1,(q2.append_left F).trans (Wl _ _ _))
theorem aq.IY(hw:ay K dl H w c P):∀{ns:List Str}{vs:List V}{ts:List T}{F:List J},aq K dl H vs ts F->ns.length=ts.length->(ns.zip ts).lookup f=Y->aq K dl H (eT f w ns vs) (eT f c ns ts) (F++(P ++ []))
 |[],_,_,_,.nil,_,_=>.cons (F:=P) hw .nil
 |[],_,_,_,.cons _ _,l,_=>nomatch l
 |g::r,_,_,_,.nil,l,_=>nomatch l
 |g::r,_,_,_,.cons (x:=x) (ts:=ts) hx hr,l,e=>by
  rw[show(g::r).zip (x::ts)=(g,x)::r.zip ts from U,x3]at e;by_cases q:g=f
  ·subst q;rw[beq_self_eq_true]at e;cases e
  ·let Q:=beq_eq_false_iff_ne.mpr λz=>q z.symm
   rw[Q]at e;unfold eT;rw[if_neg q,if_neg q,Rl];exact .cons hx (aq.IY hw hr (Nat.succ.inj l) e)
theorem aq.itm{vs:List V}(h:aq K dl H vs ts F):∀{c:T},ts[i]?=Z c->∃w P G,vs[i]?=Z w/\ay K dl H w c P/\F.Perm (P++G) /\
  ∀H' q c' g,TF H H'->(∀b∈G,∀o,H b=Z o->H' b=Z o)->ay K dl H' q c' g->∃F',aq K dl H' (vs.set i q) (ts.set i c') F'/\F'.Perm (g++G) :=
 h.ind (M:=λvs ts F=>∀{i:Nat}{c:T},ts[i]?=Z c->∃w P G,vs[i]?=Z w/\ay K dl H w c P/\F.Perm (P++G) /\   ∀H' q c' g,TF H H'->(∀b∈G,∀o,H b=Z o->H' b=Z o)->ay K dl H' q c' g->∃F',aq K dl H' (vs.set i q) (ts.set i c') F'/\F'.Perm (g++G)) 
  (λ{i c} e=>nomatch e) λv x vs ts F G hx hr ih i c e=>by
  cases i with
  |zero =>
   cases e;exact(v,F,G,U,hx,.refl _,λH' q c' g tf k h'=>(g++G,.cons h' (hr.cx tf (λ_ z=>z) k),.refl _))
  |succ i =>
   let(w,P,G1,h1,h2,h3,h4):=ih (by simpa using e)
   refine(w,P,F++G1,by simpa using h1,h2,((h3.append_left F).trans (Wl _ _ _)),λH' q c' g tf k h'=>?_)
   let(F',q1,q2):=h4 H' q c' g tf (λb Q=>k b (p5 _ Q)) h'
   exact(F++F',.cons (hx.cx tf (λ_ z=>z) λb Q=>k b (qF _ Q)) q1,(q2.append_left F).trans (Wl _ _ _))
def pm2:(a::b ::(A++YA++C)).Perm (A++(a::b ::(YA++C))):=by
 rw[Rl];exact(Yu.trans (List.perm_middle.cons _)).symm
def pm1:(a ::(A++YA++C)).Perm (A++(a ::(YA++C))):=by
 rw[Rl];exact Yu.symm
def km{xs:List α}(h:xs[i]?=Z x):xs.set i x=xs:=by
 let(hl,U):=kf.mp h;exact W3 hl
theorem ay.zip:∀(p:Way){v:V}{t u:T}{F:List J},ay K dl H v t F->T.sub p t=Z u->∃w Q G,(∀H1:Hp,(∀b∈G,∀o,H b=Z o->H1 b=Z o)->VAt H1 p v w)/\ay K dl H w u Q/\F.Perm (Q++G) /\
  ∀H' u' g,TF H H'->(∀b∈G,∀o,H b=Z o->H' b=Z o)->ay K dl H' w u' g->∃F',ay K dl H' v (T.put u' p t) F'/\F'.Perm (g++G):=by
 intro p
 induction p with
 |nil =>
  intro v y u F h ex;cases ex;exact(v,F,[],λ_ _=>rfl,h,by rw[tG],λH' u' g _ _ h'=>(g,h',by rw[tG]))
 |cons s p ih =>
  intro v y u F h ex;cases s with
  |inl f =>
   let(a,C,ns,ts,c,U,ec,ex):=T.B7 ex;let(dx,vs,G0,U,U,h1,h2,h3,h4):=h.omm;let(w1,F1,z,a1,a2,a3,a4):=h4.fld ec;let(w,Q,G2,b1,b2,b3,b4):=ih a2 ex;refine(w,Q,a::dx ::(G2++z),λH1 k1=>(a,C,dx,_,w1,U,k1 a jf _ h1,a1,b1 H1 λb q=>k1 b (j0 _ (j0 _ (qF _ q)))),b2,((a3.trans (b3.append_right z)).cons dx |>.cons a).trans pm2,λH' u' g tf k h'=>?_)
   let(F',q1,q2):=b4 H' u' g tf (λb q=>k b (j0 _ (j0 _ (qF _ q)))) h'
   let(F2,P,q4):=a4 H' w1 _ F' tf (λb q=>k b (j0 _ (j0 _ (p5 _ q)))) q1
   let(s1,s2):=yK a1;let hl:=h4.len;rw[s2 (by lia)]at P
   refine(a::dx::F2,?_,((q4.trans (q2.append_right z)).cons dx |>.cons a).trans pm2)
   unfold T.put;rw[ec];exact .om (k a jf _ h1) (k dx (j0 _ jf) _ h2) (h3.trans (h4.len.symm.trans P.len)) P
  |inr m =>
   let(ts,c,U,ec,ex):=T.B6 ex;let(a,vs,G0,U,U,h1,h4):=h.lst;let(w1,F1,z,a1,a2,a3,a4):=h4.itm ec;let(w,Q,G2,b1,b2,b3,b4):=ih a2 ex;refine(w,Q,a ::(G2++z),λH1 k1=>(a,_,w1,U,k1 a jf _ h1,a1,b1 H1 λb q=>k1 b (j0 _ (qF _ q))),b2,((a3.trans (b3.append_right z)).cons a).trans pm1,λH' u' g tf k h'=>?_)
   let(F',q1,q2):=b4 H' u' g tf (λb q=>k b (j0 _ (qF _ q))) h'
   let(F2,P,q4):=a4 H' w1 _ F' tf (λb q=>k b (j0 _ (p5 _ q))) q1
   rw[km a1]at P;refine(a::F2,?_,((q4.trans (q2.append_right z)).cons a).trans pm1);unfold T.put;rw[ec];exact .l (k a jf _ h1) P
end
variable{H':Hp}
def fN.tf{dl:Dl}(f:fN dl H F H')(th:∀b∈F,fD H b)(D:Dls dl H):TF H H':=by
 let ne:∀{b:J}{o:HO},H b=Z o->o.mt=ϊ->b ∉ F:=λ{b o} h K z=>by
  let(_,e,m):=th b z;rw[h]at e;cases e;rw[K]at m;cases m
 refine(λb vs h=>f.k b _ h (ne h U) (D.nd h (λ_ z=>nomatch z) λ_ z=>nomatch z) (λ_ z=>nomatch z),λb o u h=>f.k b _ h (ne h U) (D.nd h (λ_ z=>nomatch z) λ_ z=>nomatch z) (λ_ z=>nomatch z),
  λb φ h=>f.k b _ h (ne h U) (D.nd h (λ_ z=>nomatch z) λ_ z=>nomatch z) (λ_ z=>nomatch z),λb xs h=>?_,λb x h=>f.r b x h (ne h U))
 by_cases g:b∈F
 ·exact f.l b xs g h
 ·by_cases hn:Nd dl b
  ·exact(xs,f.k b _ h g hn (λ_ z=>nomatch z))
  ·obtain⟨p,hp,z⟩:∃p∈dl,¬(b≠p.1/\b≠p.2):=Classical.byContradiction λc=>hn λp hp=>Classical.byContradiction λz=>c (p,hp,z)
   let(s,n,ls,Q):=D p hp;let(s',n',ls',Q'):=f.d p hp;let h1:=il h Q.hd (λz=>nomatch z)
   let h2:=Classical.byContradiction λq=>z (h1,q)
   exact(_,by rw[h2];exact Q'.hl)
variable{G:List J}{j:Nat}
section
variable{K:BT}{dl:Dl}{H₀:Hp}{hs:List (V×T)}{σ:St}{q:Sq}{F:Nat->List J}
def Rel.modZ{put:T->T}(r:Rel K dl H₀ hs H σ q F)(hi:q[i]?=Z (.o t))(hv:σ[i]?=Z (Z v))(h2:ay K dl H w u Fu)(h3:(F i).Perm (Fu++G))(h4:∀H' u' Q,TF H H'->(∀b∈G,∀o,H b=Z o->H' b=Z o)->ay K dl H' w u' Q->∃F',ay K dl H' v (put u') F'/\F'.Perm (Q++G)):Rp K dl H w u Fu/\Fu.Nodup /\
  ∀H' u' Q,fN dl H Fu H'->Rp K dl H' w u' Q->Q.Nodup->(∀b∈Q,b∈Fu\/H b=Y)->∃F',Rel K dl H₀ hs H' σ (q.set i (.o (put u'))) F':=by
 let(v',av,rp):=r.g i _ t hi U;let(o1,o2,o3):=r.o i t hi;let nd:=(h3.nodup_iff.mp o1);let(n1,n2,n3):=Fj.mp nd;let P:∀b,b∈Fu\/b∈G->b∈F i:=λb hb=>h3.mem_iff.mpr (p7.mpr hb)
 refine((h2,λb hb=>rp.n b (P b (.inl hb))),n1,λH' u' Q f r' n' hF=>?_)
 let kG:=λb hb o e=>f.k b o e (λz=>n3 b z b hb U) (rp.n b (P b (.inr hb))) (.of (r.fF (P b (.inr hb))) e)
 let(F',q1,q2):=h4 H' u' Q (f.tf (λb hb=>h2.there b hb) r.d) kG r'.r
 let f2:fN dl H (F i) H':=(λb o e n=>f.k b o e λz=>n (P b (.inl z)),λb x e n=>f.r b x e λz=>n (P b (.inl z)),λb xs hb e=>(by
  by_cases z:b∈Fu
  ·exact f.l b xs z e
  ·exact(xs,f.k b _ e z (rp.n b hb) λ_ z=>nomatch z)),f.d)
 refine(_,r.S3 hi hv f2 (q1,λb hb=>?_) (q2.nodup_iff.mpr (Fj.mpr (n',n2,λx hx y hy e=>?_))) λb hb=>?_)
 ·obtain z|z:=p7.mp (q2.mem_iff.mp hb)
  ·exact r'.n b z
  ·exact rp.n b (P b (.inr z))
 ·subst e;obtain z|z:=hF x hx
  ·exact n3 x z x hy U
  ·exact(r.fF (P x (.inr hy))).no z
 ·obtain z|z:=p7.mp (q2.mem_iff.mp hb)
  ·obtain z|z:=hF b z
   ·exact .inl (P b (.inl z))
   ·exact .inr z
  ·exact .inl (P b (.inr z))
def Rel.mod(r:Rel K dl H₀ hs H σ q F)(hi:q[i]?=Z (.o t))(hu:T.sub p t=Z u):∃v w P,σ[i]?=Z (Z v)/\(∀H1,Evo dl H H1->VAt H1 p v w)/\Rp K dl H w u P/\P.Nodup /\
  ∀H' u' z,fN dl H P H'->Rp K dl H' w u' z->z.Nodup->(∀b∈z,b∈P\/H b=Y)->∃F',Rel K dl H₀ hs H' σ (q.set i (.o (T.put u' p t))) F':=by
 let(v,hv,rp):=r.g i _ t hi U;let(w,P,G,h1,h2,h3,h4):=rp.r.zip p hu;let(a,b,c):=r.modZ hi hv h2 h3 h4;let Q:∀b,b∈G->b∈F i:=λb V=>h3.mem_iff.mpr (p5 _ V)
 exact(v,w,P,hv,λH1 e=>h1 H1 λb V o eo=>e.k b o eo (rp.n b (Q b V)) (.of (r.fF (Q b V)) eo),a,b,c)
def RdR.part(rd:RdR K dl H σ q)(hj:q[j]?=Z (.o t))(hv:σ[j]?=Z (Z v))(hu:T.sub p t=Z u)(hw:VAt H p v w):∃P,Rp K dl H w u P:=by
 let(v',F,h1,Q):=rd.g j _ t hj U;rw[hv]at h1;cases h1;let(w',P,G,h1,h2,h3,_):=Q.r.zip p hu;cases hw.uniq (h1 H λ_ _ _ z=>z)
 exact(P,h2,λb hb=>Q.n b (h3.mem_iff.mpr (qF _ hb)))
end
abbrev QL:=Sq->(Way->T->Prop)->Prop
def Ud(K:BT)(j:Nat)(te:TE)(ql:QL):Prop:=∀(dl:Dl)(H:Hp)(σ:St)(q:Sq)(P:Way->T->Prop)(R:V->Hp->Prop),RdR K dl H σ q->ql q P ->
 (∀t v p u w,q[j]?=Z (.o t)->σ[j]?=Z (Z v)->T.sub p t=Z u->VAt H p v w->P p u->R w H)->te σ H R
structure QPL(X:Cx)(K:BT)(j:Nat)(e:Ev)(te:TE)(ql:QL):Prop where
 h:PE X e te
 s:Ud K j te ql
variable{x:Str}
section
variable{X:Cx}{K:BT}{a b e o:Ev}{te tb:TE}{ql:QL}{pos:Pos}{f:Str}{C:J}
def N4(j:Nat):QL:=λq P=>match q[j]? with
 |some (.o t)=>P [] t
 |_=>False
def aU(Q:X.N[j]?=Z x:=by rfl)(hv:Vis X.env.scope x:=by first|exact Or.inl rfl|exact Or.inr (Or.inl U)|exact Or.inr (Or.inr U))(hd:AS x:=by decide)
  (z:(x ==("__classdict__":Str))=false:=by decide):QPL X K j (.Name x pos) (bB j) (N4 j):=(wO Q hv hd z,λdl H σ q P R rd hq k=>by
 unfold N4 at hq
 split at hq
 ·rename_i t e;let(v,F,h1,h2):=rd.g j _ t e U;exact(v,h1,k t v [] t v e h1 U U hq)
 ·exact hq.elim)
inductive Uj(j i:Nat)(q:Sq)(P:Way->T->Prop):Prop
 |mk(x t p C ns ts)(h1:q[i]?=Z (.r (.rf x))\/q[i]?=Z (.o (.rf x)))(h2:q[j]?=Z (.o t))(h3:T.sub p t=Z (.om x C ns ts))(h4:P p (.om x C ns ts))
def R6(j i:Nat):QL:=λq P=>Uj j i q P
def cR(hN:X.N[i]?=Z x:=by rfl)(hv:Vis X.env.scope x:=by first|exact Or.inl rfl|exact Or.inr (Or.inl U)|exact Or.inr (Or.inr U))(hd:AS x:=by decide)
  (V:(x ==("__classdict__":Str))=false:=by decide):QPL X K j (.Name x pos) (bB i) (R6 j i):=(wO hN hv hd V,λdl H σ q P R rd hq k=>by
 let(x,t,p,C,ns,ts,hi,hj,hs,hp):=hq;let(v,F,h1,rp):=rd.g j _ t hj U;let(w,Fu,G,h2,h3,_,_):=rp.r.zip p hs;let(dx,vs,G',U,_):=h3.omm;let Q:σ[i]?=Z (Z (.ref x)):=by
  obtain hi|hi:=hi
  ·let(vi,Fi,e1,e2):=rd.g i _ _ hi U;let(U,_):=e2.r.rff;exact e1
  ·let(vi,Fi,e1,e2):=rd.g i _ _ hi U;let(U,_):=e2.r.rff;exact e1
 exact(_,Q,k t v p _ _ hj h1 hs (h2 H λ_ _ _ z=>z) hp))
def R7(C:J)(f:Str)(ql:QL):QL:=λq P=>ql q λp u=>match u with
 |.om _ g ns ts=>g=C/\∃x,(ns.zip ts).lookup f=Z x/\P (p ++ [.inl f]) x
 |_=>False
def bC(hc:Cls K C)(hn:bf K C f)(he:QPL X K j e te ql)(hb:attributeBase e f X.env (eval e X.env)=eval e X.env:=by rfl)(hK:X.K=K:=by rfl):QPL X K j (.Attribute e f pos) (ON K te f) (R7 C f ql) :=
 (by subst hK;exact Hy he.h hb,λdl H σ q P R rd hq k=>he.s dl H σ q _ _ rd hq λt v p u w hj hv hs hw g=>by
  split at g
  ·rename_i x C' ns ts;let(U,y,Q,g):=g;let(Fu,V):=rd.part hj hv hs hw;let(dx,vs,G,U,U,h1,h2,h3,h4):=V.r.omm;let(z,_,_,l1,_):=h4.fld Q;exact(x,_,dx,_,z,U,h1,hc,hn,l1,k t v _ y z hj hv (T.sub_snoc hs (by unfold T.sub;rw[Q];rfl)) (hw.snoc (show VAt H [.inl f] (.ref x) z from(x,_,dx,_,z,U,h1,l1,U))) g)
  ·exact g.elim)
def Ux(n:Int)(ql:QL):QL:=λq P=>ql q λp u=>match u with
 |.l xs=>∃m x,ixN xs.length n=Z m/\xs[m]?=Z x/\P (p ++ [.inr m]) x
 |_=>False
def N3{n:Int}(he:QPL X K j e te ql)(V:PE X b tb)(hn:∀σ H R,R (.int n) H->tb σ H R)(hs:gN b:=by intro _ _;rfl)(hK:X.K=K:=by rfl):QPL X K j (.Subscript e b pos) (tOp (rIx K) te tb) (Ux n ql) :=
 (by subst hK;exact oG sA he.h V hs,λdl H σ q P R rd hq k=>he.s dl H σ q _ _ rd hq λt v p u w hj hv hs hw g=>by
  split at g
  ·let(m,x,hm,hx,g):=g;let(Fu,Q):=rd.part hj hv hs hw;let(a,vs,G,U,U,h1,h2):=Q.r.lst;let(z,_,_,l1,_):=h2.itm hx;refine hn _ _ _ (.inl (a,vs,n,z,U,U,SqL.of h1,lJ (by rw[h2.len];exact hm) l1,k t v _ x z hj hv (T.sub_snoc hs (by unfold T.sub;rw[hx];rfl)) (hw.snoc (show VAt H [.inr m] (.ref a) z from(a,_,z,U,h1,l1,U))) g))
  ·exact g.elim)
def UA(ql:QL):QE:=λq Q=>ql q λ_ u=>Q u
def bO(he:QPL X K j e te ql):QPE X K e te (UA ql):=(he.h,λdl H σ q Q R rd hq k=>he.s dl H σ q _ _ rd hq λt v p u w hj hv hs hw z=>by
 let(P,g):=rd.part hj hv hs hw;exact k w u P H (.refl rd.d) g z)
def Uz(ql:QL):QE:=λq Q=>ql q λ_ u=>match u with
 |.om x _ _ _=>Q (.rf x)
 |_=>False
def O9(he:QPL X K j e te ql):QPF X K e te (Uz ql):=(he.h,λdl H σ q Q R rd hq k=>he.s dl H σ q _ _ rd hq λt v p u w hj hv hs hw g=>by
 split at g
 ·let(V,P):=rd.part hj hv hs hw;let(dx,vs,G,U,_):=P.r.omm;exact k _ _ [] H (.refl rd.d) (.rf _,b6) b6 k4 g
 ·exact g.elim)
end
def Ah{x b:J}{S:List J}(hx:x ∉ S)(g:b∈S):upd H x o b=H b:=aj λz=>hx (by rw[<- z];exact g)
def FA{x b:J}{S:List J}(hx:x∈S)(g:b ∉ S):upd H x o b=H b:=aj λz=>g (by rw[z];exact hx)
variable{H1:Hp}
def fN.Ai{dl:Dl}{x:J}(e:Evo dl H H1)(hx:x∈g)(hn:∀b∈g,Nd dl b)(hl:∀xs,H x=Z (.lst xs)->∃ys,o=.lst ys):fN dl H g (upd H1 x o) where
 k:=λb ob h nb n q=>by rw[FA hx nb];exact e.k b ob h n q
 r:=λb y h nb=>by rw[FA hx nb];exact e.r b y h
 l:=λb xs K h=>by
  by_cases z:b=x
  ·subst z;let(ys,U):=hl xs h;exact(ys,aw)
  ·exact(xs,by rw[aj z];exact e.k b _ h (hn b K) λ_ z=>nomatch z)
 d:=λp hp=>(e.d p hp).other (hn x hx p hp).1 (hn x hx p hp).2
section
variable{K:BT}{dl:Dl}
theorem Rp.eU{x C dx:J}(hu:Rp K dl H w (.om x C ns ts) (x::dx::G))(e:Evo dl H H1)(D:Dls dl H)(q:H1 x=Z (.ins C dx (ns.zip vs)))(hy:Rp K dl H1 y ty Fy)(nu:(x::dx::G).Nodup)(ny:Fy.Nodup)(fy:∀b∈Fy,H b=Y)(hv:vs.length=ns.length):
  ∃av,Rp K dl (upd H1 x (.ins C dx (L2.eU f y (ns.zip vs)))) w (.om x C (putN f ns) (eT f ty ns ts)) av/\av.Nodup/\∀b∈av,b∈x::dx::G\/H b=none:=by
 let aF:=hu.evo D e;let(aM,vs',G',U,eG,h1,h2,h3,h4):=aF.r.omm;injection eG with _ eG
 injection eG with e1 eG
 subst e1 eG;rw[q]at h1;injection h1 with h1
 injection h1 with _ _ h1
 let aK:=h4.len;obtain rfl:=zip_inj hv (aK.trans h3.symm) h1;let az:x≠dx:=λz=>(u3.mp nu).1 (by rw[z];exact jf)
 let Q:=λz=>(u3.mp nu).1 (j0 _ z)
 let P:TF H1 (upd H1 x (.ins C dx (L2.eU f y (ns.zip vs)))):=fN.tf (fN.Ai (.refl e.d) (jf) (λb g=>by rw[g5.mp g];exact hu.n x jf) (λxs h=>by rw[h]at q;cases q)) (λb g=>by rw[g5.mp g];exact(_,q,U)) e.d
 let th:=λb g=>hu.r.there b g
 let yx:=λb g z=>(th b z).no (fy b g)
 let ky:∀b∈Fy,∀o,H1 b=Z o->upd H1 x (.ins C dx (L2.eU f y (ns.zip vs))) b=Z o:=λb g o h=>by
  rw[aj λz=>yx b g (by rw[z];exact jf)];exact h
 let ry:=hy.r.cx P (λ_ z=>z) ky
 let hd2:upd H1 x (.ins C dx (L2.eU f y (ns.zip vs))) dx=Z (.own x):=by rw[aj az.symm];exact h2
 let aD:upd H1 x (.ins C dx (L2.eU f y (ns.zip vs))) x=Z (.ins C dx ((putN f ns).zip (eT f y ns vs))):=by rw[aw,JZ (by lia)]
 obtain⟨F',q1,q2,q3⟩:∃F',aq K dl (upd H1 x (.ins C dx (L2.eU f y (ns.zip vs)))) (eT f y ns vs) (eT f ty ns ts) F'/\F'.Nodup/\∀b∈F',b∈G\/b∈Fy:=by
  let nG:=(u3.mp (u3.mp nu).2).2;cases hl:(ns.zip ts).lookup f with
  |none =>
   refine(G++(Fy ++ []),aq.IY ry (h4.cx P (λ_ z=>z) λb g o h=>by rw[Ah Q g];exact h) h3 hl,?_,λb g=>?_)
   ·rw[tG];exact Fj.mpr (nG,ny,λa ha b g z=>yx b g (by rw[<- z];exact j0 _ (j0 _ ha)))
   ·rw[tG]at g;exact p7.mp g
  |some c =>
   let(w1,Fc,G1,_,_,a3,a4):=h4.fld hl;let(F',q1,q2):=a4 _ y ty Fy P (λb g o h=>by rw[Ah Q (a3.mem_iff.mpr (p5 _ g))];exact h) ry
   let n1:=(Fj.mp (a3.nodup_iff.mp nG)).2.1;refine(F',q1,q2.nodup_iff.mpr (Fj.mpr (ny,n1,λa ha b g z=>yx a ha (by rw[z];exact j0 _ (j0 _ (a3.mem_iff.mpr (p5 _ g)))))),λb g=>?_)
   obtain z|z:=p7.mp (q2.mem_iff.mp g)
   ·exact .inr z
   ·exact .inl (a3.mem_iff.mpr (p5 _ z))
 let out:∀b∈F',b≠x/\b≠dx:=λb g=>by
  obtain z|z:=q3 b g
  ·exact(λe=>Q (e▸z),λe=>(u3.mp (u3.mp nu).2).1 (e▸z))
  ·exact(λe=>yx b z (by rw[e];exact jf),λe=>yx b z (by rw[e];exact j0 _ jf))
 refine(x::dx::F',(.om aD hd2 (Cv (by omega)) q1,λb g=>?_),u3.mpr (λz=>?_,u3.mpr (λz=>(out dx z).2 U,q2)),λb g=>?_)
 ·obtain z|g:=kz.mp g
  ·rw[z];exact hu.n x jf
  ·obtain z|g:=kz.mp g
   ·rw[z];exact hu.n dx (j0 _ jf)
   ·obtain z|z:=q3 b g
    ·exact hu.n b (j0 _ (j0 _ z))
    ·exact hy.n b z
 ·obtain z|z:=kz.mp z
  ·exact az z
  ·exact(out x z).1 U
 ·obtain z|g:=kz.mp g
  ·rw[z];exact .inl jf
  ·obtain z|g:=kz.mp g
   ·rw[z];exact .inl (j0 _ jf)
   ·obtain z|z:=q3 b g
    ·exact .inl (j0 _ (j0 _ z))
    ·exact .inr (fy b z)
end
section
variable{X:Cx}{K:BT}{b o:Ev}{te tv:TE}{qv:QE}{ql:QL}{pos pos':Pos}{f:Str}{C:J}
def Sd(j:Nat)(C:J)(f:Str)(ql:QL)(qv:QE):QS:=λD q=>qv q λy=>ql q λp u=>match u with
 |.om x g ns ts=>g=C/\ns.length<1000/\Ex3 (λt=>q[j]?=Z (.o t)) (λt=>(q.set j (.o (T.put (.om x C (putN f ns) (eT f y ns ts)) p t)))) D.nx
 |_=>False
def dG(hc:Cls K C)(hn:bf K C f)(he:QPL X K j o te ql)(hv:QPF X K b tv qv)(hs:swapsWith b (Z (.Attribute o f pos')) pos.line X.env=pure false:=by rfl)(hK:X.K=K:=by rfl):
  QPS X K (.Assign [.Attribute o f pos'] b pos) (RM K te tv f) (Sd j C f ql qv):=(by subst hK;exact wD he.h hv.h hs,λdl H₀ hs H σ q Dq D (F,r) hq E=>by
 refine hv.s dl H σ q _ _ r.rd hq λy ty Fy H1 e1 r1 f1 n1 g=>(he.s dl H1 σ q _ _ (r.rd.evo e1) g λt v p u w hj az hs hw g=>?_)
 split at g
 ·rename_i x C' ns ts;let(U,hl,t',V,g):=g;rw[hj]at V;cases V;let(v2,w2,Fu,Q,av,ru,nu,md):=r.mod hj hs;rw[az]at Q;cases Q;cases hw.uniq (av H1 e1);let(dx,vs,G,U,U,h1,h2,h3,h4):=ru.r.omm;let aF:=h4.len;let P:=e1.k x _ h1 (ru.n x jf) (λ_ z=>nomatch z)
  let(aD,q1,q2,q3):=Rp.eU ru e1 r.d P r1 nu n1 f1 (by lia)
  let(F',r'):=md _ _ aD (fN.Ai e1 jf ru.n λxs h=>by rw[h]at h1;cases h1) q1 q2 q3
  exact(x,_,dx,_,U,P,hc,hn,by rw[NN];lia,E.nx _ σ _ (_,r') g)
 ·exact g.elim)
end
variable{l:J}{d:J}
section
variable{K:BT}{dl:Dl}
def Rp.putL(P:Rp K dl H w (.l xs) (l::G))(D:Dls dl H)(nu:(l::G).Nodup)(e:Evo dl H H1)(rs:aq K dl H1 ws ys q)(nG:∀b∈q,Nd dl b)(hn:q.Nodup)(hG:∀b∈q,b∈G\/H b=Y):
  Rp K dl (upd H1 l (.lst ws)) w (.l ys) (l::q)/\(l::q).Nodup/\(∀b∈l::q,b∈l::G\/H b=Y)/\fN dl H (l::G) (upd H1 l (.lst ws)):=by
 let(l',vs,G0,U,eG,h1,h2):=P.r.lst;injection eG with e1 eG
 subst e1 eG;let lG:l ∉ q:=λz=>by
  obtain z|z:=hG l z
  ·exact(u3.mp nu).1 z
  ·rw[h1]at z;cases z
 let av:=e.k l _ h1 (P.n l jf) (λ_ z=>nomatch z)
 let Q:=fN.tf (fN.Ai (.refl e.d) (jf) (λb g=>by rw[g5.mp g];exact P.n l jf) (λxs _=>(ws,U))) (λb g=>by rw[g5.mp g];exact(_,av,U)) e.d
 refine((.l aw (rs.cx Q (λ_ z=>z) λb g o h=>by rw[Ah lG g];exact h),λb g=>?_),u3.mpr (lG,hn),λb g=>?_,fN.Ai e jf P.n λxs _=>(ws,U))
 ·obtain z|z:=kz.mp g
  ·rw[z];exact P.n l jf
  ·exact nG b z
 ·obtain z|z:=kz.mp g
  ·rw[z];exact .inl jf
  ·exact(hG b z).imp (j0 _) id
def Rp.putD(q:Rp K dl H w (.d xs) (d::G))(D:Dls dl H)(e:Evo dl H H1)(rs:aI K dl H1 ws ys []):
  Rp K dl (upd H1 d (.dK ws)) w (.d ys) [d]/\fN dl H (d::G) (upd H1 d (.dK ws)):=by
 let(d',vs,G0,U,eG,h1,h2):=q.r.dic;injection eG with e1 eG
 subst e1 eG;let g:=e.k d _ h1 (q.n d jf) (λ_ z=>nomatch z)
 let Q:TF H1 (upd H1 d (.dK ws)):=fN.tf (fN.Ai (.refl e.d) (jf) (λb P=>by rw[g5.mp P];exact q.n d jf) (λxs h=>by rw[h]at g;cases g)) (λb P=>by rw[g5.mp P];exact(_,g,U)) e.d
 exact((.d aw (rs.cx Q (λ_ z=>z) b6),λb P=>by rw[g5.mp P];exact q.n d jf),fN.Ai e jf q.n λxs h=>by rw[h]at h1;cases h1)
end
section
variable{X:Cx}{K:BT}{a b e o:Ev}{te tk tv:TE}{qk qv:QE}{ql:QL}{pos pos' apos aP dm FF:Pos}{f:Str}{C:J}
def SD(j:Nat)(C:J)(f:Str)(ql:QL)(qv:QE):QS:=λD q=>ql q λp u=>match u with
 |.om x g ns ts=>g=C/\ns.length<1000/\∃n,(ns.zip ts).lookup f=Z (.i n)/\qv q λy=>match y with
  |.i m=>Ex3 (λt=>q[j]?=Z (.o t)) (λt=>(q.set j (.o (T.put (.om x C (putN f ns) (eT f (.i (n+m)) ns ts)) p t)))) D.nx
  |_=>False
 |_=>False
def wq(hc:Cls K C)(hn:bf K C f)(aD:Rh X .Add O5)(he:QPL X K j o te ql)(hv:QPE X K b tv qv)(hK:X.K=K:=by rfl):
  QPS X K (.AugAssign (.Attribute o f FF) .Add b pos) (Cg K te tv O5 f) (SD j C f ql qv):=(by subst hK;exact Ei he.h hv.h aD,λdl H₀ hs H σ q Dq D (F,r) hq E=>by
 refine he.s dl H σ q _ _ r.rd hq λt v p u w hj az hs hw g=>?_
 split at g
 ·rename_i x C' ns ts;let(U,hl,n,aF,g):=g;let(v2,w2,Fu,Q,av,ru,nu,md):=r.mod hj hs;rw[az]at Q;cases Q;cases hw.uniq (av H (.refl r.d));let(dx,vs,G,U,U,h1,h2,h3,h4):=ru.r.omm;let(w1,_,_,l1,l2,_):=h4.fld aF;let(U,_):=l2.int;refine(x,_,dx,_,_,U,h1,hc,hn,l1,hv.s dl H σ q _ _ r.rd g λy ty Fy H1 e1 r1 g=>?_)
  split at g
  ·rename_i m;let(t',V,g):=g;rw[hj]at V;cases V;let(U,U):=r1.r.int;let aM:=h4.len;let P:=e1.k x _ h1 (ru.n x jf) (λ_ z=>nomatch z)
   let(aK,q1,q2,q3):=Rp.eU ru e1 r.d P (.i _,b6) nu k4 b6 (by lia)
   let(F',r'):=md _ _ aK (fN.Ai e1 jf ru.n λxs h=>by rw[h]at h1;cases h1) q1 q2 q3
   exact(n,m,U,U,dx,_,P,by rw[NN];lia,E.nx _ σ _ (_,r') g)
  ·exact g.elim
 ·exact g.elim)
def SE(j:Nat)(ql:QL)(qv:QE):QS:=λD q=>ql q λp u=>match u with
 |.l xs=>xs.length<mu/\qv q λy=>Ex3 (λt=>q[j]?=Z (.o t)) (λt=>(q.set j (.o (T.put (.l (xs ++ [y])) p t)))) D.nx
 |_=>False
def K6(he:QPL X K j o te ql)(hv:QPF X K e tv qv)(hK:X.K=K:=by rfl)(cB:attributeBase o "append" X.env (eval o X.env)=eval o X.env:=by rfl)
  (i6:At X aP [e]:=by rfl)
  (cA:(apos.endLine==aP.line)=true:=by rfl) (hs:AC X e []:=by rfl) (cG:(backTo aP (kh [] X.env)).any (·.1)=false:=by rfl)
  (aK:swapsWith (.Call (.Attribute o "append" apos) [e] [] aP) Y dm.line X.env=pure false:=by rfl):
  QPS X K (.Expr (.Call (.Attribute o "append" apos) [e] [] aP) dm) (fO (tBM K "list" mh te (dh tv f6))) (SE j ql qv) :=
 (fi (by subst hK;exact rX PySem.F.plainAttrs_list PySem.F.slot_list_append PySem.F.type_list_append vd he.h (bN hv.h eh hs) cB i6 cA hs cG) aK,λdl H₀ hs H σ q Dq D (F,r) hq E=>by
 refine he.s dl H σ q _ _ r.rd hq λt v p u w hj aF hs hw g=>?_
 split at g
 ·let(hl,g):=g;let(v2,w2,Fu,Q,aD,ru,nu,md):=r.mod hj hs;rw[aF]at Q;cases Q;cases hw.uniq (aD H (.refl r.d));let(l,vs,G,U,U,h1,h2):=ru.r.lst;refine(.inl (U,vs,SqL.of h1),hv.s dl H σ q _ _ r.rd g λy ty Fy H1 e1 r1 f1 n1 g=>?_)
  let(t',V,g):=g;rw[hj]at V;cases V;let az:=ru.evo r.d e1;let(l',vs',G',el,eG,av,aM):=az.r.lst;cases eG;let e0:=e1.k l _ h1 (ru.n l jf) (λ_ z=>nomatch z)
  rw[e0]at av;cases av;let(q1,q2,q3,q4):=Rp.putL ru r.d nu e1 (aM.append (.cons r1.r .nil)) (λb P=>by
   rw[tG]at P;obtain z|z:=p7.mp P
   ·exact ru.n b (j0 _ z)
   ·exact r1.n b z) (by
   rw[tG];exact Fj.mpr ((u3.mp nu).2,n1,λa ha b P z=>(ru.r.there a (j0 _ ha)).no (f1 a (by rw[z];exact P)))) (λb P=>by
   rw[tG]at P;obtain z|z:=p7.mp P
   ·exact .inl z
   ·exact .inr (f1 b z))
  let(F',r'):=md _ _ _ q4 q1 q2 q3;exact(l,_,y,U,U,e0,by rw[h2.len];exact hl,E.nx _ σ _ (_,r') g)
 ·exact g.elim)
def Sg(j:Nat)(ql:QL):QS:=λD q=>ql q λp u=>match u with
 |.l xs=>xs ≠ []/\Ex3 (λt=>q[j]?=Z (.o t)) (λt=>(q.set j (.o (T.put (.l xs.dropLast) p t)))) D.nx
 |_=>False
def K3(he:QPL X K j o te ql)(hK:X.K=K:=by rfl)(cB:attributeBase o "pop" X.env (eval o X.env)=eval o X.env:=by rfl)(cA:(apos.endLine==aP.line)=true:=by rfl)
  (av:swapsWith (.Call (.Attribute o "pop" apos) [] [] aP) Y dm.line X.env=pure false:=by rfl):
  QPS X K (.Expr (.Call (.Attribute o "pop" apos) [] [] aP) dm) (fO (DV K "list" KP te)) (Sg j ql) :=
 (fi (by subst hK;exact wU PySem.F.plainAttrs_list PySem.F.slot_list_pop PySem.F.type_list_pop Bm he.h cB cA) av,λdl H₀ hs H σ q Dq D (F,r) hq E=>by
 refine he.s dl H σ q _ _ r.rd hq λt v p u w hj V hs hw g=>?_
 split at g
 ·rename_i xs;let(hl,t',P,g):=g;rw[hj]at P;cases P;let(v2,w2,Fu,z,Q,ru,nu,md):=r.mod hj hs;rw[V]at z;cases z;cases hw.uniq (Q H (.refl r.d));let(l,vs,G,U,U,h1,h2):=ru.r.lst;let hlen:=h2.len;let VZ:0<vs.length:=by rw[hlen];exact Wi.mpr hl
  let(G',g1,g2):=h2.take (xs.length - 1);rw[<- XN,<- hlen,<- XN]at g1;let(q1,q2,q3,q4):=Rp.putL ru r.d nu (.refl r.d) g1 (λb hb=>ru.n b (j0 _ (g2.subset hb))) (g2.nodup (u3.mp nu).2) (λb hb=>.inl (g2.subset hb))
  let(F',r'):=md _ _ _ q4 q1 q2 q3;exact(.inl (U,vs,SqL.of h1),l,vs,vs[vs.length - 1],U,U,h1,eO (by omega),E.nx _ σ _ (_,r') g)
 ·exact g.elim)
def Sf(j:Nat)(ql:QL)(qk qv:QE):QS:=λD q=>qv q λy=>ql q λp u=>match u with
 |.d xs=>qk q λz=>match z.key with
  |some k=>xs.length<mu/\T.imk xs=O/\y.im=O/\Ex3 (λt=>q[j]?=Z (.o t)) (λt=>(q.set j (.o (T.put (.d (cF xs k y)) p t)))) D.nx
  |none=>False
 |_=>False
def K0(hu:X.A.units+1<cLine)(he:QPL X K j o te ql)(hk:QPE X K a tk qk)(hv:QPE X K b tv qv)(hs:swapsWith b (Z (.Subscript o a pos')) pos.line X.env=pure false:=by rfl):
  QPS X K (.Assign [.Subscript o a pos'] b pos) (rn te tk tv) (Sf j ql qk qv):=(iS hu he.h hk.h hv.h hs,λdl H₀ hs H σ q Dq D (F,r) hq E=>by
 refine hv.s dl H σ q _ _ r.rd hq λy ty Fy H1 e1 r1 g=>(he.s dl H1 σ q _ _ (r.rd.evo e1) g λt v p u w hj aD hs hw g=>?_)
 split at g
 ·refine hk.s dl H1 σ q _ _ (r.rd.evo e1) g λz tz Fz H2 e2 r2 g=>?_
  split at g
  ·rename_i k ek;let(hl,im1,av,t',V,g):=g;rw[hj]at V;cases V;let(v2,w2,Fu,Q,az,ru,nu,md):=r.mod hj hs;rw[aD]at Q;cases Q;cases hw.uniq (az H1 e1);obtain rfl:=r1.r.im av;let P:=e1.trans e2;let(d,vs,G,U,U,h1,h2):=ru.r.dic;obtain rfl:=h2.im im1;let aF:=P.k d _ h1 (ru.n d jf) (λ_ z=>nomatch z)
   rw[r2.r.key ek];let(q1,q2):=Rp.putD ru r.d P (aI.put (r1.evo e1.d e2).r (h2.cx (P.tf r.d) (λ_ z=>z) b6))
   let(F',r'):=md _ _ _ q2 q1 (by simp) (λb hb=>by rw[g5.mp hb];exact .inl jf)
   exact(d,_,U,pN.k aF (by rw[h2.len];exact hl),E.nx _ σ _ (_,r') g)
  ·exact g.elim
 ·exact g.elim)
def R9(j:Nat)(ql:QL)(qv:QE):QS:=λD q=>ql q λp u=>match u with
 |.d xs=>qv q λy=>match y with
  |.l ys=>T.imk xs=O/\T.ims ys=O/\∃kts t,fe ys=Z kts/\xs.length+kts.length<=mu/\q[j]?=Z (.o t)/\D.nx (q.set j (.o (T.put (.d (aO xs kts)) p t)))
  |_=>False
 |_=>False
def KS(hc:X.calm=O)(he:QPL X K j o te ql)(hv:QPF X K e tv qv)(hK:X.K=K:=by rfl)(cB:attributeBase o "update" X.env (eval o X.env)=eval o X.env:=by rfl)
  (i6:At X aP [e]:=by rfl)
  (cA:(apos.endLine==aP.line)=true:=by rfl) (hs:AC X e []:=by rfl) (cG:(backTo aP (kh [] X.env)).any (·.1)=false:=by rfl)
  (aD:swapsWith (.Call (.Attribute o "update" apos) [e] [] aP) Y dm.line X.env=pure false:=by rfl):
  QPS X K (.Expr (.Call (.Attribute o "update" apos) [e] [] aP) dm) (fO (tBM K "dict" N2 te (dh tv f6))) (R9 j ql qv) :=
 (fi (by subst hK;exact rX PySem.F.plainAttrs_dict PySem.F.slot_dict_update PySem.F.type_dict_update (Ie hc) he.h (bN hv.h eh hs) cB i6 cA hs cG) aD,λdl H₀ hs H σ q Dq D (F,r) hq E=>by
 refine he.s dl H σ q _ _ r.rd hq λt v p u w hj az hs hw g=>?_
 split at g
 ·let(v2,w2,Fu,P,av,ru,nu,md):=r.mod hj hs;rw[az]at P;cases P;cases hw.uniq (av H (.refl r.d));let(d,vs,G,U,U,h1,h2):=ru.r.dic;refine(.inr (.inr (.inl (U,.inl (_,h1)))),hv.s dl H σ q _ _ r.rd g λy ty Fy H1 e1 r1 f1 n1 g=>?_)
  split at g
  ·let(im1,V,kts,t',ek,hl,Q,g):=g;rw[hj]at Q;cases Q;obtain rfl:=h2.im im1;let aK:=e1.k d _ h1 (ru.n d jf) (λ_ z=>nomatch z)
   let aF:=h2.cx (e1.tf r.d) (λ_ z=>z) b6
   let(p2,ws,G2,U,aM,h3,h4):=r1.r.lst;obtain rfl:=h4.im V;let(ps,more,U,hlen,ht,hk):=h4.pairs U ek;let(q1,q2):=Rp.putD ru r.d e1 (aI.aO (kvs':=[]) (kts':=[]) hk U aF);let(F',r'):=md _ _ _ q2 q1 (by simp) (λb hb=>by rw[g5.mp hb];exact .inl jf)
   exact(d,p2,ps,vs,more,U,U,aK,h3,hlen,ht,by rw[h2.len,hk.len];exact hl,E.nx _ σ _ (_,r') g)
  ·exact g.elim
 ·exact g.elim)
end
def fN.pre{dl:Dl}(e:Evo dl H H1)(f:fN dl H1 F H')(hn:∀b∈F,Nd dl b):fN dl H F H' where
 k:=λb o h nb n g=>f.k b o (e.k b o h n g) nb n g
 r:=λb x h nb=>let(y,P,V):=e.r b x h;let(z,K,Q):=f.r b y V nb;(z,Wc K P,Q)
 l:=λb xs q h=>f.l b xs q (e.k b _ h (hn b q) λ_ z=>nomatch z)
 d:=f.d
variable{n:Nat}{H₀:Hp}{q:Sq}
section
variable{X:Cx}{K:BT}{k:Nat}{b e o:Ev}{es:List Ev}{to:TE}{qo:QE}{tl:TA}{qa:QA}{ql:QL}{pos pos' apos dm:Pos}{m:Str}{C f:J}{fd:Ch}{prs:List Str}{ps:PSp}{pl:uE}
def A1(C:J)(m:Str)(ps:PSp)(qo:QE)(qa:QA):QE:=λq Q=>qo q λt=>match t with
 |.om x g ns ts=>g=C/\(ns.zip ts).lookup m=Y/\qa q λus=>ps (.om x g ns ts::us) Q
 |_=>False
def uP(ho:gE K to qo)(ha:zV K n tl qa):ka K (lT C m (spQ K ps) [] E0 to tl) (A1 C m ps qo qa):=λdl H σ q Q R rd hq kk=>ho dl H σ q _ _ rd hq λw t Fu H1 V r1 g=>by
 split at g
 ·rename_i x C' ns ts;let(U,hl,g):=g;let(dx,vs,G,U,U,h1,h2,h3,h4):=r1.r.omm;refine(x,dx,_,U,h1,(Im h4.len).mp hl,ha dl H1 σ q _ _ (rd.evo V) g λws us Fa H2 P r2 _ g=>?_)
  rw[tG];let z:=r1.evo V.d P;refine(dl,_,_,_,P.d,(.cons z.r r2.r,λb hb=>(p7.mp hb).elim (z.n b) (r2.n b)),g,λv t F' H' e3 r3 f3 n3 g=>kk v t F' H' ((V.trans P).trans e3) r3 (λb hb=>(V.trans P).free (f3 b hb)) n3 g)
 ·exact g.elim
def yE(V:Cls K C)(hm:Meth K C m f)(G:bb X.prog X.w X.K X.mg X.base CX0 k f fd prs (spQ K ps))(hr:cu k X.A)(hb:Binds K fd prs [])(ho:QPE X K o to qo)(ha:QPA X K (e::es) tl qa)(hK:X.K=K:=by rfl)
  {g:Sem Bool} (q:AC X e es:=by rfl) (z:AM X pos es:=by rfl)
  (Q:eval (.Call (.Attribute o m apos) (e::es) [] pos) X.env=(do
   let P <- eval o X.env
   standAt apos.atName
   let(f,first) <- holding [P] (getMethod P m g)
   callWith pos f first (backTo pos (kh (e::es) X.env)) (backToKw pos (keywordEach [] X.env))):=by rfl):
  QPF X K (.Call (.Attribute o m apos) (e::es) [] pos) (lT C m (spQ K ps) [] E0 to tl) (A1 C m ps qo qa):=(by subst hK;exact CB ho.h V hm G hr hb .nil kN ha.h q z Q,uP ho.s ha.s)
def qS:zV K 0 f6 (λ_ Q=>Q []):=λdl H σ q Q R rd hq g=>g [] [] [] H (.refl rd.d) (.nil,b6) U hq
def ie(P:Cls K C)(hm:Meth K C m f)(G:bb X.prog X.w X.K X.mg X.base CX0 k f fd prs (spQ K ps))(hr:cu k X.A)(V:Binds K fd prs [])(ho:QPE X K o to qo)(hK:X.K=K:=by rfl)
  {g:Sem Bool} (z:eval (.Call (.Attribute o m apos) [] [] pos) X.env=(do
   let q <- eval o X.env
   standAt apos.atName
   let(f,first) <- holding [q] (getMethod q m g)
   callWith pos f first (backTo pos (kh [] X.env)) (backToKw pos (keywordEach [] X.env))):=by rfl):
  QPF X K (.Call (.Attribute o m apos) [] [] pos) (lT C m (spQ K ps) [] E0 to f6) (A1 C m ps qo λ_ Q=>Q []):=(by subst hK;exact rT ho.h P hm G hr V .nil kN z,uP ho.s qS)
def wz(j:Nat)(C:J)(m:Str)(pl:uE)(ql:QL)(qa:QA)(q:Sq)(R:T->Sq->Prop):Prop:=ql q λp u=>match u with
 |.om x g ns ts=>g=C/\(ns.zip ts).lookup m=Y/\qa q λus=>T.ims us=O/\pl (.om x g ns ts::us) λr u'=>u'.adr=Z x/\r.im=O/\Ex3 (λt=>q[j]?=Z (.o t)) (λt=>q.set j (.o (T.put u' p t))) (R r)
 |_=>False
def nA{dl:Dl}(ho:Ud K j to ql)(ha:zV K n tl qa)(hr:fU K dl H₀ hs H σ q)(hq:wz j C m pl ql qa q R)
  (kk:∀v r q' H',fU K dl H₀ hs H' σ q'->Rp K dl H' v r []->R r q'->Q v H'):lT C m (spL K 0 pl) [] E0 to tl σ H Q:=by
 let(F,r):=hr;refine ho dl H σ q _ _ r.rd hq λt v p u w hj hv aF hw g=>?_
 split at g
 ·rename_i x C' ns ts;let(U,hl,g):=g;let(v2,w2,Fu,P,aD,ru,nu,md):=r.mod hj aF;rw[hv]at P;cases P;cases hw.uniq (aD H (.refl r.d));let(dx,vs,G,U,eF,h1,h2,h3,h4):=ru.r.omm;refine(x,dx,_,U,h1,(Im h4.len).mp hl,ha dl H σ q _ _ r.rd g λws us Fa H2 e2 r2 _ g=>?_)
  let(aK,g):=g;rw[tG];refine(dl,_,.ref x,.om x C' ns ts,Fu,_,e2.d,by rw[rl,rl,r2.r.len],U,U,ru.evo r.d e2,nu,.im λi v t ne a1 a2=>?_,g,λv rr Fr t' F' H' uu az n' aM rv _ _ _ g=>?_)
  ·cases i with
   |zero=>exact absurd U ne
   |succ i=>exact(r2.r.im1 aK i v t (by simpa using a1) (by simpa using a2),b6)
  ·let(_,ri,t0,av,g):=g;rw[hj]at av;cases av;let(F2,r'):=md H' t' F' (uu.pre e2 ru.n) az n' λb hb=>(aM b hb).imp id e2.free
   obtain rfl:=rv.r.im ri;exact kk v rr _ H' (F2,r') rv g
 ·exact g.elim
def cz(hc:Cls K C)(hm:Meth K C m f)(G:bb X.prog X.w X.K X.mg X.base CX0 k f fd prs (spL K 0 pl))(hr:cu k X.A)(hb:Binds K fd prs [])(ho:QPL X K j o to ql)(ha:QPA X K (e::es) tl qa)(hK:X.K=K:=by rfl)
  {g:Sem Bool} (z:AC X e es:=by rfl) (P:AM X pos es:=by rfl)
  (ht:eval (.Call (.Attribute o m apos) (e::es) [] pos) X.env=(do
   let Q <- eval o X.env
   standAt apos.atName
   let(f,first) <- holding [Q] (getMethod Q m g)
   callWith pos f first (backTo pos (kh (e::es) X.env)) (backToKw pos (keywordEach [] X.env))):=by rfl) (hs:swapsWith (.Call (.Attribute o m apos) (e::es) [] pos) Y dm.line X.env=pure false:=by rfl):
  QPS X K (.Expr (.Call (.Attribute o m apos) (e::es) [] pos) dm) (fO (lT C m (spL K 0 pl) [] E0 to tl)) (λD q=>wz j C m pl ql qa q λ_ q'=>D.nx q') :=
 (fi (by subst hK;exact CB ho.h hc hm G hr hb .nil kN ha.h z P ht) hs,λdl H₀ hs H σ q Dq D r hq E=>nA ho.s ha.s r hq λv rr q' H' V _ hz=>E.nx H' σ q' V hz)
def Ee(hc:Cls K C)(hm:Meth K C m f)(G:bb X.prog X.w X.K X.mg X.base CX0 k f fd prs (spL K 0 pl))(hr:cu k X.A)(hb:Binds K fd prs [])(ho:QPL X K j o to ql)(hK:X.K=K:=by rfl)
  {g:Sem Bool} (ht:eval (.Call (.Attribute o m apos) [] [] pos) X.env=(do
   let z <- eval o X.env
   standAt apos.atName
   let(f,first) <- holding [z] (getMethod z m g)
   callWith pos f first (backTo pos (kh [] X.env)) (backToKw pos (keywordEach [] X.env))):=by rfl) (hs:swapsWith (.Call (.Attribute o m apos) [] [] pos) Y dm.line X.env=pure false:=by rfl):
  QPS X K (.Expr (.Call (.Attribute o m apos) [] [] pos) dm) (fO (lT C m (spL K 0 pl) [] E0 to f6)) (λD q=>wz j C m pl ql (λ_ Q=>Q []) q λ_ q'=>D.nx q') :=
 (fi (by subst hK;exact rT ho.h hc hm G hr hb .nil kN ht) hs,λdl H₀ hs H σ q Dq D r hq E=>nA ho.s qS r hq λv rr q' H' P _ V=>E.nx H' σ q' P V)
def aq.each{dl:Dl}{vs:List V}(h:aq K dl H vs ts F):∃G:Nat->List J,(∀i v t,vs[i]?=Z v->ts[i]?=Z t->ay K dl H v t (G i)/\∀b∈G i,b∈F)/\∀i,ts.length<=i->G i=[] :=
 h.ind (λ_=>[],λi v t h=>by simp at h,λ_ _=>rfl) λv x vs ts z P r _ q=>by
  let(G,g1,g2):=q;refine(λi=>match i with | 0=>z|i+1=>G i,λi w t h1 h2=>?_,λi hi=>?_)
  ·cases i with
   |zero=>cases h1;cases h2;exact(r,λb g=>qF _ g)
   |succ i=>exact((g1 i w t (by simpa using h1) (by simpa using h2)).1,λb g=>p5 _ ((g1 i w t (by simpa using h1) (by simpa using h2)).2 b g))
  ·cases i with
   |zero=>simp at hi
   |succ i=>exact g2 i (by simpa using hi)
def GZ(C:J)(pl:uE)(qa:QA):QE:=λq Q=>qa q λus=>∀x,pl (.om x C [] []::us) λr u'=>r=.n/\u'.adr=Z x/\Q u'
def D4(ha:zV K n tl qa):ka K (FN C (spL K 0 pl) [] E0 tl) (GZ C pl qa):=λdl H σ q Q R rd hq kk=>ha dl H σ q _ _ rd hq λws us Fa H1 g r1 _ hz=>by
 intro x dx nx P ne;rw[tG];let e2:Evo dl H1 (upd (upd H1 dx (.own x)) x (.ins C dx [])):=((Evo.refl g.d).new P).new (by rw[aj ne.symm];exact nx)
 let r2:=r1.evo g.d e2;let ro:Rp K dl (upd (upd H1 dx (.own x)) x (.ins C dx [])) (.ref x) (.om x C [] []) [x,dx]:=(.om aw (by rw[aj ne,aw]) U .nil,λb V=>by
  obtain z|z:=kz.mp V
  ·rw[z];exact g.d.nd0 nx
  ·rw[g5.mp z];exact g.d.nd0 P)
 refine(dl,_,.ref x,.om x C [] [],[x,dx],_,e2.d,by rw[rl,rl,r2.r.len],U,U,ro,by simp[ne.symm],?_,hz x,λv rr Fr t' F' H' uu av n' az rv _ _ _ hz=>?_)
 ·let(G,g1,g2):=r1.r.each;refine(λi=>match i with | 0=>[]|i+1=>G i,λi v t hi a1 a2=>?_,λi hi=>?_)
  ·cases i with
   |zero=>exact absurd U hi
   |succ i =>
    let(p1,p2):=g1 i v t (by simpa using a1) (by simpa using a2)
    let rp:Rp K dl H1 v t (G i):=(p1,λb V=>r1.n b (p2 b V))
    refine(rp.evo g.d e2,λb V z=>?_)
    let th:=p1.there b V;obtain z|z:=kz.mp z
    ·rw[z]at th;exact th.no nx
    ·rw[g5.mp z]at th;exact th.no P
  ·cases i with
   |zero=>rfl
   |succ i=>exact g2 i (by simpa using hi)
 ·let(U,_,hz):=hz;let(U,_):=rv.r.non;let out:∀{b:J}{o:HO},H b=Z o->b ∉ [x,dx]:=λ{b o} h z=>by
   obtain z|z:=kz.mp z
   ·rw[z,g.free nx]at h;cases h
   ·rw[g5.mp z,g.free P]at h;cases h
  let ev:Evo dl H H':=(λb o h n nr=>uu.k b o (e2.k b o (g.k b o h n nr) n nr) (out h) n nr,uu.d,λb y h=>let(y1,l1,h1):=(g.trans e2).r b y h;let(y2,l2,h2):=uu.r b y1 h1 (out h);(y2,Wc l2 l1,h2))
  refine(U,kk _ t' F' H' ev av (λb V=>?_) n' hz)
  obtain z|z:=az b V
  ·obtain z|z:=kz.mp z
   ·rw[z];exact g.free nx
   ·rw[g5.mp z];exact g.free P
  ·exact(g.trans e2).free z
def mv(M:Mk K C f)(G:bb X.prog X.w X.K X.mg X.base CX0 k f fd prs (spL K 0 pl))(hr:cu (k+1) X.A)(hg:Gl X x)(hm:X.mg x=Z (.ref C))(P:Binds K fd prs [])(ha:QPA X K (e::es) tl qa)(Q:X.K=K:=by rfl)
  (z:AS x:=by decide) (g:AC X e es:=by rfl) (q:AM X pos es:=by rfl):
  QPF X K (.Call (.Name x pos') (e::es) [] pos) (FN C (spL K 0 pl) [] E0 tl) (GZ C pl qa):=(by subst Q;exact LU M G hr hg hm P .nil kN ha.h z g q,D4 ha.s)
end
end L2
namespace PySem
open Sem (wp)
section
variable{prog:Da}{w:Cl}{A:Db}{E:B->ϋ->Prop}
def uv:typeLookup (.type "zip") "keys"=pure none:=am_miss_of_fast (by decide +kernel)
def kH:typeLookup (.type "zip") "__getattr__"=pure none:=by kernel_rfl
def gD:entryFor table "zip.__getattribute__"=Z Builtin.«object.__getattribute__» :=
 entryFor_alias (id':="object.__getattribute__") (by kernel_rfl) (by decide +kernel) (by decide +kernel) (by kernel_rfl)
def sf(a:J)(vs:Array B)(sl:Array (Option B))(u:Tok):
  Meets (Builtin.«object.__getattribute__» ([.ref a,.str "keys" u],[])) (λA R s=>s.heap.get? a=Z {cls:=.type "zip",dict:=Y,data:=.fields vs,slots:=sl}/\raisesAttr (.ref a) "keys" A R s) :=
 Meets.of_wp λprog w A R s hs=>by
  let(hp,g,d,tk,os):=s;let(hx,hs):=hs;let hT:((hp,g,d,tk,os):ϋ).TypeIs (.ref a) "zip":=(_,hx,U);let q:=uv;unfold Builtin.«object.__getattribute__»
  repeat (any_goals (first|assumption|wp_step))
  exact wpAny_raiseAttrError hs.1 hs.2 (attrMsg_fits (by decide +kernel) (by size_fits))
set_option maxRecDepth 8000 in
theorem uw{s:ϋ}{a:J}{vs:Array B}{sl:Array (Option B)}{Q:Option B->ϋ->Prop}
  (hx:s.heap.get? a=Z {cls:=.type "zip",dict:=Y,data:=.fields vs,slots:=sl}) (K:A.handled=Y)
  (h:∀h' tk,(∀b o,s.heap.get? b=Z o->h'.get? b=Z o)->Q Y {s with heap:=h',toks:=tk}):
  wpAny (model prog w) A (getAttr? (.ref a) "keys") Q E s:=by
 let(hp,g,d,tk,os):=s;let hT:∀q,((hp,g,d,q,os):ϋ).TypeIs (.ref a) "zip":=λ_=>(_,hx,U)
 let f1:=sub_AttributeError;let V:=F.slot_zip_getattribute.lookup;let f4:=F.slot_zip_getattribute.bind (.ref a);let P:=kH;unfold getAttr? getAttrBy? getAttrBy
 repeat (any_goals (first|assumption|exact hT _|((with_reducible show wpAny _ _ (call (B.builtin "zip.__getattribute__") _ _) _ _ _);refine call_meets F.slot_zip_getattribute (hT _) gD (F.args_zip_getattribute_2 _ _) (sf a vs sl _) (hx,K,λh' q e z=>?_))|wp_step))
 let(t',u',he):=z.there;show wpAny _ _ (getattributeRaised _ _ _ _ _ _ _) _ _ _;unfold getattributeRaised
 repeat (any_goals (first|assumption|wp_step))
 exact h _ _ z.keeps
end
end PySem
namespace L2
open PySem PySem.Spec PyProof.Rows
variable{R:Result->ϋ->Prop}{S:J}{z:J}{i1:J}{i2:J}{l1:J}{l2:J}{xs:Array B}{ys:Array B}{n:Nat}
section
variable{prog:Da}{w:Cl}{A:Db}{s:ϋ}{κ:Type}[DecidableEq κ]{knd:KeyKind prog w κ}
def J2{TI TO:J}{t1 t2:Bool}{pairs:List (κ×B)}(hh:A.handled=Y)(D:ZipApart z TI TO i1 i2 l1 l2)(Q:z≠S)(xp:TI≠S)(n6:TO≠S)(az:i1≠S)(av:i2≠S)(xo:l1≠S)(xn:l2≠S)
  (en:n=min xs.size ys.size) (hn:n<=mu) (aN:pairs.length=n) (aM:∀(i:Nat) x y,xs[i]?=Z x->ys[i]?=Z y->∃k,pairs[i]?=Z (k,y)/\knd.is k x=O) (res:B) {h₁:Do}
  (hR:∀h' tk,(∀b o,b≠S->b≠z->b≠TO->b≠i1->b≠i2->h₁.get? b=Z o->h'.get? b=Z o)->h'.DictOf knd S (merged [] pairs)->R (.ok (.ret res)) {s with heap:=h',toks:=tk}):
  ∀(k i:Nat)(h:Do)(tk:Nat),n - i=k->i<=n->ZSt h z TI TO i1 i2 l1 l2 S t1 t2 i->a9 h t1 l1 xs->a9 h t2 l2 ys->(∀b o,b≠S->b≠z->b≠TO->b≠i1->b≠i2->h₁.get? b=Z o->h.get? b=Z o) ->
   h.DictOf knd S (merged [] (pairs.take i))->codeAny (model prog w) A (.builtin "dict.update.loop" ([.ref S,.ref z,rawInt i,res],[])) R {s with heap:=h,toks:=tk}:=by
 intro k
 induction k with
 |zero =>
  intro i h tk hk hi V P K sF hS;let a4:i=n:=by omega
  refine U7 PySem.F.bT ?_;refine dD (BV hh D V P K ?_ λh' he=>?_)
  ·by_cases q:xs.size<=i
   ·exact .inl (Wk q)
   ·exact .inr (Wk (by omega))
  refine dD (kL (kL (hR h' tk (λb o b1 b2 b3 b4 b5 e=>he b o b2 b3 b4 b5 (sF b o b1 b2 b3 b4 b5 e)) ?_)))
  rw[a4,<- aN,tI]at hS;let(o,es,ep,ho,r):=hS;exact(o,es,ep,he S o Q.symm n6.symm az.symm av.symm ho,r)
 |succ k ih =>
  intro i h tk hk hi V P K sF hS;let aD:=WI hk;let hm:=Yx.mp (en▸aD);let hx:=RK hm.1;let hy:=RK hm.2;let(key,a3,aP):=aM i _ _ hx hy;let Vu:S<h.objs.size:=by let(_,_,_,e,_):=hS;exact kS e
  refine U7 PySem.F.bT ?_;refine dD (BU D V Vu P K hx hy λh' ux ht hz g=>?_)
  let a5:h'.DictOf knd S (merged [] (pairs.take i)):=by
   let(o,es,ep,ho,r):=hS;exact(o,es,ep,g S o Q.symm n6.symm az.symm av.symm ho,r)
  refine dD (Fq (dD (wpAny_tryCatch ?_)));refine dD (V7 (_,ht,U) ?_);refine dD (wpAny_seqItems ht U (kL ?_));let a6:(merged [] (pairs.take i)).length<=mu:=by
   let h1:=PySem.kP [] (pairs.take i);rw[z7,WE]at h1;omega
  refine Fq (wpAny_dictSet_pairs aP a5 λaF BA aK=>?_)
  let e:=merged_take_succ [] pairs i (key,_) a3;rw[<- e]at BA;let fr:∀b o,b≠S->h'.get? b=Z o->aF.get? b=Z o:=λb o hb eb=>(aK.2 b hb).trans eb
  refine kL (Rn PySem.F.bp _,ih (i+1) aF (tk+1) (by rw[Xk,hk];rfl) aD (ux.keep fr Q xp n6 az av) ?_ ?_ (λb o b1 b2 b3 b4 b5 eb=>fr b o b1 (g b o b2 b3 b4 b5 (sF b o b1 b2 b3 b4 b5 eb))) BA)
  ·exact P.at λo e=>fr _ o xo (g _ o D.l1z D.l1TO D.l1i1 D.l1i2 e)
  ·exact K.at λo e=>fr _ o xn (g _ o D.l2z D.l2TO D.l2i1 D.l2i2 e)
end
def yi(K:BT)(t1 t2:Bool)(tl:TA):TE:=λσ H R=>tl σ H λvs H1=>∃(l1 l2:J)(ks:List Key)(ys:List V),vs=[.ref l1,.ref l2]/\SqB K t1 H1 l1 (ks.map kV)/\SqB K t2 H1 l2 ys/\∀d,H1 d=Y->R (.ref d) (upd H1 d (.dK (dt [] (ks.zip ys))))
theorem Iw:∀{ks:List Key}{ys:List V}{us:List B},Vals ys us->KV (ks.zip ys) (ks.zip us)
 |[],_,_,_=>.nil
 |_::_,_,_,.nil=>.nil
 |k::ks,_,_,.cons h r=>.cons (U,h) (Iw r)
section
variable{X:Cx}{a b:Ev}{tl:TA}{pos p bZ p2:Pos}{t1 t2:Bool}
theorem Bf(hg:Gl X "dict")(hm:X.mg "dict"=Y)(bL:Gl X "zip")(bx:X.mg "zip"=Y)(ha:PA X [a,b] tl)(hs:kh [a,b] X.env=[(ϊ,eval a X.env),(ϊ,eval b X.env)])(aM:AD X b)
  (aK:kh [.Call (.Name "zip" p2) [a,b] [] bZ] X.env=(ϊ,eval (.Call (.Name "zip" p2) [a,b] [] bZ) X.env)::kh [] X.env) (hc:X.calm=O):
  PE X (.Call (.Name "dict" p) [.Call (.Name "zip" p2) [a,b] [] bZ] [] pos) (yi X.K t1 t2 tl):=by
 intro gV s σ H R I h;refine Call_ (dQ I hg hm (by kernel_rfl) (PyProof.Rows.callWith_type1 (T:="dict") ?_ aK (by rfl)))
 rw[aK];refine Calls.spliced_cons ?_;refine Call_ (dQ I bL bx (by kernel_rfl) (PyProof.Rows.callWith_type1 (T:="zip") (thn (ha bZ gV s σ H _ I h) λus s1 (vs,H1,I1,r1,q1)=>?_) (by rw[hs,aM]) (by rw[aM];rfl)))
 let(l1,l2,ks,ys,e,q2,q3,q):=q1;subst e;let(u1,u2,U,bt,a7):=vals2 r1;cases bt;cases a7;let(EM,aD,o1,z1):=I1.nB (tp:=t1) q2;let(bK,az,o2,z2):=I1.nB (tp:=t2) q3;let(cv,e1):=o1.obj;let(ct,e2):=o2.obj;let g1:l1<s1.heap.objs.size:=kS e1;let g2:l2<s1.heap.objs.size:=kS e2;let hh:X.A.handled=none:=I1.ok.hd hc;refine jb o1 o2 λh1 Q a5 a4 a3 aP V=>?_
 refine Calls.spliced_nil ?_;let nz:s1.heap.objs.size+4<h1.objs.size:=kS Q;let aF:=aD.length;let b8:=az.length;rw[ej]at aF z1;refine callType_codes (s:={s1 with heap:=h1}) (Q₁:=λobj P=>obj=.ref h1.objs.size/\P={s1 with heap:=h1.push {cls:=.type "dict",data:=.dict #[]}}) F.kt_called_dict (F.kt_typeCall_dict_1 _) F.entry_dict_init (kt_code_dict_new _ (U,U)) ?_
 rintro obj P ⟨rfl,rfl⟩
 let sE:(h1.push {cls:=.type "dict",data:=.dict #[]}).DictOf (bE X.prog X.w) h1.objs.size []:=Heap.DictOf.new h1;refine(sE.typeIs,F.args_dict_init_2 _ _,?_);unfold Builtin.«dict.__init__»;refine dD ?_;unfold Builtin.Dict.selfAndRest;refine dD (wpAny_notOrdered_dict sE.typeIs ?_);refine kL ?_;show wpAny _ _ (Builtin.Dict.updateFrom "dict.__init__" h1.objs.size (.ref (s1.heap.objs.size+4)) [] .none) _ _ _;unfold Builtin.Dict.updateFrom;let up:∀b o,h1.get? b=Z o->(h1.push {cls:=.type "dict",data:=.dict #[]}).get? b=Z o:=λb o e=>j3 _ e
 refine dD (V7 (T:="zip") (_,up _ _ Q,U) ?_);rw[if_pos (by decide)]
 refine dD (uw (up _ _ Q) hh λh2 av k2=>?_)
 refine dD (Wb ?_);refine dD (wpAny_pyIter_zip (s:={s1 with heap:=h2,toks:=av}) (k2 _ _ (up _ _ Q)) ?_)
 let g:=λb o e=>k2 b o (up b o e)
 let(cq,b7,_):=a3.obj;let(cc,b0,_):=aP.obj;let ne:∀{b:J}{o:Obj},h1.get? b=Z o->b≠h1.objs.size:=λe=>ui (kS e)
 refine kL (Rn F.bp _,J2 (A:=X.A.in1) (s:=s1) (knd:=bE X.prog X.w) (h₁:=h2) (t1:=t1) (t2:=t2) (xs:=EM.toArray) (ys:=bK.toArray) (pairs:=ks.zip bK) hh (jv g1 g2) (ne Q) (ne a5) (ne a4) (ne b7) (ne b0) (ne (V _ _ e1)) (ne (V _ _ e2)) U ?_ ?_ (λi x y hx hy=>?_) .none (λh' a6 bG hd=>?_) _ 0 h2 av U (JG _) (g _ _ a5,a3.at λo e=>g _ o e,aP.at λo e=>g _ o e,.inl (g _ _ Q,.none,.none,g _ _ a4)) (o1.at λo e=>g _ o (V _ o e)) (o2.at λo e=>g _ o (V _ o e)) (λ_ _ _ _ _ _ _ e=>e) ?_)
 ·rw[pM,pM];omega
 ·rw[NN,pM,pM];omega
 ·rw[WJ]at hx hy;let aN:i<ks.length:=by rw[aF];exact(kf.mp hx).1
  let(u,hu,ru):=aD.get (i:=i) (x:=kV ks[i]) (by rw[j5,eO aN];rfl)
  rw[hx]at hu;cases hu;exact(ks[i],NO.mpr (eO aN,hy),jK ru)
 ·let fr:∀b u,s1.heap.get? b=Z u->h'.get? b=Z u:=λb u e=>by
   let lt:b<s1.heap.objs.size:=kS e;let ne':∀m:Nat,s1.heap.objs.size<=m->b≠m:=λm hm z=>absurd (z▸lt:m<s1.heap.objs.size) (by omega)
   exact bG b u (ne (V _ _ e)) (ne' _ (by omega)) (ne' _ (by omega)) (ne' _ (m9 _)) (ne' _ (by omega)) (g b u (V b u e))
  let fresh:s1.heap.objs.size<=h1.objs.size:=by omega
  refine(U,.ref h1.objs.size,_,I1.laid (t':=a6) (h':=h') (a:=h1.objs.size) (o:=.dK (dt [] (ks.zip ys))) fr fresh ?_,U,q _ (I1.hok.fresh fresh));refine og ?_ ?_ (KV.merge (Iw az) .nil) hd
  ·have:=dA (ks.zip ys) []
   rw[NN,WE]at this;omega
  ·have:=I1.big
   exact beq_eq_false_iff_ne.mpr (QX (zZ this fresh))
 ·let(o,es,ep,ho,r):=sE;exact(o,es,ep,k2 _ _ ho,r)
end
def jJ:List T->Option (List Key)
 |[]=>Z []
 |x::r=>match x.key,jJ r with
  |some k,Z ks=>Z (k::ks)
  |_,_=>Y
theorem aq.Og{K:BT}{dl:Dl}:∀{xs:List T}{vs:List V}{F:List J}{ks:List Key},aq K dl H vs xs F->jJ xs=Z ks->vs=ks.map kV
 |[],_,_,_,h,e=>by cases h;cases e;rfl
 |x::r,_,_,_,h,e=>by
  cases h with
  |cons h1 h2 =>
   unfold jJ at e
   split at e
   ·next k ks q g =>
    cases e;rw[h1.key q,aq.Og h2 g];rfl
   ·cases e
theorem aI.Rt{K:BT}{dl:Dl}:∀{ks:List Key}{vs:List V}{ts:List T}{F:List J},aq K dl H vs ts F->F=[]->aI K dl H (ks.zip vs) (ks.zip ts) []
 |[],_,_,_,_,_=>.nil
 |_::_,_,_,_,.nil,_=>.nil
 |k::ks,_,_,_,.cons h r,e=>by
  let(q,g):=Fl.mp e;subst q g;exact .cons h (aI.Rt r U)
section
variable{X:Cx}{K:BT}{a b:Ev}{tl:TA}{ql:QA}{pos p bZ p2:Pos}
def G9(t2:Bool)(ql:QA):QE:=λq Q=>ql q λts=>on2 ts λt u=>match t with
 |.l xs=>match u with
  |.t ys=>t2=O/\T.ims ys=O/\Ex3 (λks=>jJ xs=Z ks) (λks=>(.d (aO [] (ks.zip ys)))) Q
  |.zl ys=>t2=ϊ/\T.ims ys=O/\Ex3 (λks=>jJ xs=Z ks) (λks=>(.d (aO [] (ks.zip ys)))) Q
  |.l ys=>t2=ϊ/\T.ims ys=O/\Ex3 (λks=>jJ xs=Z ks) (λks=>(.d (aO [] (ks.zip ys)))) Q
  |_=>False
 |_=>False
def rH{t2:Bool}(hg:Gl X "dict")(hm:X.mg "dict"=Y)(aF:Gl X "zip")(aD:X.mg "zip"=Y)(ha:QPA X K [a,b] tl ql)(hK:X.K=K:=by rfl)(hs:kh [a,b] X.env=[(ϊ,eval a X.env),(ϊ,eval b X.env)]:=by rfl)(az:AD X b:=by rfl)
  (av:kh [.Call (.Name "zip" p2) [a,b] [] bZ] X.env=(ϊ,eval (.Call (.Name "zip" p2) [a,b] [] bZ) X.env)::kh [] X.env:=by rfl) (hc:X.calm=true:=by rfl):
  QPF X K (.Call (.Name "dict" p) [.Call (.Name "zip" p2) [a,b] [] bZ] [] pos) (yi K ϊ t2 tl) (G9 t2 ql):=(by subst hK;exact Bf hg hm aF aD ha.h hs az av hc,λdl H σ q Q R rd hq k=>ha.s dl H σ q _ _ rd hq λvs ts F H1 e1 r1 l1 g=>by
 let go:∀{v1 v2:V}{xs ys:List T}{F1:List J},ay K dl H1 v1 (.l xs) F1->(∃l2 ws G,v2=.ref l2/\SqB K t2 H1 l2 ws/\aq K dl H1 ws ys G)->T.ims ys=O->(Ex3 (λks=>jJ xs=Z ks) (λks=>(.d (aO [] (ks.zip ys)))) Q) ->
   ∃(l1 l2:J)(ks:List Key)(ws:List V),[v1,v2]=[.ref l1,.ref l2]/\SqB K ϊ H1 l1 (ks.map kV)/\SqB K t2 H1 l2 ws/\∀d,H1 d=Y->R (.ref d) (upd H1 d (.dK (dt [] (ks.zip ws)))):=by
  rintro v1 v2 xs ys F1 h1 ⟨l2,ws,G,rfl,h2,h3⟩ im ⟨ks,ek,hq⟩
  let(l,vs,G1,U,U,a1,a2):=h1.lst;obtain rfl:=aq.Og a2 ek;obtain rfl:=h3.im im;refine(l,l2,ks,ws,U,SqL.of a1,h2,λd hd=>?_)
  let rk:aI K dl H1 (dt [] (ks.zip ws)) (aO [] (ks.zip ys)) []:=aI.aO (kvs':=[]) (kts':=[]) (aI.Rt h3 U) U .nil;let e2:=(Evo.refl e1.d).new (o:=.dK (dt [] (ks.zip ws))) hd;exact k _ _ [d] _ (e1.new hd) (.d aw (rk.cx (e2.tf e1.d) (λ_ z=>z) b6),λb hb=>by rw[g5.mp hb];exact e1.d.nd0 hd) (λb hb=>by rw[g5.mp hb];exact e1.free hd) (by simp) hq
 replace g:=on2.inv g
 let(t,u,U,g):=g
 split at g
 ·cases u with
  |t _ =>
   let(U,im,g):=g;cases r1.r with
   |cons h1 r=>cases r with
    |cons h2 P =>
     cases P;let(l2,ws,U,b1,b2):=h2.tup;exact go h1 (l2,ws,_,U,SqT.of b1,b2) im g
  |zl _ =>
   let(U,im,g):=g;cases r1.r with
   |cons h1 r=>cases r with
    |cons h2 P =>
     cases P;let(l2,o,ws,U,_,b1,b2):=h2.zls;exact go h1 (l2,ws,_,U,.inl (.inr (o,b1)),b2) im g
  |l _ =>
   let(U,im,g):=g;cases r1.r with
   |cons h1 r=>cases r with
    |cons h2 P =>
     cases P;let(l2,ws,G,U,_,b1,b2):=h2.lst;exact go h1 (l2,ws,_,U,SqL.of b1,b2) im g
  |_=>exact g.elim
 ·exact g.elim)
end
end L2
namespace PySem
open Sem (wp)
section
variable{prog:Da}{w:Cl}{A:Db}{R:Result->ϋ->Prop}{I:J}{fp wr:List J}{n:Nat}{P:Nat->B->Prop}{St:Nat->Do->Prop}{kw:List (Str×B)}
theorem EE(W:Walks prog w A.in1 I fp wr n P St)(bt:Nat->Nat->Bool)(Vq:CmpOf prog w A.in1 .Gt P bt)(S:J)(aN:S ∉ fp):
  ∀(k j:Nat)(s:ϋ)(Q:B)(c:Nat),n - (j+1)=k->j+1<=n->St (j+1) s.heap->P (argBest bt j) Q ->
  s.heap.get? S=Z {cls:=.type "list",dict:=Y,data:=.seq #[Q,Q] c,slots:=#[]} ->
  (∀v h' tk,P (argBest bt (n - 1)) v->(∀b o,b ∉ wr->b≠S->s.heap.get? b=Z o->h'.get? b=Z o)->R (.ok (.ret v)) {s with heap:=h',toks:=tk}) ->
  codeAny (model prog w) A (.builtin "max.loop" ([.ref I,.none,.ref S],kw)) R s:=by
 let aM:S ∉ wr:=λh=>aN (W.sub _ h)
 let C3:(toString "max" ++ toString ".loop":String)="max.loop":=by decide
 intro k
 induction k with
 |zero =>
  intro j s Q c hk hj av V hS hR;let aK:j+1=n:=by omega
  refine U7 F.entry_max_loop ?_;refine dD (wpAny_seqItems hS U ?_);refine dD (wpAny_tryCatch (W.done s _ _ (aK▸av) λh' tk q=>?_))
  let K:=q S _ aM hS;refine dD (V1 K U (dD (wpAny_letGo (kL (hR Q _ tk (by rw[<- aK];exact V) λb o g z e=>(z6 _ _ (Ne.symm z)).trans (q b o g e))))))
 |succ k ih =>
  intro j s Q c hk hj av V hS hR;let az:=WI hk;refine U7 F.entry_max_loop ?_;refine dD (wpAny_seqItems hS U ?_);refine dD (wpAny_tryCatch (W.item (j+1) s _ _ az av λv h' tk hP ux q=>?_))
  let K:=q S _ aM hS;show wpAny _ A.in1 (tryCatch (holding [v,v] (richCompare .Gt v Q >>= _)) _ >>= _) _ _ _;refine dD (wpAny_tryCatch (Fq (dD (Vq (j+1) (argBest bt j) v Q _ _ _ hP V (dD (Fq (wpAny_truthy_bool (dD (wpAny_letGo (kL ?_))))))))));cases hb:bt (j+1) (argBest bt j)with
  |true =>
   refine dD ?_;refine V1 K U (dD (wpAny_letGo ?_));rw[C3];refine kL (Rn F.plain_max_loop _,ih (j+1) _ v _ (by rw[Xk,hk];rfl) az (W.frame _ _ _ ux λb aP o e=>?_) (by simp only[argBest,hb,if_true];exact hP) (Fv _ K U)
    λv' aF FH aD IH=>?_)
   ·exact(z6 _ _ (λh:S=b=>aN (by rw[h];exact aP))).trans e
   ·exact hR v' aF FH aD λb o g z e=>IH b o g z ((z6 _ _ (Ne.symm z)).trans (q b o g e))
  |false =>
   refine dD (wpAny_letGo ?_);rw[C3];refine kL (Rn F.plain_max_loop _,ih (j+1) _ Q c (by rw[Xk,hk];rfl) az ux (by simp only[argBest,hb,WU,if_false];exact V) K λv' aF FH aD IH=>?_)
   exact hR v' aF FH aD λb o g z e=>IH b o g z (q b o g e)
end
def F.Fd(a d:B):argsOk "max" ([a],[("default",d)]):=by kernel_rfl
section
variable{prog:Da}{w:Cl}{A:Db}{E:B->ϋ->Prop}{s:ϋ}
def oo{id:String}(q:builtinKind id=Y)(hp:plainId id=O)(z:entryFor table id=Z b)(ha:argsOk id (args,kw))
  (g:wpAny (model prog w) A.in1 (b (args,kw)) (λfin s'=>match fin with
   |.done f=>(match(Except.ok f:Result)with|.ok (.ret v)=>Q v s' |.ok _=>False|.error e=>E e s')
   |.again c'=>c'.quiet=O/\codeAny (model prog w) A c' (λr s'=>match r with|.ok (.ret v)=>Q v s' |.ok _=>False|.error e=>E e s') s') E s):
  wpAny (model prog w) A (call (.builtin id) args kw) Q E s:=by
 refine wpAny_call (codeAny_call_builtin hp z ?_);simp only[checkBuiltinCall,q];cases K:Manifest.signature? id with
 |none=>exact kL g
 |some sig =>
  simp only[argsOk,K]at ha;let h2:=ha;show wpAny _ A.in1 (Bind.checkArgs id sig (args,kw)) _ _ s;rw[h2];exact kL g
theorem E6{its:Array B}{d:B}{Q:B->ϋ->Prop}(val:Nat->Int)(hh:A.handled=Y)(hl:s.heap.IsList l its)(hv:∀(i:Nat) v,its[i]?=Z v->∃t,v=.int (val i) t)
  (hQ:∀v h' tk,(its.size=0->v=d)->(0<its.size->its[argBest (λi j=>decide (val i > val j)) (its.size - 1)]?=Z v)->(∀b o,s.heap.get? b=Z o->h'.get? b=Z o)->Q v {s with heap:=h',toks:=tk}):
  wpAny (model prog w) A (call (.builtin "max") [.ref l] [("default",d)]) Q E s:=by
 let C3:(toString "max" ++ toString ".loop":String)="max.loop":=by decide
 let(ol,P,aD,nl,az):=id hl;refine oo F.kind_max F.plain_max F.entry_max (F.Fd _ _) ?_;refine dD (WB (show Builtin.Builtins.bindParams "max" ["key","default"] 0 ([],[("default",d)])=pure [Y,Z d]from by kernel_rfl) (dD (kL (dD (wpAny_pyIter_list hl (dD (Wh ?_)))))))
 rw[C3];let V:=kS P;let hsz:∀o:Obj,(s.heap.push o).objs.size=s.heap.objs.size+1:=λo=>Fs _ _
 let W:=Walks.list (prog:=prog) (w:=w) (A:=A.in1) hh s.heap.objs.size l (ui V) its;let K:(λi (h:Do)=>h.IsListIter s.heap.objs.size l i/\h.IsList l its) 0 ((s.heap.push {cls:=.type "list_iterator",data:=.fields #[.ref l,.int 0 0]}).push {cls:=.type "list",data:=.seq ([]:List B).toArray}) :=
  ((_,j3 _ (p6 _ U),U,U),(ol,j3 _ (j3 _ P),aD,nl,az))
 let hS:((s.heap.push {cls:=.type "list_iterator",data:=.fields #[.ref l,.int 0 0]}).push {cls:=.type "list",data:=.seq ([]:List B).toArray}).get? (s.heap.objs.size+1)=Z {cls:=.type "list",dict:=Y,data:=.seq #[],slots:=#[]}:=by
  rw[<- hsz];exact p6 _ U
 let q:s.heap.objs.size+1 ∉ [s.heap.objs.size,l]:=λz=>by
  obtain z|z:=kz.mp z
  ·exact absurd z (QX (Wn _))
  ·exact absurd (g5.mp z) (QX (WL V))
 let aK:=λz=>q (kz.mpr (.inl (g5.mp z)))
 let up:∀b o,s.heap.get? b=Z o->((s.heap.push {cls:=.type "list_iterator",data:=.fields #[.ref l,.int 0 0]}).push {cls:=.type "list",data:=.seq ([]:List B).toArray}).get? b=Z o:=λb o e=>j3 _ (j3 _ e)
 let old:∀b o,s.heap.get? b=Z o->b ∉ [s.heap.objs.size]/\b≠s.heap.objs.size+1:=λb o e=>by
  have:=kS e
  exact(λz=>ui this (g5.mp z),ui (WL this))
 rw[hsz];refine kL (Rn F.plain_max_loop _,U7 F.entry_max_loop ?_);refine dD (wpAny_seqItems hS U ?_);by_cases h0:its.size=0
 ·exact dD (wpAny_tryCatch (W.done _ _ _ (by rw[h0];exact K) λh' tk g=>(dD (Wb (kL (hQ d h' tk (λ_=>rfl) (λz=>absurd z (by omega)) λb o e=>g b o (old b o e).1 (up b o e)))))))
 ·refine dD (wpAny_tryCatch (W.item 0 _ _ _ (by omega) K λv h' tk hP ux g=>?_))
  let av:=g _ _ aK hS;show wpAny _ A.in1 (updateSeq (s.heap.objs.size+1) (λ_=>#[v,v]) >>= _) _ _ _
  refine dD ?_;refine V1 av U ?_;refine kL (Rn F.plain_max_loop _,EE W _ (CmpOf.ints_gt val hv) (s.heap.objs.size+1) q _ 0 _ v _ U (by omega) (W.frame _ _ _ ux λb aF o e=>?_) hP (Fv _ av U) λv' aN FH aM IH=>?_)
  ·exact(z6 _ _ (λh=>q (by rw[h];exact aF))).trans e
  ·exact hQ v' aN FH (λz=>absurd z h0) (λ_=>aM) λb o e=>IH b o (old b o e).1 (old b o e).2 ((z6 _ _ (Ne.symm (old b o e).2)).trans (g b o (old b o e).1 (up b o e)))
end
end PySem
namespace L2
open PySem PySem.Spec PyProof.Rows
def zi(ns:List Int)(d:Int):Int:=match ns with
 |[]=>d
 |x::r=>r.foldl max x
theorem foldl_max:∀(r:List Int)(x:Int),(r.foldl max x=x\/r.foldl max x∈r)/\x<=r.foldl max x/\∀y∈r,y<=r.foldl max x
 |[],x=>(.inl U,NL _,λ_ h=>nomatch h)
 |y::r,x=>by
  let(h1,h2,h3):=foldl_max r (max x y);refine(?_,Wc (Int.le_max_left x y) h2,λz g=>?_)
  ·obtain h1|h1:=h1
   ·show List.foldl max (max x y) r=x\/List.foldl max (max x y) r∈y::r;rw[h1];by_cases e:x<=y
    ·rw[Int.max_eq_right e];exact .inr jf
    ·rw[Int.max_eq_left (by lia)];exact .inl U
   ·exact .inr (j0 _ h1)
  ·obtain rfl|g:=kz.mp g
   ·exact Wc (Int.le_max_right x _) h2
   ·exact h3 z g
variable{ns:List Int}
def MF(h1:M∈ns)(h2:∀y∈ns,y<=M):M=zi ns d:=by
 cases ns with
 |nil=>cases h1
 |cons x r =>
  let(a1,a2,g):=foldl_max r x;show M=r.foldl max x;refine Int.le_antisymm ?_ ?_
  ·obtain rfl|h:=kz.mp h1
   ·exact a2
   ·exact g M h
  ·obtain a1|a1:=a1
   ·rw[a1];exact h2 x jf
   ·exact h2 _ (j0 _ a1)
variable{p3:Pos}{H:Hp}{x:Str}{pos':Pos}{C:J}
section
variable{X:Cx}{K:BT}{e b:Ev}{te:TE}{qe:QE}{p pos MU:Pos}
def Jx(h:0<ns.length):∃M,ns[argBest (λi j=>decide (ns.getD i 0 > ns.getD j 0)) (ns.length - 1)]?=Z M/\M=zi ns 0:=by
 let(h1,h2):=argBest_gt (λi=>ns.getD i 0) (ns.length - 1)
 let g:argBest (λi j=>decide (ns.getD i 0 > ns.getD j 0)) (ns.length - 1)<ns.length:=by omega
 refine(_,eO g,MF (Wr g) λy q=>?_)
 let(j,hj,U):=BR q
 have:=h2 j (by lia)
 rw[Ws,Ws,eO hj,eO g]at this;exact this
theorem kT:∀{ns:List Int}{its:List B},Vals (ns.map V.int) its->∀(i:Nat)(v:B),its[i]?=Z v->∃t,v=.int (ns.getD i 0) t
 |[],_,h,i,v,e=>by cases h;simp at e
 |n::r,_,h,i,v,e=>by
  cases h with
  |cons h1 h2 =>
   cases i with
   |zero =>
    simp at e;let(t,g):=h1;exact(t,by rw[<- e,g];rfl)
   |succ i =>
    let(t,g):=kT h2 i v (by simpa using e)
    exact(t,by rw[g];rfl)
def NU(K:BT)(te:TE)(d:Int):TE:=λσ H Q=>te σ H λv H1=>∃l ns,v=.ref l/\SqL K H1 l (ns.map V.int)/\Q (.int (zi ns d)) H1
def LS(hg:Gl X "max")(hm:X.mg "max"=Y)(he:PE X e te)(hc:X.calm=O)(hs:AD X e:=by rfl):
  PE X (.Call (.Name "max" p) [e] [(Z "default",.Constant (.int d) j1 p3,MU)] pos) (NU X.K te d):=by
 left;refine TH (dQ (u:=.builtin "max") I hg hm (by kernel_rfl) (PyProof.Rows.callWith_kw ?_ (by rw[hs];rfl) (by rw[hs];rfl)))
 rw[hs];refine Calls.spliced_cons (thn (he gV s σ H _ I h) λu s1 g=>?_)
 let(x,H1,I1,r1,l,ns,ex,hl,q):=g;subst ex;cases r1;refine Calls.spliced_nil ?_;refine thn (LO (bA) PC pos gV s1 σ H1 (λvs H2=>vs=[.int d]/\H2=H1) I1 (U,U)) λus s2 g=>?_
 let(vs,H2,P,rv,e1,e2):=g;subst e1 e2;let(ud,U,t,U):=vals1 rv;let(its,z,pl,hz):=P.list hl;let hlen:=z.length;rw[ej]at hlen;refine E6 (λi=>ns.getD i 0) (I.ok.hd hc) pl.isList (λi v ei=>kT z i v (by simpa using ei)) λv h' tk z0 V hk=>?_
 rw[pM]at z0 V;by_cases h0:its.length=0
 ·let hn:ns=[]:=Rj.mp (by lia)
  subst hn;rw[z0 h0];exact(.int d,_,P.kept hk,(_,U),q)
 ·have:=V (by lia)
  let(M,hM,eM):=Jx (ns:=ns) (by lia)
  rw[<- hlen]at this;rw[WJ]at this;let(t',U):=kT z _ v this;let e3:zi ns d=zi ns 0:=by cases ns with|nil=>simp at hlen;lia|cons _ _=>rfl
  refine(.int (zi ns d),_,P.kept hk,(t',?_),q);rw[e3,<- eM,Ws,hM];rfl
def Sm(d:Int)(qe:QE):QE:=λq Q=>qe q λt=>match t with
 |.l xs=>Ex3 (λ(ns:List Int)=>xs=ns.map .i) (λns=>(.i (zi ns d))) Q
 |_=>False
def aq.Td{dl:Dl}{vs:List V}(h:aq K dl H vs (ns.map T.i) F):vs=ns.map V.int/\F=[]:=by
 let(U,U):=h.vs (by unfold fls;rw[Xj,NM];exact λ_ _=>rfl)
 exact(by rw[Qo];rfl,U)
def Li{d:Int}{V}(hm:X.mg "max"=Y)(he:QPE X K e te qe)(hg:Gl X "max":=by exact U)(hK:X.K=K:=by rfl)(hc:X.calm=true:=by rfl)(hs:AD X e:=by rfl):
  QPF X K (.Call (.Name "max" p) [e] [(Z "default",.Constant (.int d) V p3,MU)] pos) (NU K te d) (Sm d qe):=(by subst hK;exact LS hg hm he.h hc hs,λdl H σ q Q R rd hq k=>he.s dl H σ q _ _ rd hq λv t F H1 e1 P g=>by
 split at g
 ·let(ns,U,g):=g;let(l,vs,G,U,U,h1,h2):=P.r.lst;let(U,U):=h2.Td;exact(l,ns,U,SqL.of h1,k _ _ [] H1 e1 (.c (.i _)) b6 k4 g)
 ·exact g.elim)
def SA(i:Nat)(qe:QE):QS:=λD q=>∃n,q[i]?=Z (.o (.i n))/\qe q λt=>match t with
 |.i m=>D.nx (q.set i (.o (.i (n+m))))
 |_=>False
def Co(hN:X.N.Nodup)(he:QPE X K e te qe)(hi:X.N[i]?=Z x:=by rfl)(hx:Loc X.env.scope x:=by first|exact .inl rfl|exact .inr U)(hf:AT X x:=by first|exact .inl rfl|exact .inr rfl|assumption):
  QPS X K (.AugAssign (.Name x pos') .Add e pos) (RI i te (ipI λi j=>i+j)) (SA i qe):=(Pt hN hi hx he.h Qn hf,λdl H₀ hs H σ q Dq D (F,r) hq E=>by
 let(n,Q,hq):=hq;let(v,hv,V):=r.g i _ _ Q U;let(U,hF):=V.r.int;refine(_,hv,he.s dl H σ q _ _ r.rd hq λw t Fw H1 e1 r1 P=>?_)
 split at P
 ·rename_i m;let(U,_):=r1.r.int;exact(n,m,U,U,E.nx H1 _ _ (r.eT e1 (.c (.i (n+m))) b6 k4) P)
 ·exact P.elim)
def Sx(C:J)(f:Str)(qe:QE):QE:=λq Q=>qe q λt=>match t with
 |.om _ g ns ts=>g=C/\Ex2 (λu=>(ns.zip ts).lookup f=Z u) Q
 |_=>False
def gG(hc:Cls K C)(hn:bf K C f)(he:QPE X K e te qe)(z:attributeBase e f X.env (eval e X.env)=eval e X.env:=by rfl)(hK:X.K=K:=by rfl):QPE X K (.Attribute e f pos) (ON K te f) (Sx C f qe) :=
 (by subst hK;exact Hy he.h z,λdl H σ q Q R rd hq k=>he.s dl H σ q _ _ rd hq λv t F H1 e1 V g=>by
  split at g
  ·let(U,u,hu,g):=g;let(dx,vs,G,U,U,h1,h2,h3,h4):=V.r.omm;let(P,Fc,G1,l1,l2,l3,_):=h4.fld hu;exact(_,_,dx,_,P,U,h1,hc,hn,l1,k P u Fc H1 e1 (l2,λb z=>V.n b (j0 _ (j0 _ (l3.mem_iff.mpr (qF _ z))))) g)
  ·exact g.elim)
def yD:QPS X K (.Return Y pos) NS (λD q=>D.ru q .n):=(LB,λdl H₀ hs H σ q Dq D (F,r) hq E=>E.ru H σ q F .non .n [] r (.n,b6) b6 k4 (λ_ _ z=>nomatch z) hq)
end
variable{j:Nat}
section
variable{X:Cx}{K:BT}{dl:Dl}{H₀ H':Hp}{hs:List (V×T)}{σ:St}{q:Sq}{F:Nat->List J}{e o:Ev}{te:TE}{qe:QE}{pos apos aP dm:Pos}
def Rel.move(r:Rel K dl H₀ hs H σ q F)(aD:i≠j)(hi:i<q.length)(hj:q[j]?=Z (.o t))(hv:σ[j]?=Z (Z v)):fU K dl H₀ hs H (σ.set i (Z v)) ((q.set j .no).set i (.o t)):=by
 let(o1,o2,o3):=r.o j t hj;let(v',av,rp):=r.g j _ t hj U;rw[hv]at av;cases av;let lk:∀{k:Nat}{x:Sl},((q.set j .no).set i (.o t))[k]?=Z x->(k=i/\x=.o t)\/(k≠i/\k=j/\x=.no)\/(k≠i/\k≠j/\q[k]?=Z x):=λ{k x} h=>by
  obtain⟨e1,e2,_⟩|⟨e1,e2⟩:=get_set h
  ·exact .inl (e1,e2)
  ·obtain⟨e3,e4,_⟩|⟨e3,e4⟩:=get_set e2
   ·exact .inr (.inl (e1,e3,e4))
   ·exact .inr (.inr (e1,e3,e4))
 refine(qW (qW F j []) i (F j),r.d,λk x u h1 h2=>?_,λk x h1 h2=>?_,λk hk=>?_,λk u h1=>?_,λp hp=>?_,r.f,by simp[r.l])
 ·obtain⟨rfl,rfl⟩|⟨Q,rfl,rfl⟩|⟨Q,n2,h1⟩:=lk h1
  ·cases h2;exact(v,by rw[JF (by rw[<- r.l];exact hi)],by rw[aR];exact rp)
  ·cases h2
  ·let(w,h3,h4):=r.g k x u h1 h2;exact(w,by rw[E3 (λz=>Q z.symm)];exact h3,by rw[aE Q,aE n2];exact h4)
 ·obtain⟨rfl,rfl⟩|⟨Q,rfl,rfl⟩|⟨Q,n2,h1⟩:=lk h1
  ·cases h2
  ·rw[aE Q,aR]
  ·rw[aE Q,aE n2];exact r.n k x h1 h2
 ·rw[NP,NP]at hk;let az:=(kf.mp hj).1;rw[aE (by lia),aE (by lia)]
  exact r.z k hk
 ·let mem:∀{m:Nat}{b:J},b∈(qW (qW F j []) i (F j)) m->(m=i/\b∈F j)\/(m≠i/\m≠j/\b∈F m):=λ{m b} P=>by
   by_cases e1:m=i
   ·subst e1;rw[aR]at P;exact .inl (U,P)
   ·rw[aE e1]at P;by_cases e2:m=j
    ·subst e2;rw[aR]at P;cases P
    ·rw[aE e2]at P;exact .inr (e1,e2,P)
  obtain⟨rfl,_⟩|⟨_,_,z⟩|⟨Q,n2,h1⟩:=lk h1
  ·rw[aR];refine(o1,o2,λm hm b P z=>?_)
   obtain⟨e,_⟩|⟨_,e2,z⟩:=mem z
   ·exact hm e
   ·exact o3 m e2 b P z
  ·cases z
  ·let(p1,p2,p3):=r.o k u h1;rw[aE Q,aE n2];refine(p1,p2,λm hm b P z=>?_)
   obtain⟨_,z⟩|⟨_,_,z⟩:=mem z
   ·exact p3 j n2.symm b P z
   ·exact p3 m hm b P z
 ·let(Fp,h1,h2):=r.h p hp;refine(Fp,h1,λk u hk b P=>?_)
  obtain⟨rfl,_⟩|⟨_,_,z⟩|⟨Q,n2,hk⟩:=lk hk
  ·rw[aR]at P;exact h2 j t hj b P
  ·cases z
  ·rw[aE Q,aE n2]at P;exact h2 k u hk b P
def Sk(i j:Nat):QS:=λD q=>i≠j/\i<q.length/\match q[j]? with
 |some (.o t)=>D.nx ((q.set j .no).set i (.o t))
 |_=>False
def K4(Q:X.N.Nodup)(he:PE X e (bB j))(hi:X.N[i]?=Z x:=by rfl)(hx:Loc X.env.scope x:=by first|exact .inl rfl|exact .inr U)(hs:swapsWith e (Z (.Name x pos')) pos.line X.env=pure false:=by rfl)(hf:AT X x:=by first|exact .inl rfl|exact .inr rfl|assumption):
  QPS X K (.Assign [.Name x pos'] e pos) (iG (bB j) (eY i)) (Sk i j):=(gZ Q hi hx he hs hf,λdl H₀ hs H σ q Dq D (F,r) hq E=>by
 let(z,hl,hq):=hq
 split at hq
 ·rename_i t P;let(v,hv,_):=r.g j _ t P U;exact(v,hv,E.nx H _ _ (r.move z hl P hv) hq)
 ·exact hq.elim)
inductive yB(K:BT)(x:V)(vs:List V)(H:Hp)(Q:VK):Prop
 |mk(l b xs zs)(h1:x=.ref l)(h2:vs=[.ref b])(h3:H l=Z (.lst xs))(h4:SqT K H b zs)(h5:xs.length+zs.length<=mu)(h6:Q .non (upd H l (.lst (xs++zs))))
theorem Bo:MtM X "list.extend" (yB X.K):=by
 intro gV s σ H x vs v us Q I rx rv h;let(l,b,xs,zs,U,U,hH,hB,hz,q):=h;cases rx;let(u,U,ru):=rv.one;cases ru;let(z,its,n,r,hl,e):=I.zj hH;let(P,V,p2,z2):=I.tuple hB;let(o2,e2,g,n2,hd2):=(p2);let av:=V.length;let hsz:its.toArray.size+P.toArray.size<=mu:=by rw[pM,pM];lia
 let IG:¬(!its.toArray.isEmpty&&Builtin.List.listTooLong (its.toArray.size+P.toArray.size))=true:=by
  rw[y8 hsz,WX];exact qE
 refine Es F.slot_list_extend (_,e,U) F.entry_list_extend ?_ (F.args_list_extend_2 _ _);show wpAny _ _ (Builtin.List.listExtendWith (.ref l) (.ref b) .none) _ _ s;refine dD (V7 (o2,e2,g) ?_);rw[if_pos (by simp)]
 refine dD (listItems_at e2 hd2 (dD (listItems_at e U ?_)));rw[if_neg IG];refine dD (listUpdate_at e U (kL (_,U,(.non,_,I.Ij (its':=its++P) hH e (by simp) (r.append V) ?_,U,q))) (by rw[pM];omega) (by rw[Yi];omega))
 rw[pL];omega
def N8(i:Nat)(qe:QE):QS:=λD q=>match q[i]? with
 |some (.o (.l xs))=>qe q λt=>match t with
  |.t ys=>T.ims ys=O/\xs.length+ys.length<=mu/\D.nx (q.set i (.o (.l (xs++ys))))
  |_=>False
 |_=>False
def K5(ho:PE X o (bB i))(he:QPE X K e te qe)(hK:X.K=K:=by rfl)(cB:attributeBase o "extend" X.env (eval o X.env)=eval o X.env:=by rfl)
  (i6:At X aP [e]:=by rfl)
  (cA:(apos.endLine==aP.line)=true:=by rfl) (hs:AC X e []:=by rfl) (cG:(backTo aP (kh [] X.env)).any (·.1)=false:=by rfl)
  (az:swapsWith (.Call (.Attribute o "extend" apos) [e] [] aP) Y dm.line X.env=pure false:=by rfl):
  QPS X K (.Expr (.Call (.Attribute o "extend" apos) [e] [] aP) dm) (fO (tBM K "list" (yB K) (bB i) (dh te f6))) (N8 i qe) :=
 (fi (by subst hK;exact rX PySem.F.plainAttrs_list PySem.F.slot_list_extend PySem.F.type_list_extend Bo ho (bN he.h eh hs) cB i6 cA hs cG) az,λdl H₀ hs H σ q Dq D (F,r) hq E=>by
 unfold N8 at hq
 split at hq
 ·rename_i xs ei;let(v,hv,rp):=r.g i _ _ ei U;let(o1,o2,o3):=r.o i _ ei;let(p,vs,G,U,V,h1,h2):=rp.r.lst;refine(_,hv,.inl (U,vs,SqL.of h1),he.s dl H σ q _ _ r.rd hq λw t F' H' e1 r1 P=>?_)
  split at P
  ·let(im,hl,P):=P;let(p2,ws,U,h3,h4):=r1.r.tup;obtain rfl:=h4.im im;let pn:=rp.n p (by rw[V];exact jf)
   refine(p,p2,vs,ws,U,U,e1.k p _ h1 pn (λ_ z=>nomatch z),SqT.of h3,by rw[h2.len,h4.len];exact hl,?_)
   let hG:=λb Q=>rp.n b (by rw[V];exact j0 _ Q)
   let av:=h2.cx (e1.tf r.d) (λ_ z=>z) λb Q o eo=>e1.k b o eo (hG b Q) (.of (h2.there b Q) eo)
   refine E.nx _ σ _ (r.nH ei hv V e1 (av.append h4) ?_ λb Q=>?_) P
   ·rw[V]at o1;rw[tG];exact(u3.mp o1).2
   ·rw[tG]at Q;exact .inl Q
  ·exact P.elim
 ·exact hq.elim)
end
variable{n:Nat}
section
variable{X:Cx}{K:BT}{dl:Dl}
def RU(K:BT):R2:=λx y H Q=>rNe x y H Q\/∃dl ts us n F G,ay K dl H x (.t ts) F/\ay K dl H y (.t us) G/\(∀(j:Nat)(x y:T),ts[j]?=Z x->us[j]?=Z y->Alk n x y)/\n<=140/\∀c:Bool,(c=O ↔ ts=us)->Q (.bl (!c)) H
def PQ(hu:X.A.units+150<cLine)(hK:X.K=K):OpR X (compareOp .NotEq) (RU K):=by
 subst hK;refine OpR.or HK ?_;intro gV s σ H x y v u Q I P z h;let(dl,ts,us,n,F,G,r1,V,ht,hn,k):=h;let(a,vs,U,h1,f1):=r1.tup;let(b,ws,U,h2,f2):=V.tup;cases P;cases z;let(its,q,p1,_):=I.tuple (SqT.of h1);let(bK,g,p2,_):=I.tuple (SqT.of h2);let l1:=q.length;let l2:=g.length;let l3:=f1.len;let l4:=f2.len;let(e,hE,he):=Dx (A:=X.A.in1) I U q g f1 f2 ht (by show X.A.units+1+n<_;lia)
 refine SeqAt.RcNeAt.tuples (p1) (p2) (by lia) hE X.prog X.w X.xe _ (.bl _,H,I,U,k _ ?_)
 let e1:its.toArray.size=ts.length:=by simp;lia
 let e2:bK.toArray.size=us.length:=by simp;lia
 exact xD (n:=n) e1 e2 he
def Ph:Q2:=λt u Q=>match t,u with
 |.t ts,.t us=>∃n,n<=140/\(∀(j:Nat)(x y:T),ts[j]?=Z x->us[j]?=Z y->Alk n x y)/\∀c:Bool,(c=O ↔ ts=us)->Q (.b (!c))
 |t,u=>qNe t u Q
def Kq:cO K (RU K) Ph:=by
 intro dl H x y t u F G Q R D q g hq k;unfold Ph at hq
 split at hq
 ·let(n,hn,P,hq):=hq;exact .inr (dl,_,_,n,F,G,q.r,g.r,P,hn,λc V=>k _ _ [] H (.refl D) (.c (.b _)) b6 k4 (hq c V))
 ·exact .inl (Aw dl H x y t u F G Q R D q g hq k)
theorem sX:∀{n:Nat}{t:T},Dep n t->Alk n t t
 | 0,_,h=>by
  obtain⟨x,rfl⟩|⟨x,rfl⟩:=h
  ·exact .inl (x,x,U,U)
  ·exact .inr (x,x,U,U)
 |n+1,_,h=>by
  obtain⟨x,rfl⟩|⟨x,rfl⟩|⟨ts,rfl,h⟩:=h
  ·exact .inl (x,x,U,U)
  ·exact .inr (.inl (x,x,U,U))
  ·refine .inr (.inr (ts,ts,U,U,λj x y hx g=>?_))
   rw[hx]at g;cases g;exact sX (h x (px hx))
def vC{ts:List T}(hd:∀x∈ts,Dep n x)(j:Nat)(x y:T)(hx:ts[j]?=Z x)(g:ts[j]?=Z y):Alk n x y:=by
 rw[hx]at g;cases g;exact sX (hd x (px hx))
end
abbrev QPR:=Sq->(List (Key×T)->Prop)->Prop
def Ue(K:BT)(trs:List (TE×TE))(qp:QPR):Prop:=∀(dl:Dl)(H:Hp)(σ:St)(q:Sq)(Q:List (Key×T)->Prop)(R:List (V×V)->Hp->Prop),RdR K dl H σ q->qp q Q ->
 (∀kvs kts H',Evo dl H H'->aI K dl H' kvs kts []->kvs.length=trs.length->Q kts->R (kvs.map λkv=>(kV kv.1,kv.2)) H')->vL trs σ H R
structure NH(X:Cx)(K:BT)(pos:Pos)(keys:List (Option Ev))(values:List Ev)(trs:List (TE×TE))(qp:QPR):Prop where
 h:PPs X pos keys values trs
 s:Ue K trs qp
section
variable{X:Cx}{K:BT}{pos:Pos}{ek ev:Ev}{ks:List (Option Ev)}{vs:List Ev}{tk tv:TE}{qk qv:QE}{trs:List (TE×TE)}{qp:QPR}
def K7:NH X K pos [] [] [] (λ_ Q=>Q []):=(CA,λdl H σ q Q R rd hq k=>k [] [] H (.refl rd.d) .nil U hq)
def Si(qk qv:QE)(qp:QPR):QPR:=λq Q=>qk q λt=>qv q λu=>match t.key with
 |some k=>u.im=O/\qp q λkts=>Q ((k,u)::kts)
 |none=>False
def mq(hk:QPE X K ek tk qk)(hv:QPE X K ev tv qv)(hr:NH X K pos ks vs trs qp):NH X K pos (Z ek::ks) (ev::vs) ((tk,tv)::trs) (Si qk qv qp):=(my hk.h hv.h hr.h,λdl H σ q Q R rd hq k=>by
 refine hk.s dl H σ q _ _ rd hq λv t F H1 e1 r1 z=>(hv.s dl H1 σ q _ _ (rd.evo e1) z λw u G H2 e2 r2 g=>?_)
 split at g
 ·rename_i kk av;let(P,g):=g;obtain rfl:=r2.r.im P;let V:=r1.r.key av;subst V;exact hr.s dl H2 σ q _ _ ((rd.evo e1).evo e2) g λkvs kts H3 e3 r3 hl hz=>(k ((kk,w)::kvs) ((kk,u)::kts) H3 ((e1.trans e2).trans e3) (.cons (F:=[]) (G:=[]) (r2.evo e2.d e3).r r3) (by simp[hl]) hz)
 ·exact g.elim)
def qDN(qp:QPR):QE:=λq Q=>qp q λkts=>Q (.d (aO [] kts))
def GS(h:NH X K pos ks vs trs qp)(IL:ks.all (·.isSome)=true:=by rfl)(hl:ks.length=vs.length:=by rfl)(h0:ks ≠ []:=by exact Rk _ _)(h15:ks.length<=15:=by decide)(h16:trs.length<=15:=by decide):
  QPF X K (.Dict ks vs pos) (NX trs) (qDN qp):=(CC h.h IL hl h0 h15,λdl H σ q Q R rd hq k=>λp hp=>by
 let e0:=(Evo.refl rd.d).new (o:=.dK []) hp;let nd:=rd.d.nd0 hp;refine h.s dl _ σ q _ _ (rd.evo e0) hq λkvs kts H2 e2 r2 hlen hz=>?_
 let V:=e2.k p _ aw nd (λ_ z=>nomatch z)
 let tf:=TF.dict (kw:=dt [] kvs) V;refine(V,kvs,U,by lia,?_)
 let e3:Evo dl H (upd H2 p (.dK (dt [] kvs))):=by
  refine(λb o P hn nr=>?_,λd hd=>?_,λb x P=>?_)
  ·let g:b≠p:=λz=>by rw[z,hp]at P;cases P
   rw[aj g];exact e2.k b o (by rw[aj g];exact P) hn nr
  ·let(s0,n0,av,D0):=e2.d d hd;let n1:=(nd d hd).1;let n2:=(nd d hd).2;exact(s0,n0,av,{D0 with hd:=by rw[aj n1.symm];exact D0.hd,hl:=by rw[aj n2.symm];exact D0.hl})
  ·let g:b≠p:=λz=>by rw[z,hp]at P;cases P
   let(y,hy,e4):=e2.r b x (by rw[aj g];exact P)
   exact(y,hy,by rw[aj g];exact e4)
 let rm:=aI.aO (kvs':=[]) (kts':=[]) r2 U .nil;exact k _ _ [p] _ e3 (.d aw (rm.cx tf (λ_ z=>z) b6),λb P=>by rw[g5.mp P];exact nd) (λb P=>by rw[g5.mp P];exact hp) (by simp) hz)
end
variable{a:J}{b:Ev}{tl:TA}{ql:QA}{elts:List Ev}{t2:Bool}
section
variable{X:Cx}{K:BT}{dl:Dl}
def MZ{b:J}:uH K dl (Itz K ϊ ϊ a b) (lQ xs ys) [(.ref a,.zl xs),(.ref b,.zl ys)] where
 go:=λH i D h hi=>by
  let(F,r):=h (.ref a,.zl xs) (by simp)
  let(F',V):=h (.ref b,.zl ys) (by simp)
  let(p,o,vs,e,eF,h1,h2):=r.r.zls;cases e;let(p',o',vs',e',aD,P,g):=V.r.zls;cases e';rw[ju]at hi;let l1:i<vs.length:=by rw[h2.len];lia
  let l2:i<vs'.length:=by rw[g.len];lia
  exact(vs,vs',vs[i],vs'[i],.inl (.inr (o,h1)),.inl (.inr (o',P)),by simp[l1],by simp[l2])
 yld:=λH i x fp v H' D h hx y=>by
  let r:=h (.ref a,.zl xs) (by simp)
  let V:=h (.ref b,.zl ys) (by simp)
  let(p,o,vs,e,eF,h1,h2):=r.r.zls;cases e;let(p',o',vs',e',aD,P,g):=V.r.zls;cases e';let(x1,y1,a3,aP,U):=vG hx;let(w1,G1,a5,aN,az):=h2.get a3;let(w2,G2,a4,aM,av):=g.get aP;let(q,u1,u2,hq,U,U,aK,aF):=y;let e1:=aK vs (.inl (.inr (o,h1)));rw[a5]at e1;cases e1;let e2:=aF vs' (.inl (.inr (o',P)));rw[a4]at e2;cases e2;let rs:=Rps.cons (aN,λb Q=>nomatch az b Q) (Rps.cons (aM,λb Q=>nomatch av b Q) (.nil,b6))
  refine((Evo.refl D).new hq,_,rs.tup D hq,λc Q=>?_)
  rw[tG]at Q;obtain z|z:=p7.mp Q
  ·exact nomatch az c z
  ·exact nomatch av c z
 stop:=λH D h=>by
  let(F,r):=h (.ref a,.zl xs) (by simp)
  let(F',V):=h (.ref b,.zl ys) (by simp)
  let(p,o,vs,e,eF,h1,h2):=r.r.zls;cases e;let(p',o',vs',e',aD,P,g):=V.r.zls;cases e';refine(vs,vs',.inl (.inr (o,h1)),.inl (.inr (o',P)),?_);rw[ju,h2.len,g.len]
  lia
def VF(t2:Bool)(ql:QA):QJ:=λq Q=>ql q λts=>on2 ts λt u=>match t with
 |.t xs=>match u with|.t ys=>t2=O/\T.ims xs=O/\T.ims ys=O/\Q (lQ xs ys) q|_=>False
 |.zl xs=>match u with|.zl ys=>t2=ϊ/\Q (lQ xs ys) q|_=>False
 |_=>False
def K8{a:Ev}{pos p:Pos}{x1}(hg:Gl X "zip")(hm:X.mg "zip"=Y)(gw:bootBuiltins "zip"=Z (.type "zip"))(ha:QPA X K [a,b] tl ql)(hs:kh [a,b] X.env=[(ϊ,eval a X.env),(ϊ,eval b X.env)]:=by rfl)(av:AD X b:=by rfl)(hK:X.K=K:=by rfl):
  QPJ X K (.Tuple elts x1 pos') (.Call (.Name "zip" p) [a,b] [] pos) (Qs K t2 t2 tl) (VF t2 ql):=(LP hK hg hm gw ha.h hs av,λdl H₀ hs H σ q Q R (F0,r0) hq k=>ha.s dl H σ q _ _ r0.rd hq λvs ts F H' e1 r _ g=>by
 replace g:=on2.inv g
 let(t,u,U,g):=g;cases t with
 |t _ =>
  dsimp only at g
  split at g
  ·let(U,i1,i2,g):=g;let(v,w,F1,F2,U,r1,V):=r.two;obtain rfl:=r1.r.im i1;obtain rfl:=V.r.im i2;let q1:=((r0.evo e1).hold V λj u hj b hb z=>nomatch z).hold r1 λj u hj b hb z=>nomatch z
   let(l1,P,U,h1,h2):=r1.r.tup;let(l2,vs2,U,h3,h4):=V.r.tup;exact(l1,l2,U,(P,SqT.of h1),(vs2,SqT.of h3),k _ _ _ H' q (F0,q1) Qk g)
  ·exact g.elim
 |zl _ =>
  dsimp only at g
  split at g
  ·let(U,g):=g;let(v,w,F1,F2,U,r1,V):=r.two;obtain rfl:=r1.r.im U;obtain rfl:=V.r.im U;let q1:=((r0.evo e1).hold V λj u hj b hb z=>nomatch z).hold r1 λj u hj b hb z=>nomatch z
   let(l1,o,P,U,_,h1,h2):=r1.r.zls;let(l2,o',vs2,U,_,h3,h4):=V.r.zls;exact(l1,l2,U,(P,.inl (.inr (o,h1))),(vs2,.inl (.inr (o',h3))),k _ _ _ H' q (F0,q1) MZ g)
  ·exact g.elim
 |_=>exact g.elim)
end
namespace TM
open Sem (wp)
open Builtin
end TM
end L2
namespace PySem
open AutoSeq1 (wpAny_loadPart')
open MeetsSeq MeetsSeq2 MeetsSeq3
def EqW(prog:Da)(w:Cl)(A:Db)(s:ϋ)(y x:B):Prop:=∀(E:B->ϋ->Prop)(Q:Bool->ϋ->Prop),Q O s->wpAny (model prog w) A (eqBool y x) Q E s
section
variable{prog:Da}{w:Cl}{A:Db}{E:B->ϋ->Prop}{s:ϋ}{a b:J}{xs ys:Array B}
def SeqAt.EqAt.one(h:SeqAt.EqAt A s y x O):EqW prog w A s y x:=λE Q q=>h prog w E Q q
def EqW.refs(h:∀(E:B->ϋ->Prop)(Q:B->ϋ->Prop),Q (.bool O) s->wpAny (model prog w) A (richCompare .Eq (.ref a) (.ref b)) Q E s):EqW prog w A s (.ref a) (.ref b):=λE Q q=>by
 by_cases e:a=b
 ·subst e;exact SeqAt.EqAt.same _ prog w E Q q
 ·unfold eqBool;refine Fq (wpAny_ite_split (λz=>absurd (B.ref.inj (eq_of_beq z)) e) λ_=>?_)
  exact dD (h E _ (wpAny_truthy_bool q))
theorem Jd[DecidableEq K]{knd:KeyKind prog w K}{kvs kvs':List (K×B)}(V:(a==sysModules)=ϊ)(P:(b==sysModules)=ϊ)(ha:s.heap.DictOf knd a kvs)(hb:s.heap.DictOf knd b kvs')(hk:kvs.map (·.1)=kvs'.map (·.1))
  (hv:∀(i:Nat)(p g:K×B),kvs[i]?=Z p->kvs'[i]?=Z g->EqW prog w A.in1 s p.2 g.2) (hu:A.units<cLine):EqW prog w A s (.ref a) (.ref b):=EqW.refs λE Q hQ=>by
 refine wpAny_richCompare_same_room ha.typeIs hb.typeIs F.slot_dict_eq (Es F.slot_dict_eq ha.typeIs F.entry_dict_eq ?_ (F.args_dict_eq_2 _ _)) hu;show wpAny _ _ (Builtin.Dict.dictSlotArgs "__eq__" ([.ref a,.ref b],[]) >>= _) _ _ _;unfold Builtin.Dict.dictSlotArgs;refine dD (dD (wpAny_notOrdered_dict ha.typeIs (kL ?_)));refine dD (V4 hb.typeIs isSubtype_dict_dict ?_);show wpAny _ _ (Builtin.Dict.samePairs _ a b >>= _) _ _ _;exact dD (AA V P ha hb hk (λi p g h1 h2 Q' q=>hv i p g h1 h2 _ Q' q) (kL (_,U,(λz=>nomatch z),hQ)))
theorem J9(ha:s.heap.IsTuple a xs)(hb:s.heap.IsTuple b ys)(hl:xs.size=ys.size)(he:∀(j:Nat)(h1:j<xs.size)(h2:j<ys.size),EqW prog w A.in1 s xs[j] ys[j])(hu:A.units<cLine):EqW prog w A s (.ref a) (.ref b):=EqW.refs λE Q hQ=>by
 let((c1,d1,t1,l1),q,e1,n1,f1):=id ha;let((c2,d2,t2,l2),o2,e2,n2,f2):=id hb;cases e1;cases e2;cases f1;cases f2;refine wpAny_richCompare_same_room (_,q,U) (_,o2,U) F.slot_tuple_eq (Es F.slot_tuple_eq (_,q,U) F.entry_tuple_eq ?_ (F.args_tuple_eq_2 _ _)) hu;let(hp,g,d,tk,os):=s;let sub:=AutoSeq1.sub_tuple_tuple
 wp_walk using wpAny_loadPart' q,wpAny_loadPart' o2,wpAny_forIn_list _ (λr st s'=>st.1=Y/\s'=(hp,g,d,tk,os)/\∃i,r=(xs.toList.zip ys.toList).drop i) _
 case turn =>
  rintro⟨y,x⟩ r st s' ⟨n0,rfl,i,z⟩
  let lt:i<(xs.toList.zip ys.toList).length:=Nat.lt_of_not_le λg=>by rw[List.drop_of_length_le g]at z;cases z
  let lt':=lt;rw[NN,V9,V9]at lt';rw[List.drop_eq_getElem_cons lt,List.getElem_zip]at z;injection z with P K
  cases P;refine dD (he i (by omega) (by omega) _ _ ?_)
  wp_walk
  exact(U,U,i+1,K)
 case fin =>
  rintro⟨st,V⟩ s' ⟨n0,rfl,i,z⟩
  cases n0
  wp_walk
  refine(_,U,(λz=>nomatch z),?_)
  simpa [Builtin.Tuple.tupleCompareSizes,hl]using hQ
 case h=>exact(U,U,0,U)
def EF{c1 c2:Nat}{d1 P:Option J}{l1 l2:Array (Option B)}{R:Result->ϋ->Prop}(neg:Bool)(q:s.heap.get? a=Z {cls:=.type "list",dict:=d1,data:=.seq xs c1,slots:=l1})(o2:s.heap.get? b=Z {cls:=.type "list",dict:=P,data:=.seq ys c2,slots:=l2})(hl:xs.size=ys.size)
  (he:∀(j:Nat)(h1:j<xs.size)(h2:j<ys.size),EqW prog w A.in1 s xs[j] ys[j]) (z:R (.ok (.ret (.bool (!neg)))) s):∀k i:Nat,xs.size - i=k ->
  wpAny (model prog w) A.in1 (Builtin.«list.__eq__.loop» ([.ref a,.ref b,rawInt i,rawInt (if neg then 3 else 2)],[])) (λfin s'=>match fin with|.done f=>R (.ok f) s' |.again c'=>c'.quiet=O/\codeAny (model prog w) A c' R s') (λe s'=>R (.error e) s') s:=by
 intro k
 induction k with
 |zero =>
  intro i hi;let(hp,g,d,tk,os):=s;let g1:xs[((i:Nat):Int).toNat]?=none:=by simp;omega
  let g2:ys[((i:Nat):Int).toNat]?=none:=by simp;omega
  cases neg
  all_goals
   wp_walk using wpAny_loadPart' q,wpAny_loadPart' o2
   rw[g1,g2]
   wp_walk using wpAny_loadPart' q,wpAny_loadPart' o2
  ·show R (.ok (.ret (.bool (xs.size==ys.size)))) _;rw[hl,beq_self_eq_true];exact z
  ·show R (.ok (.ret (.bool (xs.size != ys.size)))) _;rw[hl,bne_self_eq_false];exact z
 |succ k K =>
  intro i hi;let(hp,g,d,tk,os):=s;let i1:i<xs.size:=by omega
  let i2:i<ys.size:=by omega
  let g1:xs[((i:Nat):Int).toNat]?=Z xs[i]:=by simp[i1]
  let g2:ys[((i:Nat):Int).toNat]?=Z ys[i]:=by simp[i2]
  let go:=K (i+1) (by omega)
  let nx:((i:Int)+1)=((i+1:Nat):Int):=by push_cast;rfl
  cases neg
  all_goals
   wp_walk using wpAny_loadPart' q,wpAny_loadPart' o2
   rw[g1,g2];refine dD (he i i1 i2 _ _ ?_)
   wp_walk
   rw[nx];exact(Rn plain_eq_loop _,U7 entry_eq_loop (WN plain_eq_loop _▸go))
theorem MI(neg:Bool)(ha:s.heap.IsList a xs)(V:s.heap.IsList b ys)(hl:xs.size=ys.size)(he:∀(j:Nat)(h1:j<xs.size)(h2:j<ys.size),EqW prog w A.in1 s xs[j] ys[j])(K:A.units<cLine)(P:Q (.bool (!neg)) s):
  wpAny (model prog w) A (richCompare (if neg then .NotEq else .Eq) (.ref a) (.ref b)) Q E s:=by
 let((k1,d1,t1,l1),q,e1,n1,f1):=id ha;let((k2,d2,t2,l2),o2,e2,n2,f2):=id V;cases e1;cases e2;cases f1;cases f2;let sub:=AutoSeq1.sub_list_list;let nl:¬(xs.size != ys.size)=true:=by simp[hl]
 let go:=λR hR=>EF (A:=A) (R:=R) neg q o2 hl he hR _ 0 U
 let(hp,g,d,tk,os):=s;cases neg
 ·refine wpAny_richCompare_same_room (_,q,U) (_,o2,U) F.slot_list_eq (wpAny_call (codeAny_call_builtin F.slot_list_eq.plain F.entry_list_eq (F.slot_list_eq.check _ _ _ _ _ _ _ _ (_,q,U) (F.args_list_eq_2 _ _) ?_))) K
  wp_walk using wpAny_loadPart' q,wpAny_loadPart' o2
  exact(Rn plain_eq_loop _,U7 entry_eq_loop (by rw[WN plain_eq_loop _];exact go (wants (λv s'=>v ≠ .notImplemented/\Q v s') E) ((λz=>nomatch z),P)))
 ·refine wpAny_richCompare_same_room (_,q,U) (_,o2,U) F.slot_list_ne (wpAny_call (codeAny_call_builtin F.slot_list_ne.plain F.entry_list_ne (F.slot_list_ne.check _ _ _ _ _ _ _ _ (_,q,U) (F.args_list_ne_2 _ _) ?_))) K
  wp_walk using wpAny_loadPart' q,wpAny_loadPart' o2
  exact(Rn plain_eq_loop _,U7 entry_eq_loop (by rw[WN plain_eq_loop _];exact go (wants (λv s'=>v ≠ .notImplemented/\Q v s') E) ((λz=>nomatch z),P)))
end
end PySem
namespace L2
open PySem PySem.Spec PyProof.Rows
variable{gV:List (J×Obj)}{A:Db}{G:List J}{neg:Bool}
section
variable{X:Cx}{K:BT}{dl:Dl}{H:Hp}
inductive FrT(t u:T):Prop
 |mk(i j:Int)(d e:T)(ks:List (Key×T))(h1:t=.t [.i i,.i j,d])(h2:u=.t [.i i,.i j,e])(h3:d.dof=Z ks)(h4:e.dof=Z ks)(h5:∀p∈ks,Dep 130 p.2)
def aI.at_(h:aI K dl H vs ts F):∀{i:Nat},vs[i]?=Z p->∃x G,ts[i]?=Z (p.1,x)/\ay K dl H p.2 x G :=
 h.ind (M:=λvs ts F=>∀{i:Nat}{p:Key×V},vs[i]?=Z p->∃x G,ts[i]?=Z (p.1,x)/\ay K dl H p.2 x G) (λe=>nomatch e) λk v x vs ts F G h _ g i p e=>by
  cases i with
  |zero=>cases e;exact(x,F,U,h)
  |succ i=>exact g e
def aI.ksT(h:aI K dl H vs ts F):vs.map (·.1)=ts.map (·.1):=h.ind U λ_ _ _ _ _ _ _ _ _ g=>by rw[xY,xY,g]
def Ni{σ:St}(I:Inv X gV σ H s)(hK:X.K=K)(h:FrT t u)(r1:ay K dl H v t F)(r2:ay K dl H w u G)(rx:RelV v x)(ry:RelV w y)(hu:A.units+140<cLine):EqW X.prog X.w A s x y:=by
 let(i,j,d,e,ks,U,U,hd,he,hp):=h;let(a,vs,U,h1,f1):=r1.tup;let(b,ws,U,h2,f2):=r2.tup;cases rx;cases ry;let(its,q1,p1,_):=I.tuple (SqT.of h1);let(bK,q2,p2,_):=I.tuple (SqT.of h2);let l1:=q1.length;let l2:=q2.length;let l3:=f1.len;let l4:=f2.len;let num:∀{k:Int}{v w:V}{F G:List J}{x y:B},ay K dl H v (.i k) F->ay K dl H w (.i k) G->RelV v x->RelV w y->EqW X.prog X.w A.in1 s x y:=λ{k}{v w F G x y} r1 r2 rx ry=>by
  let(c,hc,hE):=xQ (.inr (k,k,U,U)) r1 r2 rx ry;rw[hc.mpr rfl]at hE;exact hE.one
 refine J9 p1 p2 (by simp at l3 l4 ⊢;lia) (λj g1 g2=>?_) (by lia)
 let(v1,e1,q):=q1.at' g1;let(v2,e2,g):=q2.at' g2;let(t1,G1,z,Q):=dy f1 e1;let(t2,G2,av,P):=dy f2 e2
 generalize its.toArray[j]=x1 at q ⊢
 generalize bK.toArray[j]=x2 at g ⊢
 obtain _|_|_|j:=j
 ·cases z;cases av;exact num Q P q g
 ·cases z;cases av;exact num Q P q g
 ·cases z;cases av;let(a',k1,_,U,m1,m2,_):=Q.dof hd;let(b',k2,_,U,m3,m4,_):=P.dof he;cases q;cases g;let(_,z1,u1,r1,d1):=iB I.hok m1;let(_,z2,u2,r2,d2):=iB I.hok m3;refine Jd z1 z2 d1 d2 (by rw[<- KV.keys r1,<- KV.keys r2,m2.ksT,m4.ksT]) (λi p p' h1 h2=>?_) (by lia)
  let(x1,e1,_,s1):=Paired.at_ r1 h1;let(x2,e2,_,s2):=Paired.at_ r2 h2;let(y1,_,b1,c1):=m2.at_ e1;let(y2,_,b2,c2):=m4.at_ e2;rw[b1]at b2;let(_,U):=Prod.mk.inj (Option.some.inj b2);let(c,hc,hE):=zF I hK 130 A.in1.in1 _ _ _ _ _ _ _ _ (sX (hp _ (px b1))) c1 c2 s1 s2 (by lia)
  rw[hc.mpr rfl]at hE;exact hE.one
 ·simp at z
inductive Cm(K:BT)(neg:Bool)(x:V)(y:V)(H:Hp)(Q:VK):Prop
 |mk(dl ts us vs ws p q F G)(h1:x=.ref p)(h2:y=.ref q)(h3:SqL K H p vs)(h4:SqL K H q ws)(h5:aq K dl H vs ts F)(h6:aq K dl H ws us G)(h7:ts.length=us.length)(h8:∀(j:Nat)(x y:T),ts[j]?=Z x->us[j]?=Z y->FrT x y)(h9:Q (.bl (!neg)) H)
def CJ(neg:Bool)(hu:X.A.units+150<cLine)(hK:X.K=K):OpR X (compareOp (if neg then .NotEq else .Eq)) (Cm K neg):=by
 subst hK;intro gV s σ H x y v u Q I rx ry h;let(dl,ts,us,vs,ws,p,q,F,G,U,U,h1,h2,f1,f2,hl,ht,k):=h;cases rx;cases ry;let(its,q1,p1,_):=I.list h1;let(bK,q2,p2,_):=I.list h2;let l1:=q1.length;let l2:=q2.length;let l3:=f1.len;let l4:=f2.len;rw[show compareOp (if neg then .NotEq else .Eq) (.ref p) (.ref q)=richCompare (if neg then .NotEq else .Eq) (.ref p) (.ref q)from by cases neg <;> rfl]
 refine MI neg p1.isList p2.isList (by simp;lia) (λj g1 g2=>?_) (by lia) (.bl _,H,I,U,k)
 let(v1,e1,z):=q1.at' g1;let(v2,e2,g):=q2.at' g2;let(t1,G1,az,V):=dy f1 e1;let(t2,G2,av,P):=dy f2 e2;exact Ni I U (ht j t1 t2 az av) V P z g (by lia)
def Mm(g:X.A.units+150<cLine)(q:X.K=K):OpR X (compareOp .Eq) (Cm K ϊ):=CJ ϊ g q
def Mj(g:X.A.units+150<cLine)(q:X.K=K):OpR X (compareOp .NotEq) (Cm K O):=CJ O g q
inductive Uk(neg:Bool)(t u:T)(Q:T->Prop):Prop
 |mk(ts us)(h1:t.lst=Z ts)(h2:u.lst=Z us)(h3:ts.length=us.length)(h4:∀(j:Nat)(x y:T),ts[j]?=Z x->us[j]?=Z y->FrT x y)(h5:Q (.b (!neg)))
def Sy(neg:Bool):Q2:=λt u Q=>Uk neg t u Q
def yn:cO K (Cm K neg) (Sy neg):=by
 intro dl H x y t u F G Q R D q g hq k;let(ts,us,e1,e2,hl,V,hq):=hq;let(p,vs,G1,U,h1,f1):=q.MH e1;let(P,ws,G2,U,h2,f2):=g.MH e2;exact(dl,ts,us,vs,ws,p,P,G1,G2,U,U,h1,h2,f1,f2,hl,V,k _ _ [] H (.refl D) (.c (.b _)) b6 k4 hq)
end
variable{tg:Ev}{o:Ev}{b:Ev}{tv:TE}
section
variable{X:Cx}{K:BT}{dl:Dl}{H₀ H:Hp}{hs:List (V×T)}{σ:St}{q:Sq}{F:Nat->List J}
inductive Rf(i k:Nat)(qc:QT)(D:dZ)(q:Sq):Prop
 |mk (ts) (h1:q[i]?=Z (.o (.l ts))) (h2:i≠k) (h3:k<q.length) (h4:∀x∈ts,∃a b ns,x=.t [a,b,.d ns]/\T.imk ns=O/\ns.length<mu) (h5:∀us x,us.length=ts.length->x∈ts->qc ((q.set i (.o (.l us))).set k (.r x)) λb=>b=ϊ) (h6:∀us s,us.length=ts.length->D.nx ((q.set i (.o (.l us))).set k s))
inductive SpI(K:BT)(dl:Dl)(H₀:Hp)(hs:List (V×T))(q:Sq)(i k:Nat)(p:J)(vs:List V)(ts:List T)(j m:Nat)(σ:St)(H:Hp):Prop
 |mk(us s)(em:m=ts.length - j)(hj:j<=ts.length)(ul:us.length=ts.length)(un:∀n,j<=n->us[n]?=ts[n]?)(hσ:σ[i]?=Z (Z (.ref p)))(hH:H p=Z (.lst vs))(F)(r:Rel K dl H₀ hs H σ ((q.set i (.o (.l us))).set k s) F)
def GI{key:Key}{pos SI bZ UM pos':Pos}(hp:XW (model X.prog X.w) X.A X.env X.xe)(bG:X.calm=O)(hu:X.A.units+1<cLine)(hl:PE X l (bB i))(hg:PG X tg (eY k))(hc:QPT X K c tc qc)(ha:PSs X sa ta)
  (ho:PE X o (bB k)) (hb:PE X b tb) (bK:∀σ H R,R (.int 2) H->tb σ H R) (hi:PE X ix ty) (bx:∀σ H R,R (kV key) H->ty σ H R) (hv:PE X v tv) (a6:∀σ H R,R (.int 0) H->tv σ H R)
  (hs:∀x,foldedSetIterable l X.env x=pure x:=by intro _;rfl) (bt:gN b:=by intro _ _;rfl) (a7:swapsWith v (Z (.Subscript (.Subscript o b pos) ix SI)) bZ.line X.env=pure false:=by rfl) (hK:X.K=K:=by rfl):
  QPS X K (.For tg l [.If c sa [] UM,.Assign [.Subscript (.Subscript o b pos) ix SI] v bZ] [] pos') (OM (vj K (bB i)) (eY k) (OH (OL tc ta FK) (rn (tOp (rIx K) (bB k) tb) ty tv))) (Rf i k qc):=by
 subst hK;refine(A4 hp bG (mD hl) hg (bY (He hc.h ha wC) (gH (iS hu (oG sA ho hb bt) hi hv a7))) hs,λdl H₀ hs H σ q Dq D (F,r) hq E=>?_)
 let(ts,e1,av,hk,ht,Tj,Vo):=hq;let aN:=(kf.mp e1).1;let(v0,aM,rp):=r.g i _ _ e1 U;let(p,vs,G,U,_,h1,h2):=rp.r.lst;let hlen:=h2.len;refine(_,aM,p,U,(vs,SqL.of h1),SpI X.K dl H₀ hs q i k p vs ts,?_,?_)
 ·refine(_,ts,q[k],U,JG _,U,λ_ _=>rfl,aM,h1,F,?_)
  rw[km e1,W3 hk];exact r
 rintro j m σ H ⟨us,s,rfl,hj,ul,un,hσ,hH,F,r⟩
 by_cases P:j<ts.length
 ·refine .inr ((vs,vs[j],SqL.of hH,eO (by rw[hlen];exact P)),SpI X.K dl H₀ hs q i k p vs ts (j+1) (ts.length - (j+1)),λb8 H' h=>(ts.length - (j+1),XT _ _ P,h),λx H' y=>?_)
  let(U,y):=y
  replace y:=y vs (SqL.of hH)
  let(a,b,ns,ex,im,nl):=ht _ (Wr P);let tj:ts[j]?=Z (.t [a,b,.d ns]):=by rw[eO P,ex]
  let uj:=(un j (m9 _)).trans tj;let kl:k<((q.set i (.o (.l us))).set k s).length:=by rw[NP,NP];exact hk
  let qi:((q.set i (.o (.l us))).set k s)[i]?=Z (.o (.l us)):=by rw[E3 av.symm,JF aN]
  let(v1,aK,az):=r.g i _ _ qi U;rw[hσ]at aK;cases aK;let(p',vs',G',ep,eF,g1,g2):=az.r.lst;cases ep;rw[hH]at g1;cases g1;let(w1,F1,G1,a1,a2,a3,a4):=g2.itm uj;rw[a1]at y;cases y;let(t,ws,U,t1,t2):=a2.tup;let pF:p∈F i:=by rw[eF];exact jf
  let rx:Rp X.K dl _ (.ref t) (.t [a,b,.d ns]) F1:=(a2,λc hc=>az.n c (by rw[eF];exact j0 _ (a3.mem_iff.mpr (qF _ hc))))
  let rd:=r.rd.set (i:=k) (by rw[<- r.l];exact kl) rx
  rw[Ym]at rd;refine hc.s dl _ _ _ _ _ rd (Tj us _ ul (px tj)) λc H1 ev hz=>?_
  subst hz;let r2:=(r.LA (i:=k) (F':=[]) kl (.rf t,b6) λ_ _ _ _ _ _ z=>nomatch z).evo ev
  let V:=ev.k p _ hH (az.n p pF) (λ_ z=>nomatch z)
  rw[Ym]at r2;let aD:((q.set i (.o (.l us))).set k (.r (.rf t)))[i]?=Z (.o (.l us)):=by rw[E3 av.symm,JF aN]
  let Q:(σ.set k (Z (.ref t)))[i]?=Z (Z (.ref p)):=by rw[E3 av.symm];exact hσ
  let(v2,aF,a5):=r2.g i _ _ aD U;rw[Q]at aF;cases aF;let(p2,vs2,G2,bL,b0,m1,m2):=a5.r.lst;cases bL;rw[V]at m1;cases m1;let(w2,F3,G3,b1,b2,b3,b4):=m2.itm uj;rw[a1]at b1;cases b1;let(t',aP,et,s1,s2):=b2.tup;cases et;let(w3,F4,G4,c1,c2,c3,c4):=s2.itm (i:=2) U;let(d,kvs,G5,U,U,d1,d2):=c2.dic;obtain rfl:=d2.im im;let(ru,nu,md):=r2.modZ aD Q c2 (by rw[b0];exact((b3.trans (c3.append_right G3)).cons p).trans pm1) λH' u' b7 tf kG hr=>by
   let(Fa,q1,q2):=c4 H' _ u' b7 tf (λb hb=>kG b (j0 _ (qF _ hb))) hr
   rw[km c1]at q1;let(Fb,q3,q4):=b4 H' _ _ Fa tf (λb hb=>kG b (j0 _ (p5 _ hb))) (.t (tf.t _ _ s1) q1)
   rw[km a1]at q3;exact(p::Fb,.l (kG p jf _ V) q3,((q4.trans (q2.append_right G3)).cons p).trans pm1)
  let(q1,q2):=Rp.putD ru r2.d (.refl r2.d) (aI.put (k:=key) (.i 0) d2);let(F',r'):=md _ _ _ q2 q1 (by simp) (λb hb=>by rw[g5.mp hb];exact .inl jf)
  refine a6 _ _ _ (_,by rw[JF (by rw[<- r.l];exact kl)],bK _ _ _ (.inr (.inl (t,aP,2,.ref d,U,U,SqT.of s1,?_,bx _ _ _ (d,_,U,pN.k d1 (by rw[d2.len];exact nl),us.set j (.t [a,b,.d (cF ns key (.i 0))]),.r (.rf t),U,P,by rw[NP];exact ul,λn hn=>by rw[E3 (ui hn)];exact un n (QH hn),Q,?_,F',?_)))))
  ·exact lJ (by rw[s2.len];rfl) c1
  ·rw[aj];exact V;intro z;subst z;rw[d1]at V;cases V
  ·rw[List.set_comm _ _ av.symm,Ym]at r';exact r'
 ·exact .inl ((vs,SqL.of hH,by rw[hlen];exact W7 P),E.nx H σ _ (F,r) (Vo us s ul))
end
abbrev QEL:=Sq->(T->Sq->Prop)->Prop
def Uh(K:BT)(te:TE)(qe:QEL):Prop:=∀(dl:Dl)(H₀:Hp)(hs:List (V×T))(H:Hp)(σ:St)(q:Sq)(R:T->Sq->Prop)(Q:VK),fU K dl H₀ hs H σ q->qe q R->(∀v t q' H',fU K dl H₀ hs H' σ q'->Rp K dl H' v t []->R t q'->Q v H')->te σ H Q
structure sZ(X:Cx)(K:BT)(e:Ev)(te:TE)(qe:QEL):Prop where
 h:PE X e te
 s:Uh K te qe
variable{op:CmpOp}{rq:Q2}{x:Str}
section
variable{X:Cx}{K:BT}{i j k:Nat}{a e:Ev}{rest:List Ev}{te ta tb to:TE}{qe qb:QE}{qa qr:QEL}{ql:QL}{pos apos pos':Pos}{m:Str}{C f:J}{fd:Ch}{prs:List Str}{pl:uE}
def GP(h:QPE X K e te qe):sZ X K e te (λq R=>qe q λt=>t.im=O/\R t q):=(h.h,λdl H₀ hs H σ q R Q (F,r) hq g=>h.s dl H σ q _ _ r.rd hq λv t V H' P rv (im,z)=>by
 obtain rfl:=rv.r.im im;exact g v t q H' (F,r.evo P) rv z)
def nM(hc:Cls K C)(hm:Meth K C m f)(G:bb X.prog X.w X.K X.mg X.base CX0 k f fd prs (spL K 0 pl))(hr:cu k X.A)(hb:Binds K fd prs [])(ho:QPL X K j o to ql)(hK:X.K=K:=by rfl)
  {g:Sem Bool} (V:eval (.Call (.Attribute o m apos) [] [] pos) X.env=(do
   let z <- eval o X.env
   standAt apos.atName
   let(f,first) <- holding [z] (getMethod z m g)
   callWith pos f first (backTo pos (kh [] X.env)) (backToKw pos (keywordEach [] X.env))):=by rfl):
  sZ X K (.Call (.Attribute o m apos) [] [] pos) (lT C m (spL K 0 pl) [] E0 to f6) (wz j C m pl ql λ_ Q=>Q []) :=
 (by subst hK;exact rT ho.h hc hm G hr hb .nil kN V,λdl H₀ hs H σ q R Q r hq P=>nA ho.s qS r hq P)
def Cq(av:OpR X (compareOp op) r)(V:cO K r rq)(az:behindInMarks op b=ϊ)(ha:sZ X K a ta qa)(hb:QPE X K b tb qb):sZ X K (.Compare a [op] [b] pos) (tOp r ta tb) (λq R=>qa q λv q'=>qb q' λu=>rq v u λt=>t.im=O/\R t q') :=
 (CG av ha.h hb.h az,λdl H₀ hs H σ q R Q r hq kk=>ha.s dl H₀ hs H σ q _ _ r hq λv t q' H' (F,P) rv g=>by
  refine hb.s dl H' σ q' _ _ P.rd g λw u Fw H1 e1 z g=>(V dl H1 v w t u [] Fw _ _ e1.d (rv.evo P.d e1) z g λx y Fx H2 e2 rx _ _ aD=>?_)
  let(im,g):=aD;obtain rfl:=rx.r.im im;exact kk x y q' H2 (F,(P.evo e1).evo e2) rx g)
def Le{op}(h:sZ X K a ta qa):sZ X K (.BoolOp op [a] pos) ta qa:=(Hu h.h,h.s)
def wu(ha:sZ X K a ta qa)(V:sZ X K (.BoolOp .And (b::rest) pos) tb qr):sZ X K (.BoolOp .And (a::b::rest) pos) (B2 ta tb) (λq R=>qa q λt q'=>match t with|.b c=>if c=O then qr q' R else R (.b ϊ) q' |_=>False) :=
 (HB ha.h V.h,λdl H₀ hs H σ q R Q r hq P=>ha.s dl H₀ hs H σ q _ _ r hq λv t q' H' z rv g=>by
  cases t with
  |b c =>
   let(U,_):=rv.r.bl;refine(c,U,?_);cases c with
   |true=>exact V.s dl H₀ hs H' σ q' _ _ z g P
   |false=>exact P _ _ q' H' z rv g
  |_=>exact g.elim)
def KZ(he:sZ X K e te qa):QPS X K (.Return (Z e) pos) (FI te) (λD q=>qa q λt _=>D.rt t):=(k7 he.h,λdl H₀ hs H σ q Dq D r hq E=>he.s dl H₀ hs H σ q _ _ r hq λv t q' H' (F,g) rv P=>E.rt v t [] H' g.d rv b6 k4 g.f P)
def KU(Q:X.N.Nodup)(he:sZ X K e te qa)(hi:X.N[i]?=Z x:=by rfl)(hx:Loc X.env.scope x:=by first|exact .inl rfl|exact .inr U)(hs:swapsWith e (Z (.Name x pos')) pos.line X.env=pure false:=by rfl)(hf:AT X x:=by first|exact .inl rfl|exact .inr rfl|assumption):
  QPS X K (.Assign [.Name x pos'] e pos) (iG te (eY i)) (λD q=>qa q λt q'=>D.nx (q'.set i (.o t))):=(gZ Q hi hx he.h hs hf,λdl H₀ hs H σ q Dq D r hq E=>he.s dl H₀ hs H σ q _ _ r hq λv t q' H' (F,g) rv P=>E.nx H' _ _ (g.eT (.refl g.d) rv b6 k4) P)
end
end L2
namespace K20
open PySem L2
abbrev Ze:Str:="self"
abbrev Zf:Str:="_law_deal_here"
abbrev Zg:Str:="_law_f"
abbrev Zh:Str:="_law_state"
abbrev Zi:Str:="_law_room"
abbrev Zj:Str:="value"
abbrev Zk:Str:="_law_scope"
abbrev Zl:Str:="frame"
abbrev Zm:Str:="_law_program_here"
abbrev Zn:Str:="_law_kind"
abbrev Zo:Str:="_law_value_here"
abbrev Zp:Str:="piece"
abbrev Zq:Str:="_law_many"
abbrev Zr:Str:="_law_world"
abbrev Zs:Str:="_law_kinds_here"
abbrev Zt:Str:="_law_words_here"
abbrev Zu:Str:="_law_script"
abbrev Zv:Str:="_law_n"
abbrev Zw:Str:="functions"
abbrev Zx:Str:="_law_names"
abbrev Zy:Str:="_law_found"
abbrev Zz:Str:="_law_leasts_here"
abbrev ZA:Str:="_law_field"
abbrev ZB:Str:="_law_some"
abbrev ZC:Str:="_law_maker"
abbrev ZD:Str:="_law_args_here"
abbrev ZE:Str:="_law_fields"
abbrev ZF:Str:="_law_coins"
abbrev ZH:Str:="_law_known"
abbrev ZI:Str:="_law_cell"
abbrev ZJ:Str:="_law_other"
abbrev ZK:Str:="_law_body_here"
abbrev ZL:Str:="_law_piece"
abbrev ZM:Str:="_law_walk"
abbrev ZN:Str:="_law_base"
abbrev ZO:Str:="_law_makers"
abbrev ZP:Str:="_law_heads"
abbrev ZQ:Str:="_law_name"
abbrev ZR:Str:="_law_most"
abbrev ZS:Str:="_law_values"
def top(i:Nat):EQ:=PySem.Challenge.pw_pursewright_k20_pieces_done.main.body.getD i (.Pass (0,0,0,0))
abbrev iJ:EQ:=inClass (top 3) 0
theorem vV:aB [Ze,Zp,"above","arm"] [Ze,Zp,"above","arm"] (ao iJ):=by symm
abbrev gU:EQ:=inClass (top 14) 0
theorem tY:aB [Ze,Zw,"f","values"] [Ze,Zw,"f","values"] (ao gU):=by symm
abbrev dN:EQ:=inClass (top 14) 1
theorem kY:aB [Ze,"names"] [Ze,"names"] (ao dN):=by symm
abbrev f9:EQ:=inClass (top 14) 2
theorem q5:aB [Ze,"body","between"] [Ze,"body","between"] (ao f9):=by symm
abbrev dn:EQ:=inClass (top 14) 3
theorem kC:aB [Ze,Zj] [Ze,Zj] (ao dn):=by symm
abbrev cQ:EQ:=inClass (top 14) 4
theorem aX:aB [Ze,Zp,Zj,"between","maker","names","body"] [Ze] (ao cQ):=by symm
abbrev iI:EQ:=inClass (top 15) 0
theorem vU:aB [Ze,"program","f","args","coins"] [Ze,"program","f","args","coins"] (ao iI):=by symm
abbrev iH:EQ:=inClass (top 15) 1
theorem vT:aB [Ze] [Ze] (ao iH):=by symm
abbrev f7:EQ:=inClass (top 15) 2
theorem qZ:aB [Ze] [Ze] (ao f7):=by symm
abbrev gT:EQ:=inClass (top 15) 3
theorem tX:aB [Ze] [Ze] (ao gT):=by symm
abbrev gS:EQ:=inClass (top 15) 4
theorem tV:aB [Ze] [Ze] (ao gS):=by symm
abbrev jy:EQ:=inClass (top 15) 5
theorem yr:aB [Ze] [Ze] (ao jy):=by symm
abbrev kU:EQ:=inClass (top 15) 6
theorem kX:aB [Ze,Zl,"word","f"] [Ze,Zl] (ao kU):=by symm
abbrev fH:EQ:=inClass (top 15) 7
theorem ji:aB [Ze,Zl,Zj] [Ze,Zl] (ao fH):=by symm
abbrev fG:EQ:=inClass (top 15) 8
theorem jh:aB [Ze,Zl,"made"] [Ze,Zl] (ao fG):=by symm
abbrev e7:EQ:=inClass (top 15) 9
theorem ic:aB [Ze,Zl,"word","coins"] [Ze,Zl,"word"] (ao e7):=by symm
abbrev eZ:EQ:=inClass (top 15) 10
theorem nE:aB [Ze,"ending"] [Ze,"ending"] (ao eZ):=by symm
abbrev jA:EQ:=top 1
theorem iK:aB [Zw,"name","number","function"] [Zw,"name"] (ao jA):=by symm
abbrev vY:EQ:=top 4
theorem lZ:aB ["body","told","waiting","spot"] ["body"] (ao vY):=by symm
abbrev fI:EQ:=top 5
theorem nC:aB [Zp,"number"] [Zp,"number"] (ao fI):=by symm
abbrev q9:EQ:=top 6
theorem D7:aB ["body"] ["body"] (ao q9):=by symm
abbrev jB:EQ:=top 8
theorem fQ:aB [Zj,"makers","waiting","thing"] [Zj] (ao jB):=by symm
abbrev AE:EQ:=top 9
theorem Kz:aB [Zj] [Zj] (ao AE):=by symm
abbrev v9:EQ:=top 10
theorem gb:aB [Zj,"deep","layer","beneath","thing"] [Zj] (ao v9):=by symm
abbrev AH:EQ:=top 17
theorem l6:aB [Zu,ZN,"_law_cells","_law_number",ZI] [Zu,ZN] (ao AH):=by symm
abbrev AG:EQ:=top 18
theorem pU:aB [Zf,Zq,"_law_number","_law_one",ZJ] [Zf,Zq] (ao AG):=by symm
abbrev vW:EQ:=top 19
theorem ck:aB [Zf,Zq,"_law_letters","_law_core","_law_at","_law_turn",Zy,"_law_k","_law_own","_law_word","_law_near"] [Zf,Zq] (ao vW):=by symm
abbrev v5:EQ:=top 20
theorem cy:aB [Zf,Zt,"_law_form","_law_a","_law_b","_law_m",Zy,Zq,"_law_made","_law_k",ZO,"_law_j","_law_wide",ZE] [Zf,Zt] (ao v5):=by symm
abbrev AF:EQ:=top 21
theorem pT:aB [Zf,Zk,ZB,Zy,Zn,"_law_own"] [Zf,Zk,ZB] (ao AF):=by symm
abbrev v8:EQ:=top 22
theorem dw:aB [Zf,Zr,Zk,Zn,Zg,Zs,ZP,Zt,"_law_own","_law_x",ZC,ZE,Zx] [Zf,Zr,Zk,Zn,Zg] (ao v8):=by symm
abbrev AI:EQ:=top 23
theorem dF:aB [Zf,Zr,Zk,Zg,Zi,Zs,ZP,Zt,"_law_x",Zn,ZO,"_law_arms",ZC,ZE,"_law_more",Zx] [Zf,Zr,Zk,Zg,Zi] (ao AI):=by symm
abbrev AJ:EQ:=top 24
theorem b9:aB [Zf,Zr,Zk,Zg,Zi,Zs,ZP,Zt,Zn,"_law_form","_law_x",ZF,"_law_word","_law_y",ZJ,"_law_g",Zx,ZQ,ZO,ZC,ZE] [Zf,Zr,Zk,Zg,Zi] (ao AJ):=by symm
abbrev nF:EQ:=top 25
theorem bX:aB [Zf,ZR,Zi,Zt,Zs,ZP,Zg,Zq,"_law_params","_law_functions","_law_head",ZK] [Zf,ZR,Zi] (ao nF):=by symm
abbrev rh:EQ:=top 26
theorem dU:aB [Zs,Zy,"_law_turn",Zn,ZO,ZC,ZE,Zq] [Zs] (ao rh):=by symm
abbrev vX:EQ:=top 27
theorem cW:aB [Zf,Zs,Zz,Zn,Zi,ZB,ZC,ZE,"_law_spare","_law_parts",ZA,"_law_more"] [Zf,Zs,Zz,Zn,Zi] (ao vX):=by symm
abbrev rg:EQ:=top 28
theorem e9:aB [ZK,Zy,ZC,Zx,"_law_arm"] [ZK] (ao rg):=by symm
abbrev vZ:EQ:=top 29
theorem yp:aB [Zo,ZB] [Zo] (ao vZ):=by symm
abbrev wa:EQ:=top 30
theorem yq:aB [Zm,Zg,ZD,ZF,ZH] [Zm,Zg,ZD,ZF] (ao wa):=by symm
abbrev OW:EQ:=top 31
theorem qY:aB [Zh,Zv,Zx,ZS,Zg,"_law_at",ZH,"_law_more","_law_x",Zo] [Zh,Zv,Zx,ZS] (ao OW):=by symm
abbrev rj:EQ:=top 32
theorem D8:aB [Zh,"_law_end"] [Zh,"_law_end"] (ao rj):=by symm
abbrev v7:EQ:=top 33
theorem l5:aB [Zm,Zh,Zo,Zg,Zv,ZH] [Zm,Zh,Zo] (ao v7):=by symm
abbrev jC:EQ:=top 34
theorem c8:aB [Zh,Zv,ZL,Zo,"_law_ahead",ZC,Zx,"_law_arm"] [Zh,Zv,ZL,Zo] (ao jC):=by symm
abbrev AB:EQ:=top 35
theorem d3:aB [Zm,Zh,Zg,Zv,ZH,ZL,"_law_word",Zo,Zq,"_law_inside","_law_g",ZD] [Zm,Zh] (ao AB):=by symm
abbrev AK:EQ:=top 36
theorem l7:aB [Zf,Zm,Zg,Zi,Zz,ZD,"_law_param",Zn] [Zf,Zm,Zg,Zi] (ao AK):=by symm
abbrev s_same:EQ:=top 37
theorem pS:aB [ZM,Zh,"_law_frames","_law_frame",ZB] [ZM,Zh] (ao s_same):=by symm
abbrev oC:EQ:=top 38
theorem fb:aB [Zu,Zf,Zm,Zg,ZD,ZF,ZM,"_law_handed",ZJ,Zh,"_law_first","_law_turn",Zy] [Zu] (ao oC):=by symm
set_option genInjectivity false in
structure Adr where
 bx:J
 dX:J
 jT:Ch
 az:J
 de:J
 ja:Ch
 cq:J
 eJ:Ch
 dC:J
 g8:Ch
 b7:J
 dR:Ch
 bL:J
 c6:Ch
 aD:J
 dW:J
 jS:Ch
 fB:J
 jR:Ch
 dB:J
 g7:Ch
 eC:J
 i9:Ch
 eB:J
 i8:Ch
 gy:J
 lE:Ch
 iA:J
 oh:Ch
 c5:J
 gB:Ch
 cZ:J
 gA:Ch
 cN:J
 fL:Ch
 cM:J
 fK:Ch
 gJ:J
 oJ:Ch
 qh:J
 De:Ch
 dH:J
 jk:Ch
 mO:J
 zK:Ch
 gK:J
 oK:Ch
 xv:J
 Jh:Ch
 qz:J
 Dj:Ch
 xA:J
 Jl:Ch
 xy:J
 Jk:Ch
 qf:J
 Dc:Ch
 qm:J
 Dg:Ch
 xx:J
 Jj:Ch
 qy:J
 Di:Ch
 xB:J
 Jm:Ch
 sL:J
 BF:Ch
 kx:J
 vn:Ch
 mQ:J
 zM:Ch
 qg:J
 Dd:Ch
 mP:J
 zL:Ch
 qj:J
 Df:Ch
 qD:J
 Dk:Ch
 Ng:J
 T1:Ch
 mR:J
 zN:Ch
 qw:J
 Dh:Ch
 gL:J
 oM:Ch
 xu:J
 Jg:Ch
 xC:J
 Jn:Ch
 xw:J
 Ji:Ch
 vm:J
 Oo:Ch
structure Txt(K:BT)(mg:Str->Option B)(a:Adr):Prop where
 mV:Cls K a.bx
 xh:mg "Spot"=Z (.ref a.bx)
 xi:Mk K a.bx a.dX
 g6:bf K a.bx "piece"
 um:bf K a.bx "above"
 zb:bf K a.bx "arm"
 gQ:Fun K "__init__" "Spot.__init__" iJ a.dX a.jT
 ME:Meth K a.bx "__init__" a.dX
 j6:Binds K a.jT [Ze,Zp,"above","arm"] []
 aF:Cls K a.az
 zc:mg "Frame"=Z (.ref a.az)
 zd:Mk K a.az a.de
 se:bf K a.az "f"
 fJ:bf K a.az "number"
 aN:bf K a.az "piece"
 bJ:bf K a.az "names"
 fX:Fun K "__init__" "Frame.__init__" gU a.de a.ja
 JV:Meth K a.az "__init__" a.de
 mY:Binds K a.ja [Ze,Zw,"f","values"] []
 cU:Fun K "values_at" "Frame.values_at" dN a.cq a.eJ
 gm:Meth K a.az "values_at" a.cq
 gM:Binds K a.eJ [Ze,"names"] []
 fu:Fun K "go_on" "Frame.go_on" f9 a.dC a.g8
 gn:Meth K a.az "go_on" a.dC
 hJ:Binds K a.g8 [Ze,"body","between"] []
 cI:Fun K "go_on_with" "Frame.go_on_with" dn a.b7 a.dR
 du:Meth K a.az "go_on_with" a.b7
 dS:Binds K a.dR [Ze,Zj] []
 cv:Fun K "go_on_in_arm" "Frame.go_on_in_arm" cQ a.bL a.c6
 jr:Meth K a.az "go_on_in_arm" a.bL
 j7:Binds K a.c6 [Ze] []
 aK:Cls K a.aD
 CM:mg "Walk"=Z (.ref a.aD)
 CN:Mk K a.aD a.dW
 cS:bf K a.aD "functions"
 bG:bf K a.aD "running"
 fq:bf K a.aD "coins"
 iW:bf K a.aD "done"
 cY:bf K a.aD "ending"
 gP:Fun K "__init__" "Walk.__init__" iI a.dW a.jS
 MD:Meth K a.aD "__init__" a.dW
 oO:Binds K a.jS [Ze,"program","f","args","coins"] []
 gO:Fun K "turn" "Walk.turn" iH a.fB a.jR
 iX:Meth K a.aD "turn" a.fB
 j4:Binds K a.jR [Ze] []
 ft:Fun K "frames" "Walk.frames" f7 a.dB a.g7
 jG:Meth K a.aD "frames" a.dB
 kR:Binds K a.g7 [Ze] []
 fW:Fun K "purse" "Walk.purse" gT a.eC a.i9
 ur:Meth K a.aD "purse" a.eC
 xM:Binds K a.i9 [Ze] []
 fV:Fun K "steps" "Walk.steps" gS a.eB a.i8
 uq:Meth K a.aD "steps" a.eB
 xK:Binds K a.i8 [Ze] []
 jg:Fun K "end" "Walk.end" jy a.gy a.lE
 zh:Meth K a.aD "end" a.gy
 BI:Binds K a.lE [Ze] []
 kB:Fun K "do" "Walk.do" kU a.iA a.oh
 Br:Meth K a.aD "do" a.iA
 E9:Binds K a.oh [Ze,Zl] []
 eR:Fun K "do_give" "Walk.do_give" fH a.c5 a.gB
 pj:Meth K a.aD "do_give" a.c5
 sV:Binds K a.gB [Ze,Zl] []
 eQ:Fun K "do_make" "Walk.do_make" fG a.cZ a.gA
 ph:Meth K a.aD "do_make" a.cZ
 sU:Binds K a.gA [Ze,Zl] []
 dM:Fun K "do_coins" "Walk.do_coins" e7 a.cN a.fL
 nT:Meth K a.aD "do_coins" a.cN
 pE:Binds K a.fL [Ze,Zl,"word"] []
 dJ:Fun K "end_with" "Walk.end_with" eZ a.cM a.fK
 fh:Meth K a.aD "end_with" a.cM
 fM:Binds K a.fK [Ze,"ending"] []
 oU:Dn K mg "number_of" jA a.gJ a.oJ [Zw,"name"]
 DK:Dn K mg "spots" vY a.qh a.De ["body"]
 jm:Dn K mg "spots_beneath" fI a.dH a.jk [Zp,"number"]
 Ac:Dn K mg "pieces" q9 a.mO a.zK ["body"]
 oV:Dn K mg "makers_in" jB a.gK a.oK [Zj]
 JQ:Dn K mg "size" AE a.xv a.Jh [Zj]
 DN:Dn K mg "depth" v9 a.qz a.Dj [Zj]
 x9:Dn K mg "_law_deal" AH a.xA a.Jl [Zu,ZN]
 aZ:Dn K mg "_law_draw" AG a.xy a.Jk [Zf,Zq]
 DJ:Dn K mg "_law_words" vW a.qf a.Dc [Zf,Zq]
 DL:Dn K mg "_law_kinds" v5 a.qm a.Dg [Zf,Zt]
 tL:Dn K mg "_law_fill" AF a.xx a.Jj [Zf,Zk,ZB]
 x8:Dn K mg "_law_ended" v8 a.qy a.Di [Zf,Zr,Zk,Zn,Zg]
 JR:Dn K mg "_law_case" AI a.xB a.Jm [Zf,Zr,Zk,Zg,Zi]
 lP:Dn K mg "_law_body" AJ a.sL a.BF [Zf,Zr,Zk,Zg,Zi]
 vF:Dn K mg "_law_program" nF a.kx a.vn [Zf,ZR,Zi]
 Ad:Dn K mg "_law_leasts" rh a.mQ a.zM [Zs]
 x4:Dn K mg "_law_value" vX a.qg a.Dd [Zf,Zs,Zz,Zn,Zi]
 iF:Dn K mg "_law_listed" rg a.mP a.zL [ZK]
 x6:Dn K mg "_law_sizes" vZ a.qj a.Df [Zo]
 qH:Dn K mg "_law_begun" wa a.qD a.Dk [Zm,Zg,ZD,ZF]
 kK:Dn K mg "_law_on" OW a.Ng a.T1 [Zh,Zv,Zx,ZS]
 dE:Dn K mg "_law_halted" rj a.mR a.zN [Zh,"_law_end"]
 qG:Dn K mg "_law_given" v7 a.qw a.Dh [Zm,Zh,Zo]
 gR:Dn K mg "_law_case_step" jC a.gL a.oM [Zh,Zv,ZL,Zo]
 x5:Dn K mg "_law_step" AB a.xu a.Jg [Zm,Zh]
 JS:Dn K mg "_law_args" AK a.xC a.Jn [Zf,Zm,Zg,Zi]
 oA:Dn K mg "_law_same" s_same a.xw a.Ji [ZM,Zh]
 Up:Dn K mg "law" oC a.vm a.Oo [Zu]
 cD:mg "len"=Y
 Jv:mg "all"=Y
 lH:mg "list"=Y
 cT:mg "tuple"=Y
 Dv:mg "int"=Y
 Ju:mg "bool"=Y
 jZ:mg "dict"=Y
 lF:mg "reversed"=Y
 vB:mg "max"=Y
 T7:mg "min"=Y
 Du:mg "sum"=Y
 fS:mg "range"=Y
 dg:mg "isinstance"=Y
 Dt:mg "zip"=Y
 jY:mg "enumerate"=Y
 uD:∃t,mg "MOST_MAKERS"=Z (.int 200 t)
 uC:∃t,mg "MOST_WITHIN"=Z (.int 60 t)
def xk:Str:="abcdefghijklmnopqrstuvwxyz"
def zt:List Str:=["kind","def","to","let","make","call"]
def kQ:List Str:=["name","case","end","pay","get","give"]
def kept:List Str:=zt++kQ
def near:List Str:=["lets","callx","payer","ender","tom","nameb","makes","gets","giver","kinds","defs","cases"]
theorem CQ(h0:0<=i)(h1:i<26):atI (Str.cps xk).toList i=Z (so i.toNat):=by
 obtain⟨n,rfl⟩:∃n:Nat,i=n:=(i.toNat,by lia)
 let h2:n<26:=by lia
 let h3:∀n:Fin 26,atI (Str.cps xk).toList (n.val)=Z (so n.val):=by decide +kernel
 have:=h3 (n,h2)
 simpa using this
theorem Ib:∀w∈near,1<=w.length/\w.length<=20:=by decide +kernel
def tM(m:Mk1):T:=.t [.s m.1,.t (m.2.map .s)]
def tMs(ms:List Mk1):T:=.t (ms.map tM)
def tK(k:Kd):T:=.t [.s k.1,tMs k.2]
def tKs(ks:List Kd):T:=.t (ks.map tK)
theorem bF{f:α->T}(h:∀x,(f x).im=O):∀xs:List α,T.ims (xs.map f)=O
 |[]=>rfl
 |x::r=>by show((f x).im&&T.ims (r.map f))=O;rw[h x,bF h r];rfl
theorem C2(m:Mk1):(tM m).im=true:=by show(O&&(T.ims (m.2.map T.s)&&O))=O;rw[bF (f:=T.s) (λ_=>rfl)];rfl
theorem nX(m:List Mk1):(tMs m).im=true:=bF C2 m
theorem vh(m:Kd):(tK m).im=true:=by show(O&&((tMs m.2).im&&O))=O;rw[nX];rfl
theorem nY(m:List Kd):(tKs m).im=true:=bF vh m
inductive LC(ts:List L2.T)(Q:L2.T->Prop):Prop
 |mk(m:Int)(h1:ts=[.df,.i m])(h2:0<m)(h3:m<=52)(h4:∀ws:List Str,(ws.length:Int)=m->ws.Nodup->(∀w∈ws,1<=w.length/\w.length<=20)->Q (.l (ws.map .s)))
variable{ws:List Str}
theorem iw:inT (.s w) (ws.map T.s)=inV (.str w) (ws.map V.str):=by
 unfold inT inV;rw[XC,XC];rfl
theorem zB(ws:List Str):fls (ws.map T.s)=true:=by
 unfold fls;rw[Xj,NM];exact λ_ _=>rfl
theorem br(ws:List Str):T.ims (ws.map T.s)=true:=bF (λ_=>rfl) ws
theorem noq(h:z∈kQ):w++("q":Str)≠z:=by
 intro e;let h1:(w++("q")).cps.toList.getLast?=Z 113:=by simp[Str.cps_append,show(Str.ofString "q").cps=#[113]from by decide +kernel]
 rw[e]at h1;let h2:∀z∈kQ,z.cps.toList.getLast? ≠ Z 113:=by decide +kernel
 exact h2 z h h1
theorem PY:inV (.str (w++("q":Str))) (kQ.map V.str)=false:=by
 cases e:inV (.str (w++("q"))) (kQ.map V.str)with
 |false=>rfl
 |true=>exact absurd U (noq (M3.mp e))
theorem lu:inV (.str w) (kept.map V.str)=(inV (.str w) (zt.map V.str)||inV (.str w) (kQ.map V.str)):=by
 unfold kept inV;rw[zY,List.any_append]
theorem Nr{i:Int}(h0:0<=i)(h1:i<ws.length):∃w,atI (ws.map T.s) i=Z (.s w)/\w∈ws:=by
 let(v,e,hm):=BJ (xs:=ws.map T.s) h0 (by simpa using h1)
 let(w,hw,U):=tE.mp hm;exact(w,e,hw)
structure iE(ks:List Kd):Prop where
 k1:1<=ks.length
 k2:ks.length<=3
 nd:(ks.map (·.1)).Nodup
 mn:(names ks).Nodup
 ne:∀k∈ks,k.2 ≠ []/\k.2.length<=6
 fl:∀k∈ks,∀m∈k.2,m.2.length<=4/\∀f∈m.2,f∈ks.map (·.1)
inductive LH(ts:List L2.T)(Q:L2.T->Prop):Prop
 |mk(ws:List Str)(h1:ts=[.df,.l (ws.map .s)])(h2:ws.length=40)(h3:ws.Nodup)(h4:∀ks,iE ks->(∀m∈names ks,m∈ws)->Q (tKs ks))
theorem gq{j:Nat}(h:ws[j]?=Z w):atI (ws.map T.s) (j:Int)=Z (.s w):=cH (by rw[j5,h];rfl)
theorem T3(h:ws.length=40):eV (ws.map T.s) (Z 4) Y++eV (ws.map T.s) Y (Z 4)=(ws.drop 4++ws.take 4).map T.s:=by
 unfold eV;let q:HT.sIx (ws.map T.s).length 0 (Z 4)=4:=by rw[ej,h];rfl
 let g:HT.sIx (ws.map T.s).length (ws.map T.s).length (Z 4)=4:=by rw[ej,h];rfl
 rw[q,g];show(List.drop 4 (ws.map T.s)).take ((ws.map T.s).length - 4)++(List.drop 0 (ws.map T.s)).take (4 - 0)=_;rw[XE (by rw[Wo];lia),List.drop_zero,zY,Xu,W9]
theorem Jq(f:α->β)(xs:List α)(lo hi:Option Int):eV (xs.map f) lo hi=(eV xs lo hi).map f:=by
 unfold eV;rw[ej,<- Xu,<- W9]
theorem CZ(ws:List Str)(lo hi:Option Int):T.ims (eV (ws.map T.s) lo hi)=true:=by rw[Jq];exact br _
theorem SM(x y:Int)(b:Bool):atI [T.i x,T.i y] (if b=O then 1 else 0)=Z (.i (if b=O then y else x)):=by cases b <;> rfl
theorem Oc(h0:0<=r)(h1:r<3):∃v,atI [T.i x,T.i y,T.i z] r=Z (.i v)/\(v=x\/v=y\/v=z):=by
 obtain⟨n,rfl⟩:∃n:Nat,r=n:=(r.toNat,by lia)
 match n,h1 with
 | 0,_=>exact(x,U,.inl U)
 | 1,_=>exact(y,U,.inr (.inl U))
 | 2,_=>exact(z,U,.inr (.inr U))
 |n+3,h=>lia
theorem leK(a b:Nat)(h:Nat.ble a b=true:=by rfl):a<=b:=Nat.le_of_ble_eq_true h
theorem BL{α:Type}{p:α->Prop}:∀x∈([]:List α),p x:=λ_ h=>absurd h B9
theorem all1{α:Type}{p:α->Prop}{a:α}(h:p a):∀x ∈ [a],p x:=λ_ hx=>g5.mp hx▸h
theorem all2{α:Type}{p:α->Prop}{a b:α}(h:p a)(h2:p b):∀x ∈ [a,b],p x:=λx hx=>(kz.mp hx).elim (λe=>e▸h) (all1 h2 x)
theorem VI{α:Type}{p:α->Prop}{a b c:α}(h:p a)(h2:p b)(h3:p c):∀x ∈ [a,b,c],p x:=λx hx=>(kz.mp hx).elim (λe=>e▸h) (all2 h2 h3 x)
structure tm(ws M:List Str)(many:Nat)(ks:List Kd)(k made:Nat):Prop where
 nm:ks.map (·.1)=ws.take k
 mn:names ks=M.take made
 b1:made<=6*k
 ne:∀k∈ks,k.2 ≠ []/\k.2.length<=6
 fl:∀k∈ks,∀m∈k.2,m.2.length<=4/\∀f∈m.2,f∈ws.take many
variable{ks:List Kd}{ms:List Mk1}
theorem tm.next(D:tm ws M many ks k made)(hn:ws[k]?=Z n)(hm:M.take made++ms.map (·.1)=M.take g)(h0:ms ≠ [])(h1:ms.length<=6)(h2:g<=made+ms.length)(h3:∀m∈ms,m.2.length<=4/\∀f∈m.2,f∈ws.take many):
  tm ws M many (ks ++ [(n,ms)]) (k+1) g where
 nm:=by rw[zY,D.nm,<- take_one hn];rfl
 mn:=by
  have:names (ks ++ [(n,ms)])=names ks++ms.map (·.1):=by unfold names;simp
  rw[this,D.mn,hm]
 b1:=by have:=D.b1;lia
 ne:=λx hx=>by
  obtain h|h:=p7.mp hx
  ·exact D.ne x h
  ·rw[g5.mp h];exact(h0,h1)
 fl:=λx hx=>by
  obtain h|h:=p7.mp hx
  ·exact D.fl x h
  ·rw[g5.mp h];exact h3
theorem tm.good(D:tm ws M many ks many made)(hw:ws.Nodup)(q:M.Nodup)(h1:1<=many)(h2:many<=3)(hl:3<=ws.length):iE ks:=by
 let hlen:ks.length=many:=by
  have:=congrArg V3 D.nm
  rw[ej,z7]at this
  lia
 refine(by lia,by lia,by rw[D.nm];exact hw.sublist (Wv _ _),by rw[D.mn];exact q.sublist (Wv _ _),D.ne,λk g m hm=>?_)
 let z:=D.fl k g m hm;rw[D.nm];exact z
theorem xl:decide ((Sum.inr a:Key)=.inr b)=decide (a=b):=by
 by_cases h:a=b
 ·simp
 ·rw[decide_eq_false h,decide_eq_false λz=>h (Sum.inr.inj z)]
variable{mg:Str->Option B}
theorem never(h:∀ts Q,¬ sp ts Q):bb P w K mg base CX k f fd ps (spQ K sp) :=
 (λ_ _ _ _ g=>by let(_,ts,_,Qp,_,_,z,_):=g;exact(h ts Qp z).elim,λ_ _ _ _ _ _ _ _ _ _ _ _ _ g=>by let(_,ts,_,Qp,_,_,z,_):=g;exact(h ts Qp z).elim)
def kEn(k:Kd):Key×T:=(.inr k.1,tMs k.2)
theorem mG:∀ks:List Kd,fe (ks.map tK)=Z (ks.map kEn)
 |[]=>rfl
 |k::r=>by
  show(match(Z (.inr k.1)),fe (r.map tK)with|some k',Z r=>Z ((Prod.mk k' (tMs k.2))::r)|_,_=>Y)=_
  rw[mG r];rfl
theorem zg:∀{ps acc:List (Key×T)},(ps.map (·.1)).Nodup->(∀p∈ps,∀q∈acc,q.1≠p.1)->aO acc ps=acc++ps
 |[],acc,_,_=>by simp[aO]
 |p::ps,acc,h,hd=>by
  let h':=u3.mp h;let e:cF acc p.1 p.2=acc ++ [p]:=by
   unfold cF;rw[if_neg];intro z;let(q,hq,P):=Wq.mp z;exact hd p (by simp) q hq (of_decide_eq_true P)
  show aO (cF acc p.1 p.2) ps=_;rw[e,zg h'.2 λK g q hq=>?_]
  ·simp
  ·obtain z|z:=p7.mp hq
   ·exact hd K (by simp[g]) q z
   ·rw[g5.mp z];exact λe=>h'.1 (tE.mpr (K,g,e.symm))
theorem MJ(h:k∈ks.map (·.1)):bI (ks.map kEn) (.inr k)=Z (tMs (fA ks k)):=by
 unfold bI fA
 induction ks with
 |nil=>cases h
 |cons x r g =>
  by_cases e:x.1=k
  ·rw[xY,Dy,Dy,show(kEn x).1=.inr x.1 from U,xl,decide_eq_true e];rfl
  ·let h':k∈r.map (·.1):=by
    obtain z|z:=kz.mp h
    ·exact absurd z.symm e
    ·exact z
   rw[xY,Dy,Dy,show(kEn x).1=.inr x.1 from U,xl,decide_eq_false e];exact g h'
theorem Nm(h:(ks.map (·.1)).Nodup):aO [] (ks.map kEn)=ks.map kEn:=by
 rw[zg]
 ·rfl
 ·rw[Qo]
  have:(ks.map ((λx=>x.1) ∘ kEn))=(ks.map (·.1)).map Sum.inr:=by rw[Qo];rfl
  rw[this];exact WY.mpr (h.imp λg z=>g (Sum.inr.inj z))
 ·intro p _ q hq;cases hq
theorem nU(g:(ks.map (·.1)).Nodup)(h:k∈ks.map (·.1)):bI (aO [] (ks.map kEn)) (.inr k)=Z (tMs (fA ks k)):=by rw[Nm g,MJ h]
structure JE(ks:List Kd):Prop where
 k1:1<=ks.length
 k2:ks.length<=6
 nd:(ks.map (·.1)).Nodup
 mn:(names ks).Nodup
 ne:∀k∈ks,k.2 ≠ []/\k.2.length<=6
 fl:∀k∈ks,∀m∈k.2,m.2.length<=4/\∀f∈m.2,f∈ks.map (·.1)
theorem QV(h0:0<=r)(h1:r.toNat<ws.length):atI (ws.map L2.T.s) r=Z (.s ws[r.toNat]):=by
 have:=gq (ws:=ws) (j:=r.toNat) (w:=ws[r.toNat]) (by simp[h1])
 rwa [Wa h0]at this
abbrev Sc:=List (Str×Str)
def tP(p:Str×Str):T:=.t [.s p.1,.s p.2]
theorem jM(p:Str×Str):(tP p).im=true:=rfl
def Fills(sc:Sc)(ns fs:List Str):Prop:=ns.length=fs.length/\∀p∈ns.zip fs,p∈sc
variable{sc:Sc}{ns:List Str}
theorem Fills.snoc(h:Fills sc ns fs)(hp:(n,f)∈sc):Fills sc (ns ++ [n]) (fs ++ [f]):=by
 refine(by simp[h.1],λp g=>?_)
 rw[List.zip_append h.1]at g;obtain z|z:=p7.mp g
 ·exact h.2 p z
 ·simp at z;rw[z];exact hp
inductive A9(ts:List L2.T)(Q:L2.T->Prop):Prop
 |mk(sc:Sc)(fs:List Str)(t:T)(h1:(t=.t (fs.map .s)\/t=.l (fs.map .s)))(h2:ts=[.df,.l (sc.map tP),t])(h3:sc.length<=60)(h4:fs.length<=1000)(h5:Q .n)(h6:∀ns:List Str,Fills sc ns fs->Q (.t (ns.map .s)))
abbrev Hd:=Str×Sc×Str
def tH(h:Hd):T:=.t [.s h.1,.t (h.2.1.map tP),.s h.2.2]
theorem Te(h:Hd):(tH h).im=true:=by
 show(O&&(T.ims (h.2.1.map tP)&&O))=O;rw[bF jM];rfl
def tW(ks:List Kd)(hs:List Hd)(ws:List Str):T:=.t [tKs ks,.l (hs.map tH),.l (ws.map .s)]
structure Wld(ks:List Kd)(hs:List Hd)(ws:List Str):Prop where
 gk:JE ks
 wl:ws.length=40
 wn:ws.Nodup
 h1:1<=hs.length
 h8:hs.length<=8
 hn:(hs.map (·.1)).Nodup
 hp:∀h∈hs,h.2.1.length<=4/\(∀p∈h.2.1,p.2∈ks.map (·.1))/\h.2.1.map (·.1)=ws.take h.2.1.length/\h.2.2∈ks.map (·.1)
structure sY(ks:List Kd)(ws:List Str)(h:Hd)(sc:Sc):Prop where
 nm:sc.map (·.1)=ws.take sc.length
 ln:sc.length<=30
 kd:∀p∈sc,p.2∈ks.map (·.1)
 p1:h.2.1.length<=sc.length
 pf:sc.take h.2.1.length=h.2.1
abbrev Arm:=Str×List Str×T×Nat
def tA(a:Arm):T:=.t [.s a.1,.t (a.2.1.map .s),a.2.2.1]
inductive Snd(ks:List Kd)(hs:List Hd)(r:Str):Nat->Sc->T->Prop
 |give{sc:Sc}{x:Str}:(x,r)∈sc->Snd ks hs r 1 sc (.t [.s "give",.s x])
 |vq{n:Nat}{sc:Sc}{w:Str}{c:Int}{b:T}:((w="pay" \/ w="get")/\1<=c/\c<=1000)->Snd ks hs r n sc b->Snd ks hs r (n+1) sc (.t [.s w,.i c,b])
 |name{n:Nat}{sc:Sc}{x y k:Str}{b:T}:(y,k)∈sc->x ∉ sc.map (·.1)->Snd ks hs r n (sc ++ [(x,k)]) b->Snd ks hs r (n+1) sc (.t [.s "name",.s x,.s y,b])
 |make{n:Nat}{sc:Sc}{x:Str}{m:Mk1}{kd:Kd}{ns:List Str}{b:T}:kd∈ks->m∈kd.2->Fills sc ns m.2->x ∉ sc.map (·.1)->Snd ks hs r n (sc ++ [(x,kd.1)]) b->Snd ks hs r (n+1) sc (.t [.s "make",.s x,.s m.1,.t (ns.map .s),b])
 |call{n:Nat}{sc:Sc}{x:Str}{h:Hd}{ns:List Str}{b:T}:h∈hs->Fills sc ns (h.2.1.map (·.2))->x ∉ sc.map (·.1)->Snd ks hs r n (sc ++ [(x,h.2.2)]) b->Snd ks hs r (n+1) sc (.t [.s "call",.s x,.s h.1,.t (ns.map .s),b])
 |case{sc:Sc}{x:Str}{kd:Kd}(arms:List Arm):(x,kd.1)∈sc->kd∈ks->arms.map (·.1)=kd.2.map (·.1) ->
   (∀(i:Nat)(a:Arm)(m:Mk1),arms[i]?=Z a->kd.2[i]?=Z m->a.2.1.length=m.2.length/\(sc.map (·.1)++a.2.1).Nodup) ->
   (∀(i:Nat)(a:Arm)(m:Mk1),arms[i]?=Z a->kd.2[i]?=Z m->Snd ks hs r a.2.2.2 (sc++a.2.1.zip m.2) a.2.2.1) ->
   Snd ks hs r (1+(arms.map (·.2.2.2)).sum) sc (.t [.s "case",.s x,.t (arms.map tA)])
theorem Snd.im(h:Snd ks hs r n sc b):b.im=true:=by
 induction h with
 |give _=>rfl
 |vq _ _ g=>show(O&&(O&&(T.im _&&O)))=O;rw[g];rfl
 |name _ _ _ g=>show(O&&(O&&(O&&(T.im _&&O))))=O;rw[g];rfl
 |make _ _ _ _ _ g=>show(O&&(O&&(O&&(T.ims _&&(T.im _&&O)))))=O;rw[g,br];rfl
 |call _ _ _ _ g=>show(O&&(O&&(O&&(T.ims _&&(T.im _&&O)))))=O;rw[g,br];rfl
 |@case sc x kd arms _ _ hn _ _ g =>
  show(O&&(O&&(T.ims (arms.map tA)&&O)))=O
  have:T.ims (arms.map tA)=true:=by
   let go:∀l,(∀t∈l,t.im=O)->T.ims l=true:=by
    intro l
    induction l with
    |nil=>intro _;rfl
    |cons t r g=>intro h;show(t.im&&T.ims r)=O;rw[h t jf,g λt q=>h t (j0 _ q)];rfl
   refine go _ λt q=>?_
   let(a,ha,U):=tE.mp q;let(i,hi,e):=BR ha;let hl:=by have:=congrArg V3 hn;simpa using this.symm
   let z:=g i a (kd.2[i]'(by lia)) (by rw[eO hi,e]) (eO _)
   show(O&&(T.ims (a.2.1.map .s)&&(a.2.2.1.im&&O)))=O;rw[z,br];rfl
  rw[this];rfl
def tb:Nat->List Nat
 | 0=>[2]
 |n+1=>(1+max ((tb n).getD 0 2) (max ((tb n).getD 1 2) (max (2*(tb n).getD 2 2) (max (3*(tb n).getD 3 2) (max (4*(tb n).getD 4 2) (max (5*(tb n).getD 5 2) (6*(tb n).getD 6 2)))))))::tb n
def sz(n:Nat):Nat:=(tb n).getD 0 2
theorem jx:∀n k:Nat,(tb n).getD k 2=sz (n - k)
 | 0,0=>rfl
 | 0,k+1=>by rw[Nat.zero_sub];rfl
 |n+1,0=>rfl
 |n+1,k+1=>by
  rw[Nat.add_sub_add_right,<- jx n k];rfl
theorem Ka(n:Nat):sz (n+1)=1+max (sz n) (max (sz (n - 1)) (max (2*sz (n - 2)) (max (3*sz (n - 3)) (max (4*sz (n - 4)) (max (5*sz (n - 5)) (6*sz (n - 6))))))):=by
 show 1+max ((tb n).getD 0 2) _=_;rw[jx,jx,jx,jx,jx,jx,jx];rfl
theorem Ar(n:Nat):1+sz n<=sz (n+1):=by exact Xh (WG _ _) 1
theorem FT:∀n:Nat,2<=sz n
 | 0=>m9 _
 |n+1=>by have:=Ar n;have:=FT n;lia
variable{n:Nat}
theorem Kc(h1:1<=k)(h6:k<=6):1+k*sz (n - k)<=sz (n+1):=by
 rw[Ka]
 have:k=1\/k=2\/k=3\/k=4\/k=5\/k=6:=by lia
 let r:∀{a b c:Nat},a<=c->a<=max b c:=λh=>xZ h (Nat.le_max_right _ _)
 refine Xh ?_ 1;obtain rfl|rfl|rfl|rfl|rfl|rfl:=this
 ·rw[Nat.one_mul];exact r (WG _ _)
 ·exact r (r (WG _ _))
 ·exact r (r (r (WG _ _)))
 ·exact r (r (r (r (WG _ _))))
 ·exact r (r (r (r (r (WG _ _)))))
 ·exact r (r (r (r (r (r (m9 _))))))
theorem Kb(h:n<=m):sz n<=sz m:=by
 induction h with
 |refl=>exact m9 _
 |step _ g=>exact xZ g (xZ (Nat.le_add_left _ _) (Ar _))
theorem RJ:sz 30<=50000:=by decide +kernel
variable{kd:Kd}
theorem mJ(g:(ks.map (·.1)).Nodup)(h:kd∈ks):fA ks kd.1=kd.2:=by
 unfold fA
 induction ks with
 |nil=>cases h
 |cons x r q =>
  rw[xY,u3]at g;by_cases e:x.1=kd.1
  ·obtain z|z:=kz.mp h
   ·subst z;simp
   ·exact absurd (tE.mpr (kd,z,e.symm)) g.1
  ·rw[Dy,decide_eq_false e];obtain z|z:=kz.mp h
   ·exact absurd (by rw[z]) e
   ·exact q g.2 z
theorem Oh(h:k∈ks.map (·.1)):∃kd∈ks,kd.1=k:=by
 let(kd,h1,h2):=tE.mp h;exact(kd,h1,h2)
variable{x:Str}
theorem sY.fresh(S:sY ks ws h sc)(wn:ws.Nodup)(hx:ws[sc.length]?=Z x):x ∉ sc.map (·.1):=by
 rw[S.nm];intro z;let q:=wn.sublist (Wv (sc.length+1) ws);rw[<- take_one hx]at q;exact(Fj.mp q).2.2 x z x (by simp) U
theorem sY.snoc(S:sY ks ws h sc)(hx:ws[sc.length]?=Z x)(hl:sc.length<30)(g:k∈ks.map (·.1)):sY ks ws h (sc ++ [(x,k)]) where
 nm:=by rw[zY,S.nm,pL];exact take_one hx
 ln:=by simp;lia
 kd:=λp hp=>by
  obtain z|z:=p7.mp hp
  ·exact S.kd p z
  ·rw[g5.mp z];exact g
 p1:=by rw[pL];have:=S.p1;lia
 pf:=by rw[Xb S.p1];exact S.pf
inductive pW(ts:List L2.T)(Q:L2.T->Prop):Prop
 |mk(ks:List Kd)(hs:List Hd)(ws:List Str)(sc:Sc)(f:Nat)(h:Hd)(h1:ts=[.df,tW ks hs ws,.l (sc.map tP),.s h.2.2,.i f])(h2:Wld ks hs ws)(h3:hs[f]?=Z h)(h4:sY ks ws h sc)(h5:∀n b,n<=2->Snd ks hs h.2.2 n sc b->Dep 2 b->Q b)
inductive k8(N:Nat)(ts:List L2.T)(Q:L2.T->Prop):Prop
 |mk(ks:List Kd)(hs:List Hd)(ws:List Str)(sc:Sc)(f:Nat)(h:Hd)(u:Int)(h1:ts=[.df,tW ks hs ws,.l (sc.map tP),.i f,.rm u])(h2:Wld ks hs ws)(h3:hs[f]?=Z h)(h4:sY ks ws h sc)(h5:sc.length<=21)(h6:u.toNat<N)(h7:∀n b,n<=sz u.toNat->Snd ks hs h.2.2 n sc b->Dep (3*u.toNat+2) b->Q b)
inductive Px(N:Nat)(ts:List L2.T)(Q:L2.T->Prop):Prop
 |mk(ks:List Kd)(hs:List Hd)(ws:List Str)(sc:Sc)(f:Nat)(h:Hd)(u:Int)(h1:ts=[.df,tW ks hs ws,.l (sc.map tP),.i f,.rm u])(h2:Wld ks hs ws)(h3:hs[f]?=Z h)(h4:sY ks ws h sc)(h5:sc.length<=17)(h6:sc ≠ [])(h7:u.toNat<N)(h8:∀n b,n<=sz (u.toNat+1)->Snd ks hs h.2.2 n sc b->Dep (3*u.toNat+5) b->Q b)
theorem Jo{xs:List α}(h:n<=xs.length):eV xs Y (Z (n:Int))=xs.take n:=by
 unfold eV;rw[HT.Gn,HT.KA,XG h,List.drop_zero,Nat.sub_zero]
theorem Fills.self:Fills sc ((sc.take n).map (·.1)) ((sc.take n).map (·.2)):=by
 refine(by simp,λp hp=>?_)
 rw[List.zip_map',tE]at hp;let(q,hq,U):=hp;exact Wg hq
theorem BW{fs:List Str}(h:ns.length=fs.length):(ns.zip fs).map (·.1)=ns:=by
 rw[Ys (by lia)]
theorem sY.more(S:sY ks ws h sc)(wn:ws.Nodup)(e:ns=(ws.drop sc.length).take fs.length)(hl:sc.length+fs.length<=30)(hw:40<=ws.length)(K:∀f∈fs,f∈ks.map (·.1)):
  ns.length=fs.length/\(sc.map (·.1)++ns).Nodup/\sY ks ws h (sc++ns.zip fs):=by
 let l1:ns.length=fs.length:=by rw[e,z7,Wo];lia
 let g:sc.map (·.1)++ns=ws.take (sc.length+fs.length):=by rw[S.nm,e,List.take_add]
 let q:(ns.zip fs).length=fs.length:=by rw[NN];lia
 refine(l1,by rw[g];exact wn.sublist (Wv _ _),(?_,?_,λp hp=>?_,?_,?_))
 ·rw[zY,BW l1,g,pL,q]
 ·rw[pL];lia
 ·obtain z|z:=p7.mp hp
  ·exact S.kd p z
  ·exact K p.2 (UU z).2
 ·rw[pL];have:=S.p1;lia
 ·rw[Xb S.p1];exact S.pf
variable{arms:List Arm}{YA:Nat}
theorem OP(h:∀a∈arms,a.2.2.2<=YA):(arms.map (·.2.2.2)).sum<=arms.length*YA:=by
 induction arms with
 |nil=>simp
 |cons a r g =>
  let h1:=h a jf;let h2:=g λb q=>h b (j0 _ q)
  rw[xY,V5,rl,Nat.add_mul]
  lia
structure Oy(ks:List Kd)(hs:List Hd)(r:Str)(sc:Sc)(YA D:Nat)(a:Arm)(m:Mk1):Prop where
 nm:a.1=m.1
 ln:a.2.1.length=m.2.length
 nd:(sc.map (·.1)++a.2.1).Nodup
 sn:Snd ks hs r a.2.2.2 (sc++a.2.1.zip m.2) a.2.2.1
 sz:a.2.2.2<=YA
 dp:Dep D a.2.2.1
structure uI(ks:List Kd)(hs:List Hd)(r:Str)(sc:Sc)(YA D:Nat)(arms:List Arm)(ms:List Mk1):Prop where
 ln:arms.length=ms.length
 ok:∀(i:Nat)(a:Arm)(m:Mk1),arms[i]?=Z a->ms[i]?=Z m->Oy ks hs r sc YA D a m
variable{hs:List Hd}{r:Str}{D:Nat}{m:Mk1}
theorem uI.snoc(h:uI ks hs r sc YA D arms ms)(ha:Oy ks hs r sc YA D a m):uI ks hs r sc YA D (arms ++ [a]) (ms ++ [m]):=by
 refine(by simp[h.ln],λi q m' h1 h2=>?_)
 by_cases hi:i<arms.length
 ·rw[u4 hi]at h1;rw[u4 (by rw[<- h.ln];exact hi)]at h2
  exact h.ok i q m' h1 h2
 ·rw[vr (by lia)]at h1
  rw[vr (by rw[<- h.ln];lia),<- h.ln]at h2
  let g:i - arms.length=0:=by
   have:=(kf.mp h1).1
   simp at this
   lia
  rw[g]at h1 h2;simp at h1 h2;subst h1 h2;exact ha
theorem uI.snd(h:uI ks hs r sc YA D arms kd.2)(hx:(x,kd.1)∈sc)(z:kd∈ks):Snd ks hs r (1+(arms.map (·.2.2.2)).sum) sc (.t [.s "case",.s x,.t (arms.map tA)])/\(arms.map (·.2.2.2)).sum<=arms.length*YA:=by
 refine(.case arms hx z ?_ (λi a m h1 h2=>((h.ok i a m h1 h2).ln,(h.ok i a m h1 h2).nd)) (λi a m h1 h2=>(h.ok i a m h1 h2).sn),OP λa ha=>?_)
 ·apply Yh
  intro i;rw[j5,j5];by_cases hi:i<arms.length
  ·let q:=eO hi;let g:kd.2[i]?=Z (kd.2[i]'(by rw[<- h.ln];exact hi)):=eO _
   rw[q,g];exact congrArg Z (h.ok i _ _ q g).nm
  ·rw[VX (by omega),VX (by rw[<- h.ln];omega)]
   rfl
 ·let(i,hi,e):=BR ha;exact(h.ok i a _ (by rw[eO hi,e]) (eO (by rw[<- h.ln];exact hi))).sz
theorem jF{xs:List α}{r:Int}(h0:0<=r)(h1:r<xs.length):∃x∈xs,atI (xs.map f) r=Z (f x):=by
 let h:r.toNat<xs.length:=by lia
 refine(xs[r.toNat],Wr h,?_)
 have:=cH (xs:=xs.map f) (by rw[j5,eO h];rfl)
 rwa [Wa h0]at this
theorem max_two{r g:Int}(P:0<=r)(K:r<n)(z:0<=g)(q:g<n):0 <=(if g > r then g else r)/\(if g > r then g else r)<n:=by split <;> lia
theorem Fo{α β:Type}{A:List α}{YA:List β}{a:α}{b:β}(ha:A[j]?=Z a)(g:YA[j]?=Z b):(A.take (j+1)).zip (YA.take (j+1))=(A.take j).zip (YA.take j) ++ [(a,b)]:=by
 let h1:=(kf.mp ha).1;let h2:=(kf.mp g).1;rw[wh,wh,ha,g,List.zip_append (by rw[z7,z7];lia)]
 rfl
theorem uI.im(h:uI ks hs r sc YA D arms ms):T.ims (arms.map tA)=true:=by
 let go:∀l,(∀t∈l,t.im=O)->T.ims l=true:=by
  intro l
  induction l with
  |nil=>intro _;rfl
  |cons t r q=>intro h;show(t.im&&T.ims r)=O;rw[h t jf,q λt g=>h t (j0 _ g)];rfl
 refine go _ λt g=>?_
 let(a,ha,U):=tE.mp g;let(i,hi,e):=BR ha;let z:=(h.ok i a _ (by rw[eO hi,e]) (eO (by rw[<- h.ln];exact hi))).sn.im
 show(O&&(T.ims (a.2.1.map .s)&&(a.2.2.1.im&&O)))=O;rw[z,br];rfl
theorem zJ{l:List Str}:Dep (n+1) (.t (l.map .s)):=Dep.t λx hx=>by
 let(z,_,U):=tE.mp hx;exact Dep.s
theorem eD:∀x∈([]:List T),Dep n x:=b6
theorem cg(h:Dep n t)(hs:∀x∈ts,Dep n x):∀x∈t::ts,Dep n x:=λx hx=>(kz.mp hx).elim (λe=>e▸h) (hs x)
theorem sN:Dep (n+1) (.t [.s "give",.s x]):=Dep.t (cg Dep.s (cg Dep.s eD))
theorem EW(h:Dep D b):Dep (D+1) (.t [.s w,.i c,b]):=Dep.t (cg Dep.s (cg Dep.i (cg h eD)))
variable{y:Str}
theorem Je(h:Dep D b):Dep (D+1) (.t [.s w,.s x,.s y,b]):=Dep.t (cg Dep.s (cg Dep.s (cg Dep.s (cg h eD))))
theorem mS(h:Dep D b)(h1:1<=D):Dep (D+1) (.t [.s w,.s x,.s y,.t (ns.map .s),b]):=by
 obtain⟨k,rfl⟩:∃k,D=k+1:=(D - 1,by lia)
 exact Dep.t (cg Dep.s (cg Dep.s (cg Dep.s (cg zJ (cg h eD)))))
theorem uI.dep(h:uI ks hs r sc YA D arms ms)(h1:1<=D):Dep (D+3) (.t [.s "case",.s x,.t (arms.map tA)]):=by
 obtain⟨k,rfl⟩:∃k,D=k+1:=(D - 1,by omega)
 refine Dep.t (cg Dep.s (cg Dep.s (cg (Dep.t λt g=>?_) eD)))
 let(a,ha,U):=tE.mp g;let(i,hi,e):=BR ha;exact Dep.t (cg Dep.s (cg zJ (cg (h.ok i a _ (by rw[eO hi,e]) (eO (by rw[<- h.ln];exact hi))).dp eD)))
abbrev Fn:=Hd×T×Nat
def tF(f:Fn):T:=.t [.s f.1.1,.t (f.1.2.1.map tP),.s f.1.2.2,f.2.1]
structure Prog(ks:List Kd)(fs:List Fn):Prop where
 gk:JE ks
 l8:fs.length<=8
 hn:(fs.map (·.1.1)).Nodup
 pk:∀f∈fs,f.1.2.1.length<=4/\(∀p∈f.1.2.1,p.2∈ks.map (·.1))/\(f.1.2.1.map (·.1)).Nodup/\f.1.2.2∈ks.map (·.1)
 sn:∀f∈fs,Snd ks (fs.map (·.1)) f.1.2.2 f.2.2 f.1.2.1 f.2.1/\f.2.2<=50000
 dp:∀f∈fs,Dep 92 f.2.1
theorem iE.p(g:iE ks):JE ks:=(g.k1,by have:=g.k2;lia,g.nd,g.mn,g.ne,g.fl)
inductive Ej(ts:List L2.T)(Q:L2.T->Prop):Prop
 |mk(m u:Int)(h1:ts=[.df,.i m,.i u])(h2:0<m)(h3:m<=8)(h4:0<=u)(h5:u<=30)(h6:∀ks fs,Prog ks fs->iE ks->fs ≠ []->Q (.t [tKs ks,.t (fs.map tF)]))
def kE(o:Nat)(f:Nat):Nat:=if o=0 then f else 39 - f
structure vD(ks:List Kd)(ws:List Str)(o:Nat)(hs:List Hd)(i:Nat):Prop where
 ln:hs.length=i
 nm:hs.map (λh=>Z h.1)=(IK i).map λf=>ws[kE o f]?
 hp:∀h∈hs,h.2.1.length<=4/\(∀p∈h.2.1,p.2∈ks.map (·.1))/\h.2.1.map (·.1)=ws.take h.2.1.length/\h.2.2∈ks.map (·.1)
theorem vD.snoc(H:vD ks ws o hs i)(hn:ws[kE o i]?=Z h.1)(hp:h.2.1.length<=4/\(∀p∈h.2.1,p.2∈ks.map (·.1))/\h.2.1.map (·.1)=ws.take h.2.1.length/\h.2.2∈ks.map (·.1)):vD ks ws o (hs ++ [h]) (i+1) where
 ln:=by simp[H.ln]
 nm:=by rw[zY,H.nm,List.range_succ];simp[hn]
 hp:=λh' hm=>by
  obtain z|z:=p7.mp hm
  ·exact H.hp h' z
  ·rw[g5.mp z];exact hp
theorem vD.nd(H:vD ks ws o hs i)(hl:ws.length=40)(wn:ws.Nodup)(hi:i<=8):(hs.map (·.1)).Nodup:=by
 let e:(hs.map (·.1)).map Z=(IK i).map λf=>ws[kE o f]?:=by rw[<- H.nm,Qo];rfl
 let n:((IK i).map λf=>ws[kE o f]?).Nodup:=by
  refine WY.mpr (List.Pairwise.imp_of_mem (λ{a b} ha K g z=>?_) (Yq))
  let ha:=Wx.mp ha;let l1:kE o a<ws.length:=by unfold kE;split <;> lia
  let q:=z
  have:=(List.getElem?_inj l1 wn).mp q
  unfold kE at this
  split at this <;> lia
 rw[<- e]at n;exact(WY.mp n).imp λg z=>g (by rw[z])
abbrev Ds:=List (Str×Int)
def dEn(p:Str×Int):Key×T:=(.inr p.1,.i p.2)
def dT(ds:Ds):T:=.d (ds.map dEn)
def lk(ds:Ds)(k:Str):Option Int:=(ds.find? λp=>decide (p.1=k)).map (·.2)
def putD(ds:Ds)(k:Str)(v:Int):Ds:=if(ds.any λp=>decide (p.1=k))=O then ds.map (λp=>if p.1=k then(p.1,v)else p)else ds ++ [(k,v)]
theorem gI(ds:Ds)(k:Str):bI (ds.map dEn) (.inr k)=(lk ds k).map .i:=by
 unfold bI lk
 induction ds with
 |nil=>rfl
 |cons p r g =>
  rw[xY,Dy,Dy,show(dEn p).1=.inr p.1 from U,xl];cases decide (p.1=k)with
  |true=>rfl
  |false=>exact g
theorem QW(ds:Ds)(k:Str):((ds.map dEn).any λp=>decide (p.1=.inr k))=ds.any λp=>decide (p.1=k):=by
 rw[XC]
 congr 1
 funext p
 exact xl
theorem Po(ds:Ds)(k:Str)(v:Int):cF (ds.map dEn) (.inr k) (.i v)=(putD ds k v).map dEn:=by
 unfold cF putD;rw[QW]
 split
 ·rw[Qo,Qo]
  apply WQ
  intro p _;show(if(Sum.inr p.1:Key)=.inr k then((Sum.inr p.1),T.i v)else dEn p)=dEn (if p.1=k then(p.1,v)else p)
  by_cases h:p.1=k
  ·rw[if_pos (congrArg Sum.inr h),if_pos h];rfl
  ·rw[if_neg λz=>h (Sum.inr.inj z),if_neg h]
 ·rw[zY];rfl
variable{ds:Ds}
theorem jH(h:lk ds k=Z v):(k,v)∈ds:=by
 let(p,hp,U):=kg.mp h;let h1:=VS hp;let h2:=Xf hp;let h2:=by simpa using h2
 rw[<- h2];exact h1
theorem CO(h:lk ds k=Y):∀p∈ds,p.1≠k:=by
 intro p hp e
 have:=Xn.mp (XF.mp h) p hp
 exact this (decide_eq_true e)
theorem BK:(ds.any λp=>decide (p.1=k))=(lk ds k).isSome:=by
 cases h:lk ds k with
 |none =>
  rw[Option.isSome_none,Xr];exact λp hp=>by simpa using CO h p hp
 |some v =>
  rw[X5,Wq];exact(_,jH h,by simp)
theorem sk:lk (putD ds k v) f=if f=k then Z v else lk ds f:=by
 unfold putD
 split
 ·rename_i h;by_cases e:f=k
  ·subst e;rw[if_pos rfl];unfold lk
   induction ds with
   |nil=>cases h
   |cons p r q =>
    by_cases hp:p.1=f
    ·simp[hp]
    ·rw[Wm,decide_eq_false hp]at h
     have:=q h
     simp only[xY,if_neg hp,Dy,decide_eq_false hp];exact this
  ·rw[if_neg e];unfold lk;clear h
   induction ds with
   |nil=>rfl
   |cons p r q =>
    by_cases hp:p.1=k
    ·let h1:¬ k=f:=λz=>e z.symm
     simp only[xY,hp,if_pos,Dy,decide_eq_false h1];exact q
    ·by_cases hf:p.1=f
     ·simp[hf,e]
     ·simp only[xY,if_neg hp,Dy,decide_eq_false hf];exact q
 ·rename_i h;let h':lk ds k=none:=by
   rw[BK]at h;cases g:lk ds k with
   |none=>rfl
   |some _=>rw[g]at h;exact absurd U h
  unfold lk at h' ⊢;rw[Yn];by_cases e:f=k
  ·subst e;rw[XF.mp h'];simp
  ·rw[if_neg e];let h1:¬ k=f:=λz=>e z.symm
   cases g:List.find? (λp=>decide (p.1=f)) ds with
   |none=>simp[h1]
   |some p=>rfl
def cJ(ds:Ds)(fs:List Str):Int:=(fs.map λf=>(lk ds f).getD 0).sum
def bnd:Nat->Int
 | 0=>0
 |n+1=>1+4*bnd n
theorem xI:∀n,0<=bnd n
 | 0=>NL _
 |n+1=>by have:=xI n;show 0<=1+4*bnd n;lia
theorem QR(n:Nat):bnd n<=bnd (n+1):=by have:=xI n;show _<=1+4*bnd n;lia
theorem BH:∀{n m:Nat},n<=m->bnd n<=bnd m
 |n,0,h=>by rw[Nat.le_zero.mp h];exact NL _
 |n,m+1,h=>by
  by_cases e:n=m+1
  ·rw[e];exact NL _
  ·exact Wc (BH (by lia)) (QR m)
theorem B4:∀{fs:List Str},(∀f∈fs,(lk q f).getD 0 <=(lk ds f).getD 0)->cJ q fs<=cJ ds fs
 |[],_=>NL _
 |f::fs,h=>by
  let h1:=h f (by simp)
  let h2:=B4 (fs:=fs) λg hg=>h g (by simp[hg])
  unfold cJ at *;simp only[xY,V5]
  lia
theorem B5:∀{fs:List Str},(∀f∈fs,0 <=(lk ds f).getD 0/\(lk ds f).getD 0<=b)->0<=cJ ds fs/\cJ ds fs<=fs.length*b
 |[],_=>by simp[cJ]
 |f::fs,h=>by
  let h1:=h f (by simp)
  let h2:=B5 (fs:=fs) λg hg=>h g (by simp[hg])
  unfold cJ at *;simp only[xY,V5,rl]
  have:((fs.length+1:Nat))*b=fs.length*b+b:=by rw[Int.natCast_add,Int.add_mul];simp
  lia
structure jt(ks:List Kd)(ds:Ds):Prop where
 nd:(ds.map (·.1)).Nodup
 sub:∀p∈ds,p.1∈ks.map (·.1)
 bd:∀p∈ds,1<=p.2/\p.2<=bnd ds.length
 wt:∀k v,lk ds k=Z v->∃m∈fA ks k,(∀f∈m.2,(lk ds f).isSome=O)/\1+cJ ds m.2<=v
theorem jt.nil(ks:List Kd):jt ks []:=(k4,by simp,by simp,λk v h=>by cases h)
theorem jt.bds(h:jt ks ds)(f:Str):0 <=(lk ds f).getD 0/\(lk ds f).getD 0<=bnd ds.length:=by
 cases e:lk ds f with
 |none=>exact(NL _,xI _)
 |some v=>have:=h.bd _ (jH e);exact(by show 0<=v;lia,this.2)
theorem jt.sum(h:jt ks ds)(fs:List Str):0<=cJ ds fs/\cJ ds fs<=fs.length*bnd ds.length:=B5 λf _=>h.bds f
theorem yM:(putD ds k v).length=if(lk ds k).isSome=O then ds.length else ds.length+1:=by
 unfold putD;rw[BK]
 split <;> simp
theorem uZ:(putD ds k v).map (·.1)=if(lk ds k).isSome=O then ds.map (·.1)else ds.map (·.1) ++ [k]:=by
 unfold putD;rw[BK]
 split
 ·rw[Qo]
  apply WQ
  intro p _;show(if p.1=k then(p.1,v)else p).1=p.1
  split <;> rfl
 ·simp
theorem jt.put(h:jt ks ds)(hk:k∈ks.map (·.1))(hm:m∈fA ks k)(h4:m.2.length<=4)(hf:∀f∈m.2,(lk ds f).isSome=O)(hv:v=min ((lk ds k).getD (1+cJ ds m.2)) (1+cJ ds m.2)):jt ks (putD ds k v):=by
 let hs:=h.sum m.2;let v1:1<=v:=by
  rw[hv];cases e:lk ds k with
  |none=>show 1<=min (1+cJ ds m.2) _;lia
  |some u=>have:=h.bd _ (jH e);show 1<=min u _;lia
 let v2:v<=1+cJ ds m.2:=by rw[hv];exact Int.min_le_right _ _
 let v3:∀u,lk ds k=Z u->v<=u:=λu e=>by rw[hv,e];exact Int.min_le_left _ _
 let vb:v<=bnd (putD ds k v).length:=by
  rw[yM];cases e:lk ds k with
  |none =>
   show v<=1+4*bnd ds.length
   have:(m.2.length)*bnd ds.length<=4*bnd ds.length:=W5 (by lia) (xI _)
   lia
  |some u =>
   rw[if_pos (by rfl)]
   have:=v3 u e
   let q:=(h.bd _ (jH e)).2
   lia
 let lb:bnd ds.length<=bnd (putD ds k v).length:=BH (by rw[yM];split <;> lia)
 let low:∀fs,(∀f∈fs,(lk ds f).isSome=O)->cJ (putD ds k v) fs<=cJ ds fs:=λfs az=>B4 λf K=>by
  rw[sk]
  split
  ·rename_i e;subst e;let(u,P):=VY.mp (az f K);rw[P];exact v3 u P
  ·exact NL _
 let V:∀f,(lk ds f).isSome=O->(lk (putD ds k v) f).isSome=true:=λf K=>by
  rw[sk]
  split
  ·rfl
  ·exact K
 refine(?_,?_,?_,?_)
 ·rw[uZ];cases e:lk ds k with
  |none =>
   refine Fj.mpr (h.nd,by simp,λa ha b hb=>?_)
   rw[g5.mp hb];let(p,hp,U):=tE.mp ha;exact CO e p hp
  |some u=>exact h.nd
 ·intro p hp
  have:p.1∈(putD ds k v).map (·.1):=tE.mpr (p,hp,U)
  rw[uZ]at this
  split at this
  ·let(q,hq,e):=tE.mp this;rw[<- e];exact h.sub q hq
  ·obtain z|z:=p7.mp this
   ·let(q,hq,e):=tE.mp z;rw[<- e];exact h.sub q hq
   ·rw[g5.mp z];exact hk
 ·intro p hp;let z:p.2=v\/p∈ds:=by
   unfold putD at hp
   split at hp
   ·let(q,hq,U):=tE.mp hp
    split
    ·exact .inl U
    ·exact .inr hq
   ·obtain z|z:=p7.mp hp
    ·exact .inr z
    ·rw[g5.mp z];exact .inl U
  obtain z|z:=z
  ·rw[z];exact(v1,vb)
  ·have:=h.bd p z
   exact(this.1,Wc this.2 lb)
 ·intro k' u P;rw[sk]at P;by_cases e:k'=k
  ·rw[if_pos e]at P;cases P;subst e;cases g:lk ds k' with
   |none =>
    let aD:v=1+cJ ds m.2:=by rw[hv,g];show min (1+cJ ds m.2) (1+cJ ds m.2)=_;lia
    have:=low m.2 hf
    exact(m,hm,λf K=>V f (hf f K),by lia)
   |some w =>
    by_cases c:w<=1+cJ ds m.2
    ·let(m',Q,K,av):=h.wt k' w g
     have:=low m'.2 K
     exact(m',Q,λf Qy=>V f (K f Qy),by rw[hv,g]at *;show _<=min w _;lia)
    ·have:=low m.2 hf
     exact(m,hm,λf K=>V f (hf f K),by rw[hv,g]at *;show _<=min w _;lia)
  ·rw[if_neg e]at P;let(m',Q,K,av):=h.wt k' u P
   have:=low m'.2 K
   exact(m',Q,λf Qy=>V f (K f Qy),by lia)
theorem jt.len(h:jt ks ds)(g:iE ks):ds.length<=3:=by
 have:=EB h.nd λx hx=>by let(p,hp,U):=tE.mp hx;exact h.sub p hp
 have:=g.k2
 simp only[ej]at *
 lia
def Zd(ds:Ds)(k:Str)(m:Mk1):Prop:=m.2=[]->(lk ds k).isSome=O
theorem Zd.put(h:Zd ds k m)(k':Str)(v:Int):Zd (putD ds k' v) k m:=λe=>by
 rw[sk]
 split
 ·rfl
 ·exact h e
inductive Hj(ts:List L2.T)(Q:L2.T->Prop):Prop
 |mk(ks:List Kd)(h1:ts=[tKs ks])(h2:iE ks)(h3:∀ds,jt ks ds->(∀kd∈ks,∀m∈kd.2,Zd ds kd.1 m)->Q (dT ds))
theorem Ih{i:Nat}(g:(ks.map (·.1)).Nodup)(h:ks[i]?=Z kd):fA ks kd.1=kd.2:=by
 refine MC h U λj y hj q e=>?_
 let h1:(ks.map (·.1))[i]?=Z kd.1:=by rw[j5,h];rfl
 let h2:(ks.map (·.1))[j]?=Z kd.1:=by rw[j5,q,<- e];rfl
 let(l1,K):=kf.mp h1;let(l2,z):=kf.mp h2;exact List.pairwise_iff_getElem.mp g j i l2 l1 hj (by rw[K,z])
theorem P0(a b:Int):min a b=if b<a then b else a:=by
 rw[Int.min_def]
 split <;> split <;> lia
variable{u:Int}
theorem RP{y:T}{n:Int}{Q:T->Prop}(h:y=.i u)(hq:Q (.i (f u n))):qI2 f [y,.i n] Q:=by subst h;exact hq
theorem O2{Q:T->Prop}(h:Q (.i (a+b))):t6 (.i a) (.i b) Q:=h
theorem Qq(ds:Ds):T.imk (ds.map dEn)=true:=by
 induction ds with
 |nil=>rfl
 |cons p r g=>show(_&&_)=O;rw[g];rfl
theorem Ed{D:dZ}{q:Sq}{k:Str}{n v:Int}(h1:q[1]?=Z (.o (dT ds)))(h3:q[3]?=Z (.r (.s k)))(h7:q[7]?=Z (.o (.i n)))(hl:ds.length<mu)(hv:v=f ((lk ds k).getD n) n)(hq:D.nx (q.set 1 (.o (dT (putD ds k v))))):
  Ef 1 (bo 3) (qCB (qI2 f) (aJ (G7 (bo 1) (bo 3) (bo 7)) (aJ (bo 7) fc))) D q:=by
 simp only[Ef,qCB,aJ,fc,G7,bo,h1,h3,h7];refine RP (u:=(lk ds k).getD n) (by rw[gI];cases lk ds k <;> rfl) (by rw[ej];exact hl,Qq ds,U,?_)
 rw[Po,<- hv];exact hq
theorem xJ{α:Type}(f:α->Bool):∀xs:List α,bls (xs.map λx=>T.b (f x))=Z (xs.map f)
 |[]=>rfl
 |x::r=>by show(bls (r.map λx=>T.b (f x))).map (f x :: ·)=_;rw[xJ f r];rfl
theorem ins_map{α:Type}(f:α->Int):∀xs:List α,ins (xs.map λx=>T.i (f x))=Z (xs.map f)
 |[]=>rfl
 |x::r=>by show(ins (r.map λx=>T.i (f x))).map (f x :: ·)=_;rw[ins_map f r];rfl
def due(ks:List Kd)(k:Str)(x:T)(n:Nat):Option (List Str):=((fA ks k).find? λm=>decide (V.str m.1=x.v)&&decide (m.2.length=n)).map (·.2)
def isN(ks:List Kd):Nat->Str->T->Bool
 | 0,_,_=>ϊ
 |n+1,k,.t [x,.t ps]=>match due ks k x ps.length with
  |some fs=>(fs.zip ps).all λp=>isN ks n p.1 p.2
  |none=>ϊ
 |_+1,_,_=>ϊ
def wt:Nat->T->Nat
 | 0,_=>1
 |n+1,.t [_,.t ps]=>1+(ps.map (wt n)).sum
 |_+1,_=>1
def Ok:Nat->T->Prop
 | 0,t=>t.im=O/\t.tyN.isSome=O/\(∀x y,t=.t [x,y]->y.tyN.isSome=O)/\∀x ps,t ≠ .t [x,.t ps]
 |n+1,t=>t.im=O/\t.tyN.isSome=O/\(∀x y,t=.t [x,y]->y.tyN.isSome=O)/\∀x ps,t=.t [x,.t ps]->x.fl=O/\ps.length<=1000/\∀p∈ps,Ok n p
inductive LD(n:Nat)(ts:List L2.T)(Q:L2.T->Prop):Prop
 |mk(ks:List Kd)(ds:Ds)(k:Str)(room v:Int)(h1:ts=[.df,tKs ks,dT ds,.s k,.i room])(h2:iE ks)(h3:jt ks ds)(h4:lk ds k=Z v)(h5:v<=room)(h6:room<=n)(h7:room<=1000)(h8:∀t,isN ks n k t=O->Ok n t->(wt n t:Int)<=room->Q t)
def gg(ds:Ds)(room:Int)(m:Mk1):Bool:=(m.2.map λf=>(lk ds f).isSome).all id&&decide (1+cJ ds m.2<=room)
theorem uK{xs:List α}{x:α}(h:xs[i]?=Z x):xs.take (i+1)=xs.take i ++ [x]:=by rw[wh,h];rfl
theorem xj(h:m∈fA ks k):∃kd∈ks,kd.1=k/\fA ks k=kd.2:=by
 unfold fA at h ⊢
 split at h
 ·rename_i x hx;let h2:=Xf hx;exact(x,VS hx,by simpa using h2,U)
 ·cases h
theorem iE.ma(g:iE ks)(h:m∈fA ks k):m.2.length<=4/\(∀f∈m.2,f∈ks.map (·.1))/\(fA ks k).length<=6:=by
 let(kd,q,_,e):=xj h;rw[e]at h ⊢;exact((g.fl kd q m h).1,(g.fl kd q m h).2,(g.ne kd q).2)
theorem sd:∀{ks:List Kd}{kd:Kd},kd∈ks->(names ks).Nodup->(kd.2.map (·.1)).Nodup
 |a::r,kd,h,hn=>by
  obtain rfl|h:=kz.mp h
  ·exact(Fj.mp hn).1
  ·exact sd h (Fj.mp hn).2.1
theorem map_inj(h:(ms.map (·.1)).Nodup)(h1:m∈ms)(h2:m'∈ms)(e:m.1=m'.1):m=m':=by
 induction ms with
 |nil=>cases h1
 |cons a r z =>
  let h':=u3.mp h;obtain q|h1:=kz.mp h1
  ·obtain g|h2:=kz.mp h2
   ·rw[q,g]
   ·exact absurd (tE.mpr (m',h2,by rw[<- e,q])) h'.1
  ·obtain g|h2:=kz.mp h2
   ·exact absurd (tE.mpr (m,h1,by rw[e,g])) h'.1
   ·exact z h'.2 h1 h2
theorem Nj(g:iE ks)(h:m∈fA ks k):due ks k (.s m.1) m.2.length=Z m.2:=by
 unfold due;let(kd,q,_,e):=xj h;rw[e]at h ⊢;let hn:=sd q g.mn;cases c:List.find? (λm'=>decide (V.str m'.1=(T.s m.1).v)&&decide (m'.2.length=m.2.length)) kd.2 with
 |none =>
  have:=Xn.mp c m h
  exact absurd (by simp[T.v]) this
 |some m' =>
  let h2:=Xf c;rw[tD]at h2
  have:=V.str.inj (of_decide_eq_true h2.1)
  rw[map_inj hn (VS c) h this];rfl
theorem DW{fs:List Str}(h:fs[i]?=Z f):cJ ds (fs.take (i+1))=cJ ds (fs.take i)+(lk ds f).getD 0:=by
 rw[uK h];simp[cJ]
theorem oB(hI:jt ks ds):∀(fs:List Str)(i:Nat),cJ ds (fs.take i)<=cJ ds fs
 |[],i=>by simp
 |f::fs,0=>by have:=(hI.sum (f::fs)).1;simpa [cJ]using this
 |f::fs,i+1=>by
  have:=oB hI fs i
  unfold cJ at *;simp only[XX,xY,V5]
  lia
theorem FU:((ps ++ [t]).map (wt n)).sum=(ps.map (wt n)).sum+wt n t:=by simp
theorem cp(h:∀p∈ps,p.im=O):T.ims ps=true:=by
 induction ps with
 |nil=>rfl
 |cons p r g=>show(_&&_)=O;rw[h p (by simp),g λq hq=>h q (by simp[hq])];rfl
theorem Ok.im(h:Ok n t):t.im=true:=by cases n <;> exact h.1
theorem cn{x:L2.T}:∀{xs:List L2.T},T.ims xs=O->x∈xs->x.im=O
 |y::r,h,hx=>by
  let h:(y.im&&T.ims r)=true:=h;rw[tD]at h;obtain e|hx:=kz.mp hx
  ·rw[e];exact h.1
  ·exact cn h.2 hx
theorem bj(h:n<=1002000):n<mu:=WT h (by decide)
theorem xN{xs:List α}(h:xs.getLast?=Z b):atI xs (-1)=Z b:=by
 let(ys,U):=List.getLast?_eq_some_iff.mp h;exact L2.m5 ys b
theorem Il{ns:List (Key×L2.T)}:bI (cF ns k v) k'=if k=k' then Z v else bI ns k':=by
 unfold cF;by_cases h:(ns.any λp=>decide (p.1=k))=O
 ·rw[if_pos h];unfold bI
  induction ns with
  |nil=>simp at h
  |cons p r P =>
   rw[xY,Dy,Dy];by_cases e:p.1=k
   ·rw[if_pos e];by_cases g:k=k'
    ·rw[decide_eq_true (e.trans g),if_pos g];rfl
    ·rw[decide_eq_false λz=>g (e.symm.trans z),if_neg g]
     by_cases h':(r.any λp=>decide (p.1=k))=O
     ·have:=P h';rw[if_neg g]at this;exact this
     ·have:(r.map λp=>if p.1=k then(p.1,v)else p)=r:=by
       rw[(List.map_id r).symm,Qo];refine WQ λz K=>?_
       show(if z.1=k then(z.1,v)else z)=z
       rw[if_neg λq=>h' (Wq.mpr (z,K,decide_eq_true q))]
      rw[this]
   ·rw[if_neg e];by_cases g:p.1=k'
    ·rw[decide_eq_true g,if_neg λz=>e (g.trans z.symm)]
    ·rw[decide_eq_false g];refine P ?_;rw[Wm,decide_eq_false e]at h;exact h
 ·rw[if_neg h];unfold bI;rw[Yn];by_cases g:k=k'
  ·have:ns.find? (λp=>decide (p.1=k'))=none:=Xn.mpr λz K q=>h (Wq.mpr (z,K,decide_eq_true ((of_decide_eq_true q).trans g.symm)))
   rw[this,if_pos g,Dy,decide_eq_true g];rfl
  ·rw[if_neg g,Dy,decide_eq_false g,List.find?_nil,Option.or_none]
theorem C1:∀{ns:List (Key×L2.T)},(∀p∈ns,p.2.im=O)->T.imk ns=O
 |[],_=>rfl
 | (k,x)::r,h=>by
  show(x.im&&T.imk r)=O;rw[h (k,x) jf,C1 λp hp=>h p (j0 _ hp)];rfl
theorem xm:∀{ns:List (Key×L2.T)},T.imk ns=O->∀p∈ns,p.2.im=O
 | (k,x)::r,h,p,hp=>by
  let h:(x.im&&T.imk r)=true:=h;rw[tD]at h;obtain e|hp:=kz.mp hp
  ·rw[e];exact h.1
  ·exact xm h.2 p hp
theorem C0{ns:List (Key×L2.T)}(h:T.imk ns=O)(hv:v.im=O):T.imk (cF ns k v)=true:=by
 refine C1 λp hp=>?_
 unfold cF at hp
 split at hp
 ·let(z,g,U):=tE.mp hp
  split
  ·exact hv
  ·exact xm h z g
 ·obtain z|z:=p7.mp hp
  ·exact xm h p z
  ·rw[g5.mp z];exact hv
theorem CS{ns:List (Key×L2.T)}:(cF ns k v).length<=ns.length+1:=by
 unfold cF
 split
 ·rw[ej];lia
 ·rw[pL];exact m9 _
theorem iy:∀{kts acc:List (Key×L2.T)},T.imk acc=O->(∀p∈kts,p.2.im=O)->T.imk (aO acc kts)=O
 |[],_,h,_=>h
 |p::r,acc,h,g=>iy (kts:=r) (C0 h (g p jf)) λq hq=>g q (j0 _ hq)
theorem kr:∀{kts acc:List (Key×L2.T)},(aO acc kts).length<=acc.length+kts.length
 |[],_=>m9 _
 |p::r,acc=>by
  let h1:(aO (cF acc p.1 p.2) r).length <=(cF acc p.1 p.2).length+r.length:=kr;let h2:=CS (ns:=acc) (k:=p.1) (v:=p.2);show(aO (cF acc p.1 p.2) r).length<=_;rw[rl]
  lia
def fT(C x:J)(f n:Int)(p:L2.T)(ns:List (Key×L2.T)):L2.T:=.om x C ["f","number",Zp,"names"] [.i f,.i n,p,.d ns]
def wT(C a:J)(fns:L2.T)(frs:List L2.T)(c n:Int)(e:L2.T):L2.T:=.om a C [Zw,"running","coins","done","ending"] [fns,.l frs,.i c,.i n,e]
abbrev wy(frs:List L2.T):Way:=[.inl "running",.inr frs.length]
variable{C:J}{a:J}
theorem Kf{frs:List L2.T}{c n:Int}:T.sub (wy frs) (wT C a fns (frs ++ [t]) c n e)=Z t:=by
 show(match(frs ++ [t])[frs.length]? with|some u=>Z u|none=>Y)=Z t
 rw[vr (m9 _),WD];rfl
theorem Lz{frs:List L2.T}{c n:Int}{e t u:L2.T}:T.put u (wy frs) (wT C a fns (frs ++ [t]) c n e)=wT C a fns (frs ++ [u]) c n e:=by
 let h:(frs ++ [t])[frs.length]?=Z t:=by
  rw[vr (m9 _),WD];rfl
 let g:T.put u [.inr frs.length] (.l (frs ++ [t]))=.l (frs ++ [u]):=by
  show(match(frs ++ [t])[frs.length]? with|some x=>L2.T.l ((frs ++ [t]).set frs.length u)|none=>.l (frs ++ [t]))=_
  rw[h];simp
 show L2.T.om a C _ [fns,T.put u [.inr frs.length] (.l (frs ++ [t])),.i c,.i n,e]=_;rw[g];rfl
theorem ku{frs:List L2.T}{c n:Int}{e t u:L2.T}{Q:L2.T->L2.T->Prop}{r:L2.T}(h:Q r (wT C a fns (frs ++ [u]) c n e)):(T.put u (wy frs) (wT C a fns (frs ++ [t]) c n e)).adr=Z a/\Q r (T.put u (wy frs) (wT C a fns (frs ++ [t]) c n e)):=by
 rw[Lz];exact(U,h)
variable{CF:J}
theorem aS{x:J}{frs:List L2.T}{c m f n:Int}{ns:List (Key×L2.T)}:T.sub (wy frs) (wT C a fns (frs ++ [fT CF x f n p ns]) c m e)=Z (.om x CF ["f","number",Zp,"names"] [.i f,.i n,p,.d ns]):=Kf
def fC(x:Str×List Str×L2.T):L2.T:=.t [.s x.1,.t (x.2.1.map .s),x.2.2]
inductive Lst:Nat->L2.T->List L2.T->Prop
 |give{k:Nat}{y:Str}:Lst (k+1) (.t [.s "give",.s y]) [.t [.s "give",.s y]]
 |more{k:Nat}{w:Str}{ps:List L2.T}{b:L2.T}{L:List L2.T}:ps[0]?=Z (.s w)->w ≠ "give"->w ≠ "case"->ps.getLast?=Z b->T.ims ps=O->Lst k b L->Lst (k+1) (.t ps) (.t ps::L)
 |case{k:Nat}{x:Str}{arms:List (Str×List Str×L2.T)}{Ls:List (List L2.T)}:Ls.length=arms.length->(∀(i:Nat)(z:Str×List Str×L2.T)(L:List L2.T),arms[i]?=Z z->Ls[i]?=Z L->Lst k z.2.2 L)->T.ims (arms.map fC)=O->Lst (k+1) (.t [.s "case",.s x,.t (arms.map fC)]) (.t [.s "case",.s x,.t (arms.map fC)]::Ls.flatten)
theorem Lst.im(h:Lst k b L):b.im=true:=by
 cases h with
 |give=>rfl
 |more _ _ _ _ h _=>exact h
 |case _ _ h=>show(O&&(O&&(L2.T.ims _&&O)))=O;rw[h];rfl
theorem Lst.ims:∀{b:L2.T}{L:List L2.T},Lst k b L->T.ims L=true:=by
 induction k with
 |zero=>intro b L h;cases h
 |succ k q =>
  intro b L h;let z:=h.im;cases h with
  |give=>rfl
  |more _ _ _ _ _ h2 =>
    refine cp λt g=>?_
    obtain rfl|g:=kz.mp g
    ·exact z
    ·exact cn (q h2) g
  |@case _ x arms Ls hl h2 h3 =>
    refine cp λt g=>?_
    obtain rfl|g:=kz.mp g
    ·exact z
    ·let(L,K,g):=W8.mp g;let(i,hi,U):=BR K;exact cn (q (h2 i (arms[i]'(by lia)) _ (eO (by lia)) (eO hi))) g
inductive Pw(C:J)(ts:List L2.T)(Q:L2.T->L2.T->Prop):Prop
 |mk(x f n p ns b k)(h1:ts=[fT C x f n p ns,b,.i k])(h2:b.im=O)(h3:Q .n (fT C x f (n+(1+k)) b ns))
inductive A8(C:J)(ts:List L2.T)(Q:L2.T->L2.T->Prop):Prop
 |mk(x f n ps ns v y b)(h1:ts=[fT C x f n (.t ps) ns,v])(h2:v.im=O)(h3:T.imk ns=O)(h4:ns.length<1000)(h5:T.ims ps=O)(h6:ps[1]?=Z (.s y))(h7:ps.getLast?=Z b)(h8:Q .n (fT C x f (n+1) b (cF ns (.inr y) v)))
def Looks(ns:List (Key×L2.T))(ys:List Str)(vs:List L2.T):Prop:=vs.length=ys.length/\∀(i:Nat)(y:Str),ys[i]?=Z y->∃v,vs[i]?=Z v/\bI ns (.inr y)=Z v/\v.im=O
inductive A6(C:J)(ts:List L2.T)(Q:L2.T->Prop):Prop
 |mk(x f n p ns ys vs)(h1:ts=[fT C x f n p ns,.t (ys.map .s)])(h2:ys.length<=1000)(h3:Looks ns ys vs)(h4:Q (.t vs))
structure WF where
 nm:L2.T
 prs:List (Str×L2.T)
 kd:L2.T
 b:L2.T
def WF.t(g:WF):L2.T:=.t [g.nm,.t (g.prs.map λp=>.t [.s p.1,p.2]),g.kd,g.b]
def oP(gs:List WF):Prop:=L2.T.ims (gs.map WF.t)=O
def WF.names(g:WF)(vs:List L2.T):List (Key×L2.T):=aO [] ((g.prs.map λp=>(.inr p.1:Key)).zip vs)
variable{g:WF}
theorem WF.za(h:T.ims vs=O):T.imk (g.names vs)=true:=iy U λp hp=>cn h (UU hp).2
theorem WF.EC:(g.names vs).length<=g.prs.length:=by
 let h1:(g.names vs).length<=0+((g.prs.map λp=>(.inr p.1:Key)).zip vs).length:=kr
 rw[NN,ej]at h1
 lia
def Arg(t2:Bool)(vs:List L2.T)(u:L2.T):Prop:=t2=O/\u=.t vs\/t2=ϊ/\(u=.zl vs\/u=.l vs)
inductive yP(C:J)(t2:Bool)(ts:List L2.T)(Q:L2.T->L2.T->Prop):Prop
 |mk(x gs f g vs u)(h1:ts=[.om x C [] [],.t (gs.map WF.t),.i (f:Nat),u])(h2:oP gs)(h3:gs[f]?=Z g)(h4:g.prs.length<=100)(h5:T.ims vs=O)(h6:Arg t2 vs u)(h7:Q .n (fT C x f 0 g.b (g.names vs)))
inductive A5(CW CF:J)(t2:Bool)(ts:List L2.T)(Q:L2.T->L2.T->Prop):Prop
 |mk(a ks gs f g vs u c)(h1:ts=[.om a CW [] [],.t [ks,.t (gs.map WF.t)],.i (f:Nat),u,.i c])(h2:oP gs)(h3:gs[f]?=Z g)(h4:g.prs.length<=100)(h5:T.ims vs=O)(h6:ks.im=O)(h7:Arg t2 vs u)(h8:∀x,Q .n (wT CW a (.t (gs.map WF.t)) [fT CF x f 0 g.b (g.names vs)] c 0 .n))
inductive Ek(CW:J)(ts:List L2.T)(Q:L2.T->L2.T->Prop):Prop
 |mk(a fns frs c m e v)(h1:ts=[wT CW a fns frs c m e,v])(h2:v.im=O)(h3:Q .n (wT CW a fns [] c m v))
inductive A7(CW:J)(g:Int->Int->L2.T->L2.T)(ts:List L2.T)(Q:L2.T->Prop):Prop
 |mk(a fns frs c m e)(h1:ts=[wT CW a fns frs c m e])(h2:e.im=O)(h3:Q (g c m e))
inductive Vl where
 |mk(m:Str)(ps:List Vl)
mutual
def Vl.t:Vl->L2.T
 |.mk m ps=>.t [.s m,.t (Vl.ts ps)]
def Vl.ts:List Vl->List L2.T
 |[]=>[]
 |v::r=>v.t::Vl.ts r
end
mutual
def Vl.sz:Vl->Nat
 |.mk _ ps=>1+Vl.szs ps
def Vl.szs:List Vl->Nat
 |[]=>0
 |v::r=>v.sz+Vl.szs r
end
mutual
def Vl.dp:Vl->Nat
 |.mk _ ps=>1+Vl.dps ps
def Vl.dps:List Vl->Nat
 |[]=>0
 |v::r=>max v.dp (Vl.dps r)
end
theorem Vl.Ao:∀ps:List Vl,Vl.ts ps=ps.map Vl.t
 |[]=>rfl
 |v::r=>by rw[Vl.ts,Vl.Ao r];rfl
theorem Vl.im:∀v:Vl,v.t.im=true:=by
 intro v;refine Vl.rec (motive_2:=λps=>L2.T.ims (Vl.ts ps)=O) (λm ps g=>?_) U (λv r h1 h2=>?_) v
 ·show(O&&(L2.T.ims (Vl.ts ps)&&O))=O;rw[g];rfl
 ·show(v.t.im&&L2.T.ims (Vl.ts r))=O;rw[h1,h2];rfl
theorem Vl.ims(ps:List Vl):L2.T.ims (ps.map Vl.t)=true:=cp λt g=>by
 let(v,_,U):=tE.mp g;exact v.im
theorem Vl.ki:∀(xs ys:List Vl),Vl.szs (xs++ys)=Vl.szs xs+Vl.szs ys
 |[],ys=>by rw[Vl.szs,Nat.zero_add];rfl
 |v::r,ys=>by rw[Xz,Vl.szs,Vl.szs,Vl.ki r ys,Nat.add_assoc]
theorem Vl.vM:∀(xs:List Vl),Vl.szs xs.reverse=Vl.szs xs
 |[]=>rfl
 |v::r=>by rw[V6,Vl.ki,Vl.vM r,Vl.szs,Vl.szs,Vl.szs];lia
theorem Vl.mL:∀(xs:List Vl),xs.length<=Vl.szs xs
 |[]=>m9 _
 |.mk m ps::r=>by rw[Vl.szs,Vl.sz,rl];have:=Vl.mL r;lia
theorem Vl.C6:∀(xs ys:List Vl),Vl.dps (xs++ys)=max (Vl.dps xs) (Vl.dps ys)
 |[],ys=>(Nat.zero_max _).symm
 |v::r,ys=>by rw[Xz,Vl.dps,Vl.dps,Vl.C6 r ys,Nat.max_assoc]
def Vl.ps:Vl->List Vl
 |.mk _ ps=>ps
def Vl.mm:Vl->Str
 |.mk m _=>m
theorem Vl.Ap(v:Vl):v.t=.t [.s v.mm,.t (v.ps.map Vl.t)]:=by
 cases v with
 |mk m ps=>rw[Vl.t,Vl.Ao];rfl
inductive Pu(ts:List L2.T)(Q:L2.T->Prop):Prop
 |mk(v:Vl)(h1:ts=[v.t])(h2:v.sz<=1000)(h3:∀L:List Str,L.length=v.sz->Q (.l (L.map .s)))
inductive UI(ts:List L2.T)(Q:L2.T->Prop):Prop
 |mk(v:Vl)(h1:ts=[v.t])(h2:v.sz<=1000)(h3:Q (.i (v.sz:Nat)))
inductive UK(ts:List L2.T)(Q:L2.T->Prop):Prop
 |mk(v:Vl)(h1:ts=[v.t])(h2:v.sz<=1000)(h3:Q (.i (v.dp:Nat)))
inductive El(CW CF:J)(ts:List L2.T)(Q:L2.T->L2.T->Prop):Prop
 |mk(a x fns frs f n wd k b ns c m)(h1:ts=[wT CW a fns (frs ++ [fT CF x f n (.t [.s wd,.i k,b]) ns]) c m .n,.rf x,.s wd])(h2:b.im=O)(h3:(wd="pay" \/ wd="get"))(h4:((wd="pay" /\ k > c->Q .n (wT CW a fns [] c m (.t [.s "short",.i k])))/\(wd="pay" /\ ¬ k > c->Q .n (wT CW a fns (frs ++ [fT CF x f (n+1) b ns]) (c - k) m .n))/\(wd="get"->Q .n (wT CW a fns (frs ++ [fT CF x f (n+1) b ns]) (c+k) m .n))))
inductive Hl(CW CF:J)(ts:List L2.T)(Q:L2.T->L2.T->Prop):Prop
 |mk(a x fns frs f n y mk ys vs b ns c m)(h1:ts=[wT CW a fns (frs ++ [fT CF x f n (.t [.s "make",.s y,.s mk,.t (ys.map .s),b]) ns]) c m .n,.rf x])(h2:b.im=O)(h3:T.imk ns=O)(h4:ns.length<1000)(h5:ys.length<=1000)(h6:Looks ns ys (vs.map Vl.t))(h7:(Vl.mk mk vs).sz<=1000)(h8:(((Vl.mk mk vs).sz > 200\/(Vl.mk mk vs).dp > 60->Q .n (wT CW a fns [] c m (.t [.s "great",.s mk])))/\(¬((Vl.mk mk vs).sz > 200\/(Vl.mk mk vs).dp > 60)->Q .n (wT CW a fns (frs ++ [fT CF x f (n+1) b (cF ns (.inr y) (Vl.mk mk vs).t)]) c m .n))))
inductive zW where
 |on(n:Int)(p:L2.T)(ns:List (Key×L2.T))(c:Int)
 |push(g:Nat)(vs:List L2.T)
 |fin(c:Int)(e:L2.T)
 |give(v:L2.T)
inductive Hh(ts:List L2.T)(Q:L2.T->Prop):Prop
 |mk(gs:List WF)(nm:Str)(f:Nat)(g:WF)(h1:ts=[.t (gs.map WF.t),.s nm])(h2:oP gs)(h3:gs[f]?=Z g)(h4:g.nm=.s nm)(h5:(∀(j:Nat)(g':WF),j<f->gs[j]?=Z g'->∃s',g'.nm=.s s'/\s'≠nm))(h6:Q (.i (f:Nat)))
structure Fm(arms:List (Str×List Str×L2.T))(Ls:List (List L2.T)):Prop where
 l:Ls.length=arms.length
 ok:∀(i:Nat)(z:Str×List Str×L2.T)(L:List L2.T),arms[i]?=Z z->Ls[i]?=Z L->Lst 93 z.2.2 L
 im:T.ims (arms.map fC)=O
 s:Ls.flatten.length<=90000
def ahd(Ls:List (List L2.T))(j:Nat):Nat:=((Ls.take j).map V3).sum
inductive j8(gs:List WF):Int->L2.T->List (Key×L2.T)->Int->zW->Prop
 |short{n k c:Int}{b:L2.T}{ns:List (Key×L2.T)}:b.im=O->k > c->j8 gs n (.t [.s "pay",.i k,b]) ns c (.fin c (.t [.s "short",.i k]))
 |pay{n k c:Int}{b:L2.T}{ns:List (Key×L2.T)}:b.im=O->¬ k > c->j8 gs n (.t [.s "pay",.i k,b]) ns c (.on (n+1) b ns (c - k))
 |get{n k c:Int}{b:L2.T}{ns:List (Key×L2.T)}:b.im=O->j8 gs n (.t [.s "get",.i k,b]) ns c (.on (n+1) b ns (c+k))
 |name{n:Int}{y z:Str}{v b:L2.T}{c:Int}{ns:List (Key×L2.T)}:b.im=O->bI ns (.inr z)=Z v->v.im=O->j8 gs n (.t [.s "name",.s y,.s z,b]) ns c (.on (n+1) b (cF ns (.inr y) v) c)
 |great{n:Int}{y mk:Str}{ys:List Str}{vs:List Vl}{b:L2.T}{c:Int}{ns:List (Key×L2.T)}:b.im=O->ys.length<=1000->Looks ns ys (vs.map Vl.t)->((Vl.mk mk vs).sz<=1000/\(Vl.mk mk vs).dp<=90)->(Vl.mk mk vs).sz > 200\/(Vl.mk mk vs).dp > 60->j8 gs n (.t [.s "make",.s y,.s mk,.t (ys.map .s),b]) ns c (.fin c (.t [.s "great",.s mk]))
 |make{n:Int}{y mk:Str}{ys:List Str}{vs:List Vl}{b:L2.T}{c:Int}{ns:List (Key×L2.T)}:b.im=O->ys.length<=1000->Looks ns ys (vs.map Vl.t)->((Vl.mk mk vs).sz<=1000/\(Vl.mk mk vs).dp<=90)->¬((Vl.mk mk vs).sz > 200\/(Vl.mk mk vs).dp > 60)->j8 gs n (.t [.s "make",.s y,.s mk,.t (ys.map .s),b]) ns c (.on (n+1) b (cF ns (.inr y) (Vl.mk mk vs).t) c)
 |call{n:Int}{y nm:Str}{ys:List Str}{vs:List L2.T}{b:L2.T}{c:Int}{ns:List (Key×L2.T)}{f:Nat}{g:WF}:b.im=O->ys.length<=1000->Looks ns ys vs->gs[f]?=Z g->g.nm=.s nm->(∀(j:Nat)(g':WF),j<f->gs[j]?=Z g'->∃s',g'.nm=.s s'/\s'≠nm)->g.prs.length<=100->j8 gs n (.t [.s "call",.s y,.s nm,.t (ys.map .s),b]) ns c (.push f vs)
 |give{n c:Int}{x:Str}{v:L2.T}{ns:List (Key×L2.T)}:bI ns (.inr x)=Z v->v.im=O->j8 gs n (.t [.s "give",.s x]) ns c (.give v)
 |case {n c:Int} {x mk:Str} {us:List L2.T} {ns:List (Key×L2.T)} {arms:List (Str×List Str×L2.T)} {Ls:List (List L2.T)} {j:Nat} {ys:List Str} {b:L2.T}:bI ns (.inr x)=Z (.t [.s mk,.t us])->T.ims us=O->Fm arms Ls->arms[j]?=Z (mk,ys,b)->(∀(i:Nat)(z:Str×List Str×L2.T),i<j->arms[i]?=Z z->z.1≠mk)->us.length=ys.length->ys.length<=50->j8 gs n (.t [.s "case",.s x,.t (arms.map fC)]) ns c (.on (n+(1+(ahd Ls j:Nat))) b (aO ns ((ys.map λy=>(.inr y:Key)).zip us)) c)
structure Below(CF:J)(frs:List L2.T)(dv:List L2.T)(x':J)(f' n':Int)(ps':List L2.T)(ns':List (Key×L2.T))(y:Str)(b:L2.T):Prop where
 e:frs=dv ++ [fT CF x' f' n' (.t ps') ns']
 i:T.imk ns'=O
 l:ns'.length<1000
 p:T.ims ps'=O
 y:ps'[1]?=Z (.s y)
 b:ps'.getLast?=Z b
def Ri(CF:J)(frs:List L2.T):zW->Prop
 |.give _=>frs=[]\/∃dv x' f' n' ps' ns' y b,Below CF frs dv x' f' n' ps' ns' y b
 |_=>True
def OZ(CW CF a:J)(gs:List WF)(frs:List L2.T)(x:J)(f n:Int)(p:L2.T)(ns:List (Key×L2.T))(c m:Int):zW->L2.T->Prop
 |.on n' q ns' c',t=>t=wT CW a (.t (gs.map WF.t)) (frs ++ [fT CF x f n' q ns']) c' m .n
 |.push h vs,t=>∃x' g,gs[h]?=Z g/\t=wT CW a (.t (gs.map WF.t)) (frs ++ [fT CF x f n p ns] ++ [fT CF x' h 0 g.b (g.names vs)]) c m .n
 |.fin c' e,t=>t=wT CW a (.t (gs.map WF.t)) [] c' m e
 |.give v,t=>(frs=[]/\t=wT CW a (.t (gs.map WF.t)) [] c m (.t [.s "gave",v]))\/∃dv x' f' n' ps' ns' y b,Below CF frs dv x' f' n' ps' ns' y b/\t=wT CW a (.t (gs.map WF.t)) (dv ++ [fT CF x' f' (n'+1) b (cF ns' (.inr y) v)]) c m .n
def CP(frs:List L2.T):zW->Bool
 |.fin _ _=>ϊ
 |.give _=>!frs.isEmpty
 |_=>O
inductive Hm(CW CF:J)(ts:List L2.T)(Q:L2.T->L2.T->Prop):Prop
 |mk(a x fns frs f n z ns v c m)(h1:ts=[wT CW a fns (frs ++ [fT CF x f n (.t [.s "give",.s z]) ns]) c m .n,.rf x])(h2:T.imk ns=O)(h3:bI ns (.inr z)=Z v)(h4:v.im=O)(h5:frs.length<10000)(h6:((frs=[]/\Q .n (wT CW a fns [] c m (.t [.s "gave",v])))\/∃dv x' f' n' ps' ns' y b,Below CF frs dv x' f' n' ps' ns' y b/\Q .n (wT CW a fns (dv ++ [fT CF x' f' (n'+1) b (cF ns' (.inr y) v)]) c m .n)))
inductive LI(CF:J)(ts:List L2.T)(Q:L2.T->L2.T->Prop):Prop
 |mk (x f n z arms Ls mk us ns j ys b) (h1:ts=[fT CF x f n (.t [.s "case",.s z,.t (arms.map fC)]) ns]) (h2:T.imk ns=O) (h3:ns.length<900) (h4:bI ns (.inr z)=Z (.t [.s mk,.t us])) (h5:T.ims us=O) (h6:Fm arms Ls) (h7:arms[j]?=Z (mk,ys,b)) (h8:(∀(i:Nat)(z:Str×List Str×L2.T),i<j->arms[i]?=Z z->z.1≠mk)) (h9:us.length=ys.length) (h10:ys.length<=50) (h11:Q .n (fT CF x f (n+(1+(ahd Ls j:Nat))) b (aO ns ((ys.map λy=>(.inr y:Key)).zip us))))
inductive UL(CW CF:J)(ts:List L2.T)(Q:L2.T->L2.T->Prop):Prop
 |mk(a x gs frs f n p ns c m r)(h1:ts=[wT CW a (.t (gs.map WF.t)) (frs ++ [fT CF x f n p ns]) c m .n,.rf x])(h2:oP gs)(h3:T.imk ns=O)(h4:ns.length<900)(h5:frs.length<10000)(h6:j8 gs n p ns c r)(h7:Ri CF frs r)(h8:∀t,OZ CW CF a gs frs x f n p ns c m r t->Q .n t)
def wG(CW CF:J):uE:=λts Q=>(E11 λa x gs frs f n p ns c m r=>ts=[wT CW a (.t (gs.map WF.t)) (frs ++ [fT CF x f n p ns]) c m .n]/\oP gs/\T.imk ns=O/\ns.length<900/\frs.length<10000/\j8 gs n p ns c r/\Ri CF frs r/\∀t,OZ CW CF a gs frs x f n p ns c (m+1) r t->Q (.b (CP frs r)) t) \/
 ∃a fns c m ps,ts=[wT CW a fns [] c m (.t ps)]/\T.ims ps=O/\Q (.b ϊ) (wT CW a fns [] c m (.t ps))
inductive kJ:List L2.T->List L2.T->Prop
 |nil:kJ [] []
 |cons{b:L2.T}{bs L M:List L2.T}:Lst 93 b L->kJ bs M->kJ (b::bs) (L++M)
theorem Lst.up:∀{b:L2.T}{L:List L2.T},Lst k b L->Lst (k+1) b L:=by
 induction k with
 |zero=>intro b L h;cases h
 |succ k g =>
  intro b L h;cases h with
  |give=>exact .give
  |more h0 h1 h2 h3 h4 h5=>exact .more h0 h1 h2 h3 h4 (g h5)
  |case hl h2 h3=>exact .case hl (λi z L K q=>g (h2 i z L K q)) h3
inductive Bn:L2.T->List L2.T->Prop
 |give{y:Str}:Bn (.t [.s "give",.s y]) []
 |more{w:Str}{ps:List L2.T}{b:L2.T}:ps[0]?=Z (.s w)->w ≠ "give"->w ≠ "case"->ps.getLast?=Z b->T.ims ps=O->Bn (.t ps) [b]
 |case{x:Str}{arms:List (Str×List Str×L2.T)}:T.ims (arms.map fC)=O->arms.length<=90000->Bn (.t [.s "case",.s x,.t (arms.map fC)]) (arms.map (·.2.2))
theorem kJ.app:∀{as bs L M:List L2.T},kJ as L->kJ bs M->kJ (as++bs) (L++M)
 |_,_,_,_,.nil,h=>h
 |_,_,_,_,.cons h1 h2,h=>by rw[Rl];exact .cons h1 (h2.app h)
theorem kJ.of{Ls:List (List L2.T)}:∀{bs:List L2.T},Ls.length=bs.length->(∀(i:Nat)(b:L2.T)(L:List L2.T),bs[i]?=Z b->Ls[i]?=Z L->Lst 93 b L)->kJ bs Ls.flatten:=by
 induction Ls with
 |nil=>intro bs h _;cases bs with
  |nil=>exact .nil
  |cons b r=>cases h
 |cons L r g =>
  intro bs h h2;cases bs with
  |nil=>cases h
  |cons b bs=>exact .cons (h2 0 b L U U) (g (by simpa using h) λi K P z q=>h2 (i+1) K P z q)
theorem Lst.pos(h:Lst k b L):1<=L.length:=by cases h <;> simp
theorem kJ.len:∀{bs M:List L2.T},kJ bs M->bs.length<=M.length
 |_,_,.nil=>m9 _
 |_,_,.cons h1 h2=>by rw[rl,pL];have:=h1.pos;have:=h2.len;lia
theorem Iz{x:L2.T}:ixN (xs ++ [x]).length (-1)=Z xs.length:=by
 rw[pL];show(if -((xs.length+1):Int) <= -1 then Z (-1+((xs.length+1):Int)).toNat else Y)=Z xs.length
 rw[if_pos (by lia)]
 congr 1
 lia
theorem IT{x:L2.T}:(xs ++ [x])[xs.length]?=Z x:=by rw[vr (m9 _),WD];rfl
theorem MK{l:List Nat}{x:Nat}(h:x∈l):x<=l.sum:=by
 induction l with
 |nil=>cases h
 |cons y r g =>
  rw[V5];obtain z|z:=kz.mp h
  ·lia
  ·lia
theorem IZ{Ls:List (List L2.T)}(h:∀L∈Ls,1<=L.length):Ls.length<=Ls.flatten.length:=by
 induction Ls with
 |nil=>exact m9 _
 |cons L r g =>
  let h1:=h L jf;let h2:=g λM q=>h M (j0 _ q)
  rw[WZ,pL,rl]
  lia
theorem Lst.kids(h:Lst 93 b L)(hl:L.length<=90000):∃bs M,Bn b bs/\L=b::M/\kJ bs M:=by
 cases h with
 |give=>exact([],[],.give,U,.nil)
 |@more _ _ _ P q h0 h1 h2 h3 h4 h5=>exact([P],q,.more h0 h1 h2 h3 h4,U,by have:=kJ.cons h5.up .nil;rwa [tG]at this)
 |@case _ x arms Ls g h2 h3 =>
  let hf:=IZ λL V=>by
   let(i,hi,U):=BR V;exact(h2 i (arms[i]'(by lia)) _ (eO (by lia)) (eO hi)).pos
  rw[rl]at hl;refine(_,Ls.flatten,.case h3 (by lia),U,.of (by rw[ej];exact g) λi P q K e2=>?_)
  rw[j5]at K;let(z,Q,U):=kg.mp K;exact(h2 i z q Q e2).up
def spT(C:J)(p a r:L2.T):L2.T:=.ob C [Zp,"above","arm"] [p,a,r]
def SpL(C:J)(Yz bs:List L2.T):Prop:=Yz.length=bs.length/\∀(i:Nat)(b:L2.T),bs[i]?=Z b->∃a r,Yz[i]?=Z (spT C b a r)
theorem SpL.nil:SpL C [] []:=(U,λi b h=>by simp at h)
theorem SpL.app(h:SpL C X as)(h2:SpL C Yz bs):SpL C (X++Yz) (as++bs):=by
 refine(by rw[pL,pL,h.1,h2.1],λi b e=>?_)
 by_cases hi:i<as.length
 ·rw[u4 hi]at e;rw[u4 (by rw[h.1];exact hi)]
  exact h.2 i b e
 ·rw[vr (by lia)]at e
  rw[vr (by rw[h.1];lia),h.1]
  exact h2.2 _ b e
theorem SpL.one{b a r:L2.T}:SpL C [spT C b a r] [b]:=(U,λi g h=>by
 cases i with
 |zero=>cases h;exact(a,r,U)
 |succ i=>simp at h)
theorem SpL.rev:∀{bs Yz:List L2.T},SpL C Yz bs->SpL C Yz.reverse bs.reverse
 |[],Yz,h=>by have:=WA h.1;subst this;exact .nil
 |b::r,Yz,h=>by
  cases Yz with
  |nil=>cases h.1
  |cons y Yz =>
   let(a,q,e):=h.2 0 b U;cases e;rw[V6,V6];exact(SpL.rev (by simpa using h.1,λi g e=>h.2 (i+1) g e)).app .one
theorem SpL.ims(h:SpL C Yz bs):T.ims Yz=true:=cp λt g=>by
 let(i,hi,U):=BR g;let(a,r,e):=h.2 i (bs[i]'(by rw[<- h.1];exact hi)) (eO _)
 rw[eO hi]at e;rw[Option.some.inj e];rfl
theorem u7:∀(ys:List Str)(us:List L2.T),fe (lQ (ys.map .s) us)=Z ((ys.map λy=>(.inr y:Key)).zip us)
 |[],_=>rfl
 |_::_,[]=>rfl
 |y::ys,u::us=>by
  let g:=u7 ys us;show(match(L2.T.s y).key,fe (lQ (ys.map .s) us)with|some k,Z r=>Z ((Prod.mk k u)::r)|_,_=>Y)=_
  rw[g];rfl
variable{ys:List Str}
theorem J1(h:T.ims us=O):T.ims (lQ (ys.map .s) us)=true:=cp λt g=>by
 let(p,hp,U):=tE.mp g;let(h1,h2):=UU hp;let(s,_,e):=tE.mp h1;show(p.1.im&&(p.2.im&&O))=O;rw[<- e,cn h h2];rfl
theorem zR(h:Ls[i]?=Z L):ahd Ls (i+1)=ahd Ls i+L.length:=by
 unfold ahd;rw[wh,h,zY];simp
theorem Fm.at{arms:List (Str×List Str×L2.T)}(h:Fm arms Ls){i:Nat}(e:arms[i]?=Z z):∃L,Ls[i]?=Z L/\Lst 93 z.2.2 L/\L.length<=90000/\z.2.2.im=true:=by
 let hi:=(kf.mp e).1;let h1:=h.l;let g:Ls[i]?=Z (Ls[i]'(by lia)):=eO _
 let h3:=h.ok i z _ e g;refine(_,g,h3,?_,h3.im)
 have:=h.s
 let h5:(Ls[i]'(by lia)).length<=Ls.flatten.length:=by
  rw[List.length_flatten];exact MK (Wj (Wr _))
 lia
inductive Em(C:J)(ts:List L2.T)(Q:L2.T->Prop):Prop
 |mk(b:L2.T)(bs:List L2.T)(n:Int)(h1:ts=[b,.i n])(h2:Bn b bs)(h3:∀Yz,SpL C Yz bs->Q (.l Yz))
inductive LF(C:J)(ts:List L2.T)(Q:L2.T->Prop):Prop
 |mk(b:L2.T)(L:List L2.T)(h1:ts=[b])(h2:Lst 93 b L)(h3:L.length<=90000)(h4:∀Yz,SpL C Yz L->Q (.l Yz))
inductive Hg(ts:List L2.T)(Q:L2.T->Prop):Prop
 |mk(b:L2.T)(L:List L2.T)(h1:ts=[b])(h2:Lst 93 b L)(h3:L.length<=90000)(h4:Q (.l L))
theorem Looks.ims{ns:List (Key×L2.T)}(h:Looks ns ys vs):L2.T.ims vs=true:=cp λt g=>by
 let(hl,hv):=h;let(i,hi,U):=BR g;let(v,h1,h2,h3):=hv i (ys[i]'(by lia)) (eO (by lia))
 rw[eO hi]at h1;cases h1;exact h3
inductive Hi(k:Nat)(ts:List L2.T)(Q:L2.T->Prop):Prop
 |mk(b:L2.T)(L:List L2.T)(h1:ts=[b])(h2:Lst k b L)(h3:L.length<=100000)(h4:Q (.l L))
inductive LG(k:Nat)(ts:List L2.T)(Q:L2.T->Prop):Prop
 |mk(v:Vl)(h1:ts=[v.t])(h2:v.dp<=k)(h3:v.sz<=1000)(h4:Q (.t [.i (v.sz:Nat),.i (v.dp:Nat)]))
theorem Vl.xE:∀{ps:List Vl}{u:Vl},u∈ps->u.dp<=Vl.dps ps
 |v::r,u,h=>by
  rw[Vl.dps];obtain rfl|h:=kz.mp h
  ·lia
  ·have:=Vl.xE h;lia
theorem Vl.As:∀{ps:List Vl}{u:Vl},u∈ps->u.sz<=Vl.szs ps
 |v::r,u,h=>by
  rw[Vl.szs];obtain rfl|h:=kz.mp h
  ·lia
  ·have:=Vl.As h;lia
theorem Vl.B3:∀ps:List Vl,((ps.map λu=>((u.sz:Nat):Int)).sum)=(Vl.szs ps:Nat)
 |[]=>rfl
 |v::r=>by rw[xY,V5,Vl.B3 r,Vl.szs];lia
theorem Vl.Nk:∀ps:List Vl,zi (ps.map λu=>((u.dp:Nat):Int)) 0=(Vl.dps ps:Nat):=by
 intro ps;let key:∀r x,(r.map λu=>((u.dp):Int)).foldl max (x:Int)=(max x (Vl.dps r)):=by
  intro r
  induction r with
  |nil=>intro x;rw[Vl.dps,Nat.max_zero];rfl
  |cons v r g=>intro x;rw[xY,List.foldl_cons,Vl.dps,show max (x:Int) ((v.dp))=((max x v.dp))by lia,g,Nat.max_assoc]
 cases ps with
 |nil=>rfl
 |cons v r=>show(r.map _).foldl max ((v.dp):Int)=_;rw[key,Vl.dps]
theorem ij(h:∀t∈ts,t.pln=O):L2.T.dz ts=true:=by
 induction ts with
 |nil=>rfl
 |cons t r g=>show(t.pln&&L2.T.dz r)=O;rw[h t jf,g λt q=>h t (j0 _ q)];rfl
theorem gf{x:L2.T}:∀{xs:List L2.T},T.dz xs=O->x∈xs->x.pln=O
 |y::r,h,hx=>by
  let h:(y.pln&&T.dz r)=true:=h;rw[tD]at h;obtain e|hx:=kz.mp hx
  ·rw[e];exact h.1
  ·exact gf h.2 hx
theorem rK:∀{ns:List (Key×L2.T)},(∀p∈ns,p.2.pln=O)->T.gC ns=O
 |[],_=>rfl
 | (k,x)::r,h=>by
  show(x.pln&&T.gC r)=O;rw[h (k,x) jf,rK λp hp=>h p (j0 _ hp)];rfl
theorem mz:∀{ns:List (Key×L2.T)},T.gC ns=O->∀p∈ns,p.2.pln=O
 | (k,x)::r,h,p,hp=>by
  let h:(x.pln&&T.gC r)=true:=h;rw[tD]at h;obtain e|hp:=kz.mp hp
  ·rw[e];exact h.1
  ·exact mz h.2 p hp
theorem Ho{ns:List (Key×L2.T)}(h:T.gC ns=O)(hv:v.pln=O):T.gC (cF ns k v)=true:=by
 refine rK λp hp=>?_
 unfold cF at hp
 split at hp
 ·let(z,g,U):=tE.mp hp
  split
  ·exact hv
  ·exact mz h z g
 ·obtain z|z:=p7.mp hp
  ·exact mz h p z
  ·rw[g5.mp z];exact hv
theorem k9:∀{kts acc:List (Key×L2.T)},T.gC acc=O->(∀p∈kts,p.2.pln=O)->T.gC (aO acc kts)=O
 |[],_,h,_=>h
 |p::r,acc,h,g=>k9 (kts:=r) (Ho h (g p jf)) λq hq=>g q (j0 _ hq)
theorem WF.va(h:T.dz vs=O):T.gC (g.names vs)=true:=k9 U λp hp=>gf h (UU hp).2
theorem Vl.pln:∀v:Vl,v.t.pln=true:=by
 intro v;refine Vl.rec (motive_2:=λps=>L2.T.dz (Vl.ts ps)=O) (λm ps g=>?_) U (λv r h1 h2=>?_) v
 ·show(O&&(L2.T.dz (Vl.ts ps)&&O))=O;rw[g];rfl
 ·show(v.t.pln&&L2.T.dz (Vl.ts r))=O;rw[h1,h2];rfl
def stT(stk:List L2.T)(c m:Int)(e:L2.T):List (Key×L2.T):=[(.inr "stack",.zl stk),(.inr "coins",.i c),(.inr "steps",.i m),(.inr "end",e)]
def frL(f n:Int)(o:Obj)(vs:List (Key×V))(ns:List (Key×L2.T)):L2.T:=.t [.i f,.i n,.fd o vs ns]
inductive LM(t2:Bool)(ts:List L2.T)(Q:L2.T->Prop):Prop
 |mk(ks:L2.T)(gs:List WF)(f:Nat)(g:WF)(vs:List L2.T)(u:L2.T)(c:Int)(h1:ts=[.t [ks,.t (gs.map WF.t)],.i (f:Nat),u,.i c])(h2:oP gs)(h3:gs[f]?=Z g)(h4:g.prs.length<=100)(h5:T.ims vs=O)(h6:T.dz vs=O)(h7:(t2=O/\u=.t vs\/t2=ϊ/\(u=.zl vs\/u=.l vs)))(h8:∀o ws,Q (.d (stT [frL f 0 o ws (g.names vs)] c 0 .n)))
inductive UJ(t2:Bool)(ts:List L2.T)(Q:L2.T->Prop):Prop
 |mk (a:J) (stk:List L2.T) (f n n':Int) (o:Obj) (vs:List (Key×V)) (ns:List (Key×L2.T)) (c m:Int) (ys:List Str) (us:List L2.T) (u1 u2:L2.T) (h1:ts=[.dp a (stT (stk ++ [frL f n o vs ns]) c m .n),.i n',u1,u2]) (h2:T.imk ns=O) (h3:T.gC ns=O) (h4:ns.length+ys.length<1000) (h5:us.length=ys.length) (h6:T.ims us=O) (h7:T.dz us=O) (h8:stk.length<10000) (h9:T.dz stk=O) (h10:T.ims stk=O) (h11:u1=(if t2=O then .t (ys.map .s)else .zl (ys.map .s))) (h12:u2=(if t2=O then .t us else .zl us)) (h13:∀o' vs',Q (.dp a (stT (stk ++ [frL f n' o' vs' (aO ns ((ys.map λy=>(.inr y:Key)).zip us))]) c m .n)))
inductive Hk(ts:List L2.T)(Q:L2.T->Prop):Prop
 |mk(a:J)(stk:List L2.T)(c m:Int)(e e':L2.T)(h1:ts=[.dp a (stT stk c m e),e'])(h2:e.im=O)(h3:e'.im=O)(h4:Q (.dp a (stT [] c m e')))
theorem jU{xs:List α}{x:α}:eV (xs ++ [x]) Y (Z (-1))=xs:=by
 let h1:HT.sIx (xs ++ [x]).length 0 Y=0:=rfl;let h2:HT.sIx (xs ++ [x]).length (xs ++ [x]).length (Z (-1))=xs.length:=by
  rw[pL];show(-1+((xs.length+1):Int)).toNat=xs.length
  lia
 unfold eV;rw[h1,h2];simp
def PlG(ns:List (Key×L2.T)):Prop:=T.imk ns=O/\T.gC ns=O/\ns.length<900
def NK(gs:List WF):Prop:=∀g∈gs,∃s,g.nm=.s s
structure GvL(gs:List WF)(stk lU:List L2.T)(f' n':Nat)(o':Obj)(vs':List (Key×V))(ns':List (Key×L2.T))(y:Str):Prop where
 e:stk=lU ++ [frL f' n' o' vs' ns']
 g:∃g L ps,gs[f']?=Z g/\Lst 93 g.b L/\L.length<=100000/\L[n']?=Z (.t ps)/\ps[1]?=Z (.s y)
 n:PlG ns'
def GvS(gs:List WF)(stk:List L2.T):zW->Prop
 |.give _=>stk=[]\/∃lU f' n' o' vs' ns' y,GvL gs stk lU f' n' o' vs' ns' y
 |_=>True
def RN(a:J)(gs:List WF)(stk:List L2.T)(f n:Int)(o:Obj)(vs:List (Key×V))(ns:List (Key×L2.T))(c m:Int):zW->L2.T->Prop
 |.on n' _ ns' c',t=>∃o' vs',t=.dp a (stT (stk ++ [frL f n' o' vs' ns']) c' m .n)
 |.push h us,t=>∃o' vs' g,gs[h]?=Z g/\t=.dp a (stT (stk ++ [frL f n o vs ns] ++ [frL h 0 o' vs' (g.names us)]) c m .n)
 |.fin c' e,t=>t=.dp a (stT [] c' m e)
 |.give v,t=>(stk=[]/\t=.dp a (stT [] c m (.t [.s "gave",v])))\/∃lU f' n' o' vs' ns' y o2 vs2,GvL gs stk lU f' n' o' vs' ns' y/\t=.dp a (stT (lU ++ [frL (f':Nat) ((n':Nat)+1:Int) o2 vs2 (cF ns' (.inr y) v)]) c m .n)
inductive LJ(ts:List L2.T)(Q:L2.T->Prop):Prop
 |mk(a:J)(ks:L2.T)(gs:List WF)(stk:List L2.T)(fr:L2.T)(c m:Int)(v:L2.T)(h1:ts=[.t [ks,.t (gs.map WF.t)],.dp a (stT (stk ++ [fr]) c m .n),v])(h2:v.im=O)(h3:v.pln=O)(h4:fr.im=O)(h5:stk.length<9000)(h6:T.dz stk=O)(h7:T.ims stk=O)(h8:((stk=[]/\Q (.dp a (stT [] c m (.t [.s "gave",v]))))\/∃lU f' n' o' vs' ns' y,GvL gs stk lU f' n' o' vs' ns' y/\∀o2 vs2,Q (.dp a (stT (lU ++ [frL (f':Nat) ((n':Nat)+1:Int) o2 vs2 (cF ns' (.inr y) v)]) c m .n))))
inductive Ba(ts:List L2.T)(Q:L2.T->Prop):Prop
 |mk (a:J) (stk:List L2.T) (f n0:Int) (n:Int) (o:Obj) (vs:List (Key×V)) (ns:List (Key×L2.T)) (c m:Int) (z mk:Str) (us:List L2.T) (arms:List (Str×List Str×L2.T)) (Ls:List (List L2.T)) (j:Nat) (ys:List Str) (b:L2.T) (h1:ts=[.dp a (stT (stk ++ [frL f n0 o vs ns]) c m .n),.i n,.t [.s "case",.s z,.t (arms.map fC)],.t [.s mk,.t us]]) (h2:PlG ns) (h3:T.ims us=O) (h4:T.dz us=O) (h5:stk.length<9000) (h6:T.dz stk=O) (h7:T.ims stk=O) (h8:Fm arms Ls) (h9:arms[j]?=Z (mk,ys,b)) (h10:(∀(i:Nat)(z:Str×List Str×L2.T),i<j->arms[i]?=Z z->z.1≠mk)) (h11:us.length=ys.length) (h12:ys.length<=50) (h13:∀o' vs',Q (.dp a (stT (stk ++ [frL f (n+(1+(ahd Ls j:Nat))) o' vs' (aO ns ((ys.map λy=>(.inr y:Key)).zip us))]) c m .n)))
inductive wH(ts:List L2.T)(Q:L2.T->Prop):Prop
 |mk(a:J)(ks:L2.T)(gs:List WF)(stk:List L2.T)(f n:Nat)(o:Obj)(vs:List (Key×V))(ns:List (Key×L2.T))(c m:Int)(g:WF)(L:List L2.T)(p:L2.T)(r:zW)(h1:ts=[.t [ks,.t (gs.map WF.t)],.dp a (stT (stk ++ [frL f n o vs ns]) c m .n)])(h2:ks.im=O)(h3:oP gs)(h4:NK gs)(h5:gs.length<=100)(h6:gs[f]?=Z g)(h7:Lst 93 g.b L)(h8:L.length<=100000)(h9:L[n]?=Z p)(h10:PlG ns)(h11:stk.length<9000)(h12:T.dz stk=O)(h13:T.ims stk=O)(h14:j8 gs n p ns c r)(h15:GvS gs stk r)(h16:∀t,RN a gs stk f n o vs ns c (m+1) r t->Q t)
theorem EG{ns:List (Key×L2.T)}(h:bI ns k=Z v):∃p∈ns,p.2=v:=by
 let(p,hp,e):=kg.mp h;exact(p,VS hp,e)
theorem PlG.pln{ns:List (Key×L2.T)}(h:PlG ns)(e:bI ns k=Z v):v.pln=true:=by
 let(p,hp,U):=EG e;exact mz h.2.1 p hp
theorem PlG.dz{ns:List (Key×L2.T)}(h:PlG ns)(e:Looks ns ys vs):T.dz vs=true:=ij λt g=>by
 let(hl,hv):=e;let(i,hi,U):=BR g;let(v,h1,h2,h3):=hv i (ys[i]'(by omega)) (eO (by omega))
 rw[eO hi]at h1;cases h1;exact h.pln h2
theorem Qr(hn:NK gs)(hg:gs[h]?=Z g)(e:g.nm=.s nm)(K:∀(j:Nat)(g':WF),j<h->gs[j]?=Z g'->∃s',g'.nm=.s s'/\s'≠nm):(gs.map (·.nm)).findIdx? (λz=>eqV z.v (L2.T.s nm).v)=Z h:=by
 let(hi,P):=kf.mp hg;rw[WW];refine(by rw[ej];exact hi,?_,λj hj=>?_)
 ·rw[Yv,P,e];exact decide_eq_true U
 ·let(s',Q,q):=K j (gs[j]'(by lia)) hj (eO (by lia))
  rw[Yv,Q];exact λz=>q (of_decide_eq_true (z))
theorem QM(hn:NK gs):fls (gs.map (·.nm))=true:=NM.mpr λx hx=>by
 let(g,hg,U):=tE.mp hx;let(s,e):=hn g hg;rw[e];rfl
inductive BP(ks:List Kd):Str->Vl->Prop
 |mk{kd:Kd}{m:Mk1}{ps:List Vl}:kd∈ks->m∈kd.2->ps.length=m.2.length->(∀(i:Nat)(v:Vl)(f:Str),ps[i]?=Z v->m.2[i]?=Z f->BP ks f v)->BP ks kd.1 (.mk m.1 ps)
theorem CY(q:∀k t,isN ks n k t=O->∃v:Vl,v.t=t/\BP ks k v/\v.sz=wt n t):∀(fs:List Str)(ps:List L2.T),fs.length=ps.length->((fs.zip ps).all λp=>isN ks n p.1 p.2)=O->∃vs:List Vl,vs.map Vl.t=ps/\vs.length=fs.length/\(∀(i:Nat)(v:Vl)(f:Str),vs[i]?=Z v->fs[i]?=Z f->BP ks f v)/\Vl.szs vs=(ps.map (wt n)).sum
 |[],[],_,_=>([],U,U,λi v f h=>by simp at h,U)
 |f::fs,p::ps,hl,h=>by
  rw[Xm,Xt,tD]at h;let(v,e,hv,hs):=q f p h.1;let(vs,Q,P,K,z):=CY q fs ps (by simpa using hl) h.2
  refine(v::vs,by rw[xY,e,Q],by simp[P],λi u g h1 h2=>?_,by rw[Vl.szs,xY,V5,hs,z])
  cases i with
  |zero=>cases h1;cases h2;exact hv
  |succ i=>exact K i u g h1 h2
 |[],_::_,hl,_=>by cases hl
 |_::_,[],hl,_=>by cases hl
theorem RB{x:L2.T}(h:x.v=.str s):x=.s s:=by
 cases x <;> first|(cases h;rfl)|cases h
theorem Ql:∀(n:Nat)(k:Str)(t:L2.T),isN ks n k t=O->∃v:Vl,v.t=t/\BP ks k v/\v.sz=wt n t:=by
 intro n
 induction n with
 |zero=>intro k t h;cases h
 |succ n q =>
  intro k t h;obtain⟨x,ps,rfl⟩:∃x ps,t=.t [x,.t ps]:=by
   cases t with
   |t l=>cases l with
    |nil=>cases h
    |cons x l=>cases l with
     |nil=>cases h
     |cons y l=>cases y with
      |t ps=>cases l with
       |nil=>exact(x,ps,U)
       |cons=>cases h
      |_=>cases h
   |_=>cases h
  replace h:(match due ks k x ps.length with|some fs=>(fs.zip ps).all λp=>isN ks n p.1 p.2|none=>ϊ)=true:=h
  ·split at h
   ·rename_i fs hd;let(m,hm,U):=kg.mp hd;let h2:=Xf hm;rw[tD]at h2;let ex:=RB (of_decide_eq_true h2.1).symm;let K:=of_decide_eq_true h2.2;subst ex;let(kd,z,U,e):=xj (VS hm);let g:=VS hm;rw[e]at g;let(vs,e1,V,Q,P):=CY q m.2 ps K h;refine(.mk m.1 vs,by rw[Vl.t,Vl.Ao,e1],.mk z g V Q,by rw[Vl.sz,P];rfl)
   ·cases h
theorem Vl.TY:∀v:Vl,v.dp<=v.sz:=by
 intro v;refine Vl.rec (motive_2:=λps=>Vl.dps ps<=Vl.szs ps) (λm ps g=>by rw[Vl.dp,Vl.sz];lia) (m9 _) (λv r h1 h2=>by rw[Vl.dps,Vl.szs];lia) v
theorem Vl.dep:∀v:Vl,Dep (2*v.dp) v.t:=by
 intro v;refine Vl.rec (motive_2:=λps=>∀t∈Vl.ts ps,Dep (2*Vl.dps ps) t) (λm ps q=>?_) (λt h=>by cases h) (λv r h1 h2 t g=>?_) v
 ·rw[Vl.dp,show 2*(1+Vl.dps ps)=2*Vl.dps ps+1+1 by lia]
  exact Dep.t (cg Dep.s (cg (Dep.t q) eD))
 ·rw[Vl.dps];obtain rfl|g:=kz.mp g
  ·exact h1.mono (by lia)
  ·exact(h2 t g).mono (by lia)
def GdV(ks:List Kd)(k:Str)(t:L2.T):Prop:=∃v:Vl,v.t=t/\BP ks k v/\v.sz<=200/\v.dp<=60
def Env(ks:List Kd)(sc:Sc)(ns:List (Key×L2.T)):Prop:=∀p∈sc,∃t,bI ns (.inr p.1)=Z t/\GdV ks p.2 t
theorem GdV.im(h:GdV ks k t):t.im=true:=by let(v,U,_):=h;exact v.im
theorem GdV.pln(h:GdV ks k t):t.pln=true:=by let(v,U,_):=h;exact v.pln
theorem Env.put{ns:List (Key×L2.T)}(h:Env ks sc ns)(hx:x ∉ sc.map (·.1))(g:GdV ks k t):Env ks (sc ++ [(x,k)]) (cF ns (.inr x) t):=λp hp=>by
 rw[Il];obtain z|z:=p7.mp hp
 ·rw[if_neg λe=>hx (by rw[Sum.inr.inj e];exact Wj z)]
  exact h p z
 ·rw[g5.mp z,if_pos rfl];exact(t,U,g)
theorem Env.zip{sc:Sc}:∀{ys fs:List Str}{us:List L2.T}{ns:List (Key×L2.T)},Env ks sc ns->ys.length=fs.length->us.length=ys.length->(sc.map (·.1)++ys).Nodup->(∀(i:Nat)(u:L2.T)(f:Str),us[i]?=Z u->fs[i]?=Z f->GdV ks f u)->Env ks (sc++ys.zip fs) (aO ns ((ys.map λy=>(.inr y:Key)).zip us))
 |[],_,_,ns,h,_,_,_,_=>by rw[List.zip_nil_left,tG];exact h
 |y::ys,[],_,_,_,h1,_,_,_=>by cases h1
 |y::ys,f::fs,[],_,_,_,h2,_,_=>by cases h2
 |y::ys,f::fs,u::us,ns,h,h1,h2,hn,hg=>by
  let q:=λz=>(Fj.mp hn).2.2 y z y jf U
  let g:=Env.zip (h.put q (hg 0 u f U U)) (by simpa using h1) (by simpa using h2) (by rw[zY,Rl];exact hn) λi u' f' P K=>hg (i+1) u' f' P K
  rw[Rl]at g;exact g
theorem Env.fill{ns:List (Key×L2.T)}(h:Env ks sc ns)(hf:Fills sc ys fs):∃vs:List Vl,Looks ns ys (vs.map Vl.t)/\vs.length=fs.length/\(∀(i:Nat)(v:Vl)(f:Str),vs[i]?=Z v->fs[i]?=Z f->BP ks f v)/\∀v∈vs,v.sz<=200/\v.dp<=60:=by
 let(hl,K):=hf
 induction ys generalizing fs with
 |nil =>
  cases fs with
  |nil=>exact([],(U,λi y e=>by simp at e),U,λi v f e=>by simp at e,b6)
  |cons _ _=>cases hl
 |cons y ys Q =>
  cases fs with
  |nil=>cases hl
  |cons f fs =>
   let(vs,(l1,l2),e2,e3,e4):=Q (by simpa using hl) λp hp=>K p (j0 _ hp)
   let(t,V,v,U,hv,hs,hd):=h (y,f) (K (y,f) jf);refine(v::vs,(by simpa using l1,λi P e=>?_),by simp[e2],λi u g h1 h2=>?_,λu q=>?_)
   ·cases i with
    |zero=>cases e;exact(v.t,U,V,v.im)
    |succ i=>exact l2 i P e
   ·cases i with
    |zero=>cases h1;cases h2;exact hv
    |succ i=>exact e3 i u g h1 h2
   ·obtain rfl|q:=kz.mp q
    ·exact(hs,hd)
    ·exact e4 u q
def toW(f:Fn):WF:=(.s f.1.1,f.1.2.1.map λp=>(Prod.mk p.1 (.s p.2)),.s f.1.2.2,f.2.1)
theorem RD(f:Fn):(toW f).t=tF f:=by
 show L2.T.t [.s f.1.1,.t ((f.1.2.1.map λp=>(Prod.mk p.1 (L2.T.s p.2))).map λp=>.t [.s p.1,p.2]),.s f.1.2.2,f.2.1]=_
 rw[Qo];rfl
def da(fs:List Fn):List WF:=fs.map toW
theorem TL(fs:List Fn):(da fs).map WF.t=fs.map tF:=by
 unfold da;rw[Qo];exact WQ λf _=>RD f
theorem jO{f:Nat}(h:fs[f]?=Z fn):(da fs)[f]?=Z (toW fn):=by unfold da;rw[j5,h];rfl
theorem Prog.fns(h:Prog ks fs):oP (da fs):=by
 show L2.T.ims ((da fs).map WF.t)=O;rw[TL];refine cp λt g=>?_
 let(f,hf,U):=tE.mp g;show(O&&(L2.T.ims (f.1.2.1.map tP)&&(O&&(f.2.1.im&&O))))=O;rw[bF jM,(h.sn f hf).1.im];rfl
theorem TN(fs:List Fn):NK (da fs):=λg hg=>by
 let(f,_,U):=tE.mp hg;exact(_,U)
theorem Lst.mono(h:Lst k b L)(q:k<=k'):Lst k' b L:=by
 induction q with
 |refl=>exact h
 |step _ g=>exact g.up
theorem lD(h:Dep n (.t ts)):∃m,n=m+1/\∀x∈ts,Dep m x:=by
 cases n with
 |zero=>obtain⟨_,z⟩|⟨_,z⟩:=h <;> cases z
 |succ m =>
  obtain⟨_,z⟩|⟨_,z⟩|⟨us,z,h⟩:=h
  ·cases z
  ·cases z
  ·cases z;exact(m,U,h)
def Nu(a:Arm):Str×List Str×L2.T:=(a.1,a.2.1,a.2.2.1)
theorem xP(arms:List Arm):(arms.map Nu).map fC=arms.map tA:=by rw[Qo];rfl
theorem IB(h:Snd ks hs r n sc (.t [.s "case",.s x,.t (arms.map tA)])):L2.T.ims ((arms.map Nu).map fC)=true:=by
 rw[xP];let h:(O&&(O&&(L2.T.ims (arms.map tA)&&O)))=true:=h.im;simpa using h
theorem zk{α β:Type}{P:α->β->Prop}:∀{xs:List α},(∀x∈xs,∃y,P x y)->∃ys:List β,ys.length=xs.length/\∀(i:Nat)(x:α)(y:β),xs[i]?=Z x->ys[i]?=Z y->P x y
 |[],_=>([],U,λi x y h=>by simp at h)
 |x::xs,h=>by
  let(y,Q):=h x jf;let(ys,h1,h2):=zk λz K=>h z (j0 _ K)
  refine(y::ys,by simp[h1],λi a b q g=>?_)
  cases i with
  |zero=>cases q;cases g;exact Q
  |succ i=>exact h2 i a b q g
theorem Nf:∀{Ls:List (List L2.T)},Ls.length=arms.length->(∀(i:Nat)(a:Arm)(L:List L2.T),arms[i]?=Z a->Ls[i]?=Z L->L.length<=a.2.2.2)->Ls.flatten.length <=(arms.map (·.2.2.2)).sum:=by
 induction arms with
 |nil=>intro Ls h _;have:=WA h;subst this;exact m9 _
 |cons a r g =>
  intro Ls h h2;cases Ls with
  |nil=>cases h
  |cons L Ls =>
   let h3:=h2 0 a L U U;let h4:=g (by simpa using h) λi K P z q=>h2 (i+1) K P z q
   rw[WZ,pL,xY,V5]
   lia
theorem Snd.lst{m:Nat}(h:Snd ks hs r m sc b):∀D,Dep D b->∃L,Lst (D+1) b L/\L.length<=m/\∀p∈L,∃m' K,Snd ks hs r m' K p:=by
 induction h with
 |give hx=>exact λD _=>(_,.give,m9 _,λp hp=>by rw[g5.mp hp];exact(_,_,.give hx))
 |@vq n sc w c b hw h g =>
  intro D q;let(E,U,hE):=lD q;let(L,h1,h2,h9):=g E (hE b (by simp))
  refine(_,.more (w:=w) U ?_ ?_ U (Snd.vq hw h).im h1,by rw[rl];lia,λp hp=>(kz.mp hp).elim (λe=>by rw[e];exact(_,_,.vq hw h)) (h9 p)) <;>(obtain rfl|rfl:=hw.1 <;> decide)
 |@name n sc x y k b hy hx h g =>
  intro D q;let(E,U,hE):=lD q;let(L,h1,h2,h9):=g E (hE b (by simp))
  exact(_,.more (w:="name") U (by decide) (by decide) U (Snd.name hy hx h).im h1,by rw[rl];lia,λp hp=>(kz.mp hp).elim (λe=>by rw[e];exact(_,_,.name hy hx h)) (h9 p))
 |@make n sc x m kd ns b Q hm hf hx h g =>
  intro D q;let(E,U,hE):=lD q;let(L,h1,h2,h9):=g E (hE b (by simp))
  exact(_,.more (w:="make") U (by decide) (by decide) U (Snd.make Q hm hf hx h).im h1,by rw[rl];lia,λp hp=>(kz.mp hp).elim (λe=>by rw[e];exact(_,_,.make Q hm hf hx h)) (h9 p))
 |@call n sc x hd ns b hh hf hx h g =>
  intro D q;let(E,U,hE):=lD q;let(L,h1,h2,h9):=g E (hE b (by simp))
  exact(_,.more (w:="call") U (by decide) (by decide) U (Snd.call hh hf hx h).im h1,by rw[rl];lia,λp hp=>(kz.mp hp).elim (λe=>by rw[e];exact(_,_,.call hh hf hx h)) (h9 p))
 |@case sc x kd arms hx Q P h1 h2 g =>
  intro D q;let hl:kd.2.length=arms.length:=by have:=congrArg V3 P;simpa using this.symm
  let(E1,U,az):=lD q;let(E,U,hE):=lD (az (.t (arms.map tA)) (by simp))
  let all:∀a∈arms,∃L,Lst (E+2) a.2.2.1 L/\L.length<=a.2.2.2/\∀p∈L,∃m' K,Snd ks hs r m' K p:=λa ha=>by
   let(i,hi,e):=BR ha;let(E',e',aD):=lD (ts:=[.s a.1,.t (a.2.1.map .s),a.2.2.1]) (hE _ (Wj ha));let(L,l1,l2,l3):=g i a (kd.2[i]'(by lia)) (by rw[eO hi,e]) (eO _) E' (aD _ (by simp))
   exact(L,l1.mono (by lia),l2,l3)
  let(Ls,l1,l2):=zk all;let av:=IB (Snd.case arms hx Q P h1 h2)
  have:=Lst.case (x:=x) (arms:=arms.map Nu) (Ls:=Ls) (k:=E+2) (by rw[ej];exact l1) (λi z L V e2=>by
   rw[j5]at V;let(a,ha,U):=kg.mp V;exact(l2 i a L ha e2).1) av
  rw[xP]at this;refine(_,this,?_,λp hp=>?_)
  ·rw[rl]
   have:=Nf l1 λi a L V e2=>(l2 i a L V e2).2.1
   lia
  ·obtain e|hp:=kz.mp hp
   ·rw[e];exact(_,_,.case arms hx Q P h1 h2)
   ·let(L,hL,hp):=W8.mp hp;let(i,hi,U):=BR hL;exact(l2 i (arms[i]'(by lia)) _ (eO (by lia)) (eO hi)).2.2 p hp
open Classical in
noncomputable def sj(b:L2.T):List L2.T:=if h:∃L,Lst 93 b L/\L.length<=50000 then h.choose else []
theorem Prog.ls(h:Prog ks fs)(hf:fn∈fs):Lst 93 fn.2.1 (sj fn.2.1)/\(sj fn.2.1).length<=50000:=by
 let(L,h1,h2,_):=(h.sn fn hf).1.lst 92 (h.dp fn hf);let ex:∃L,Lst 93 fn.2.1 L/\L.length<=50000:=(L,h1,xZ h2 (h.sn fn hf).2)
 unfold sj;rw[dif_pos ex];exact ex.choose_spec
structure Fr where
 f:Nat
 n:Nat
 p:L2.T
 ns:List (Key×L2.T)
 r:Str
 N:Nat
inductive Act where
 |pay(k:Int)(fr:Fr)|get (k:Int) (fr:Fr)|on (fr:Fr)|push (fr:Fr) (vs:List L2.T)|give (v:L2.T)|great (m:Str)
def AO:Act->Int->zW
 |.pay k fr',c=>if k > c then .fin c (.t [.s "short",.i k])else .on (fr'.n:Nat) fr'.p fr'.ns (c - k)
 |.get k fr',c=>.on (fr'.n:Nat) fr'.p fr'.ns (c+k)
 |.on fr',c=>.on (fr'.n:Nat) fr'.p fr'.ns c
 |.push fr' vs,_=>.push fr'.f vs
 |.give v,_=>.give v
 |.great m,c=>.fin c (.t [.s "great",.s m])
def PlV(ns:List (Key×L2.T)):Prop:=∀p∈ns,p.2.pln=O/\Dep 130 p.2
theorem PlV.k{ns:List (Key×L2.T)}(h:PlV ns):T.gC ns=true:=rK λp hp=>(h p hp).1
theorem PlV.put{ns:List (Key×L2.T)}{k:Key}(h:PlV ns)(hv:v.pln=O/\Dep 130 v):PlV (cF ns k v):=λp hp=>by
 unfold cF at hp
 split at hp
 ·let(z,g,U):=tE.mp hp
  split
  ·exact hv
  ·exact h z g
 ·obtain z|z:=p7.mp hp
  ·exact h p z
  ·rw[g5.mp z];exact hv
theorem PlV.merge:∀{kts acc:List (Key×L2.T)},PlV acc->(∀p∈kts,p.2.pln=O/\Dep 130 p.2)->PlV (aO acc kts)
 |[],_,h,_=>h
 |p::r,acc,h,g=>PlV.merge (kts:=r) (h.put (g p jf)) λq hq=>g q (j0 _ hq)
theorem GdV.pv(h:GdV ks k t):t.pln=O/\Dep 130 t:=by let(v,U,_,_,hd):=h;exact(v.pln,v.dep.mono (by lia))
structure nc(ks:List Kd)(fs:List Fn)(fr:Fr):Prop where
 ex:∃(fn:Fn)(Lp R:List L2.T)(sc:Sc)(m:Nat),fs[fr.f]?=Z fn/\fn.1.2.2=fr.r/\Lst (93 - fr.N) fr.p Lp/\Lp++R=(sj fn.2.1).drop fr.n/\Snd ks (fs.map (·.1)) fr.r m sc fr.p/\Env ks sc fr.ns
 im:T.imk fr.ns=O
 pl:PlV fr.ns
 ln:fr.ns.length<=4+4*fr.N
def Oq:L2.T->Str
 |.t [_,.s y,_,_,_]=>y
 |_=>""
def Ot:L2.T->L2.T
 |.t [_,_,_,_,b]=>b
 |_=>.n
def back(w:Fr)(v:L2.T):Fr:=(w.f,w.n+1,Ot w.p,cF w.ns (.inr (Oq w.p)) v,w.r,w.N+1)
structure Wt(ks:List Kd)(fs:List Fn)(w:Fr)(k:Str):Prop where
 ok:nc ks fs w
 p:∃(y nm:Str)(ys:List Str)(b:L2.T),w.p=.t [.s "call",.s y,.s nm,.t (ys.map .s),b]/\b.im=O
 b:∀v,GdV ks k v->nc ks fs (back w v)
structure Nxt(ks:List Kd)(fs:List Fn)(fr fr':Fr):Prop where
 ok:nc ks fs fr'
 f:fr'.f=fr.f
 r:fr'.r=fr.r
 N:fr'.N=fr.N+1
def Eff(ks:List Kd)(fs:List Fn)(fr:Fr):Act->Prop
 |.pay k fr'=>1<=k/\k<=1000/\(∃fn,fs[fr.f]?=Z fn/\L2.T.t [.s "pay",.i k,fr'.p]∈sj fn.2.1)/\Nxt ks fs fr fr'
 |.get k fr'=>1<=k/\Nxt ks fs fr fr'
 |.on fr'=>Nxt ks fs fr fr'
 |.push fr' vs=>nc ks fs fr'/\(∃g,fs[fr'.f]?=Z g/\fr'=(fr'.f,0,g.2.1,(toW g).names vs,g.1.2.2,0))/\Wt ks fs fr fr'.r
 |.give v=>GdV ks fr.r v
 |.great _=>True
theorem jD{M R L:List L2.T}(h:(p::M)++R=L.drop n):M++R=L.drop (n+1):=by
 have:=congrArg List.tail h
 rw[List.tail_drop]at this;exact this
theorem Hn{M R L:List L2.T}(h:(p::M)++R=L.drop n):L[n]?=Z p:=by
 have:(L.drop n)[0]?=Z p:=by rw[<- h];rfl
 rw[Yd]at this;exact this
theorem Lst.head(h:Lst k b L):∃M,L=b::M:=by cases h <;> exact(_,U)
theorem nc.at(h:nc ks fs fr):∃fn,fs[fr.f]?=Z fn/\(sj fn.2.1)[fr.n]?=Z fr.p:=by
 let(fn,Lp,R,sc,m,h1,h2,h3,h4,_):=h.ex;let(M,U):=h3.head;exact(fn,h1,Hn h4)
theorem nc.n92(h:nc ks fs fr):fr.N<=92:=by
 let(fn,Lp,R,sc,m,h1,h2,h3,_):=h.ex;refine W7 λz=>?_
 rw[show 93 - fr.N=0 by omega]at h3
 cases h3
theorem MW{w:Str}(h:Lst k (.t ps) Lp)(h0:ps[0]?=Z (.s w))(h1:w ≠ "give")(h2:w ≠ "case")(q:ps.getLast?=Z b):∃g,Lp=.t ps::g/\Lst (k - 1) b g:=by
 cases h with
 |give=>cases h0;exact absurd U h1
 |more _ _ _ g3 _ z=>rw[q]at g3;cases g3;exact(_,U,z)
 |case _ _ _=>cases h0;exact absurd U h2
theorem yk:∀{xs ys:List Str},xs.map L2.T.s=ys.map L2.T.s->xs=ys
 |[],[],_=>rfl
 |[],_::_,h=>by cases h
 |_::_,[],h=>by cases h
 |x::xs,y::ys,h=>by
  injection h with h1 h2
  injection h1 with h1
  rw[h1,yk h2]
theorem Jw{x y:Str×List Str×L2.T}(h:fC x=fC y):x=y:=by
 let(a,b,c):=x;injection h with h
 injection h with h1 h
 injection h with h2 h
 injection h with h3 _
 injection h1 with h1
 injection h2 with h2
 dsimp only at *;rw[h1,yk h2,h3]
theorem sW:∀{xs ys:List (Str×List Str×L2.T)},xs.map fC=ys.map fC->xs=ys
 |[],[],_=>rfl
 |[],_::_,h=>by cases h
 |_::_,[],h=>by cases h
 |x::xs,y::ys,h=>by
  injection h with h1 h2
  rw[Jw h1,sW h2]
theorem S9(K:k<=93){arms:List (Str×List Str×L2.T)}(h:Lst k (.t [.s "case",.s x,.t (arms.map fC)]) Lp)(hl:Lp.length<=90000):∃Ls,Lp=.t [.s "case",.s x,.t (arms.map fC)]::Ls.flatten/\Fm arms Ls/\∀(i:Nat)(z:Str×List Str×L2.T)(L:List L2.T),arms[i]?=Z z->Ls[i]?=Z L->Lst (k - 1) z.2.2 L:=by
 generalize e:(L2.T.t [.s "case",.s x,.t (arms.map fC)])=b at h
 cases h with
 |give=>cases e
 |more q _ g2 _ _ _ =>
  injection e with e
  rw[<- e]at q;cases q;exact absurd U g2
 |@case _ x' Q Ls g1 g2 g3 =>
  injection e with e
  injection e with _ e
  injection e with P e
  injection e with g _
  injection g with g
  cases sW g;rw[rl]at hl;exact(Ls,U,(g1,λi z L h1 h2=>(g2 i z L h1 h2).mono (by lia),g3,by lia),g2)
theorem Lst.uniq:∀{b:L2.T}{L q:List L2.T},Lst k b L->Lst k b q->L=q:=by
 induction k with
 |zero=>intro b L q h;cases h
 |succ k K =>
  intro b L q h h';cases h with
  |@give _ y =>
   generalize e:(L2.T.t [.s "give",.s y])=b at h'
   cases h' with
   |give=>rfl
   |more g g1 _ _ _ _=>injection e with e;rw[<- e]at g;cases g;exact absurd U g1
   |case _ _ _=>cases e
  |more h0 h1 h2 h3 h4 h5 =>
   cases h' with
   |give=>cases h0;exact absurd U h1
   |more _ _ _ g3 _ P=>rw[h3]at g3;cases g3;rw[K h5 P]
   |case _ _ _=>cases h0;exact absurd U h2
  |@case _ x arms Ls hl h2 h3 =>
   generalize e:(L2.T.t [.s "case",.s x,.t (arms.map fC)])=b at h'
   cases h' with
   |give=>cases e
   |more g _ g2 _ _ _=>injection e with e;rw[<- e]at g;cases g;exact absurd U g2
   |@case _ x' Ub Q g1 g2 g3 =>
    injection e with e
    injection e with _ e
    injection e with V e
    injection e with z _
    injection z with z
    cases sW z
    have:=W4 (by lia) λi i1 i2=>K (h2 i (arms[i]'(by lia)) _ (eO (by lia)) (eO i1)) (g2 i (arms[i]'(by lia)) _ (eO (by lia)) (eO i2))
    rw[this]
theorem vk:∀{Ls:List (List L2.T)}{j:Nat}{L:List L2.T},Ls[j]?=Z L->∃R,Ls.flatten.drop (ahd Ls j)=L++R/\ahd Ls j<=Ls.flatten.length
 |M::Ls,0,L,h=>by cases h;exact(Ls.flatten,U,JG _)
 |M::Ls,j+1,L,h=>by
  let(R,h1,h2):=vk (j:=j) h;let e:ahd (M::Ls) (j+1)=M.length+ahd Ls j:=by unfold ahd;rw[XX,xY,V5]
  refine(R,?_,?_)
  ·rw[e,WZ,<- List.drop_drop,List.drop_left,h1]
  ·rw[WZ,pL];lia
 |[],_,_,h=>by simp at h
theorem sJ{f:α->Str}:∀{xs:List α}{x:α},(xs.map f).Nodup->x∈xs->∃j,xs[j]?=Z x/\∀(i:Nat)(z:α),i<j->xs[i]?=Z z->f z≠f x
 |y::xs,x,hn,hx=>by
  rw[xY,u3]at hn;obtain rfl|hx:=kz.mp hx
  ·exact(0,U,λi _ h=>absurd h (XI _))
  ·let(j,h1,h2):=sJ hn.2 hx;refine(j+1,h1,λi z hi g=>?_)
   cases i with
   |zero=>cases g;exact λe=>hn.1 (by rw[e];exact Wj hx)
   |succ i=>exact h2 i z (by lia) g
theorem FR:∀{vs:List Vl},(∀v∈vs,v.sz<=200/\v.dp<=60)->Vl.szs vs<=200*vs.length/\Vl.dps vs<=60
 |[],_=>(m9 _,JG _)
 |v::r,h=>by
  let(h1,h2):=FR λu g=>h u (j0 _ g)
  let(h3,h4):=h v jf;rw[Vl.szs,Vl.dps,rl]
  lia
theorem ya:∀(sc:Sc),(sc.map (·.1)).zip (sc.map (·.2))=sc
 |[]=>rfl
 |p::r=>by rw[xY,xY,Xm,ya r]
theorem Prog.begin(pg:Prog ks fs){g:Nat}(hg:fs[g]?=Z fn)(hl:us.length=fn.1.2.1.length)(K:∀(i:Nat)(u:L2.T)(f:Str),us[i]?=Z u->(fn.1.2.1.map (·.2))[i]?=Z f->GdV ks f u):nc ks fs (g,0,fn.2.1,(toW fn).names us,fn.1.2.2,0):=by
 let hm:=px hg;let(l1,l2):=pg.ls hm;let(p1,p2,p3,Q):=pg.pk fn hm;let P:Env ks fn.1.2.1 ((toW fn).names us):=by
  have:=Env.zip (sc:=[]) (ys:=fn.1.2.1.map (·.1)) (ns:=[]) b6 (by rw[ej,ej]) (by rw[ej];exact hl) (by simpa using p3) K
  rw[ya,Qo]at this;unfold WF.names toW;rw[Qo];exact this
 let all:∀u∈us,u.im=O/\u.pln=O/\Dep 130 u:=λu q=>by
  let(i,hi,U):=BR q
  have:=K i us[i] ((fn.1.2.1.map (·.2))[i]'(by rw[ej];lia)) (eO hi) (eO _)
  exact(this.im,this.pv)
 refine((fn,_,[],fn.1.2.1,_,hg,U,l1,by rw[tG];rfl,(pg.sn fn hm).1,P),WF.za (cp λu h=>(all u h).1),PlV.merge b6 (λp hp=>(all p.2 (UU hp).2).2),?_)
 let h1:=WF.EC (g:=toW fn) (vs:=us);let h2:(toW fn).prs.length=fn.1.2.1.length:=by unfold toW;rw[ej]
 show((toW fn).names us).length<=4
 lia
theorem nc.stp(pg:Prog ks fs)(h:nc ks fs fr):∃A,(∀c,j8 (da fs) fr.n fr.p fr.ns c (AO A c))/\Eff ks fs fr A:=by
 let(f0,n0,p0,q,V,N0):=fr;let((fn,Lp,R,sc,m,h1,h2,h3,h4,h5,h6),aF,aD,b8):=id h;dsimp only at *;let hm:=px h1;let(l1,l2):=pg.ls hm;let bL:Lp.length<=90000:=by
  have:=congrArg V3 h4
  rw[pL,Wo]at this
  lia
 let az:∀{b:L2.T}{ns':List (Key×L2.T)}{Lb R':List L2.T}{aM:Sc}{m' n':Nat},Lst (93 - (N0+1)) b Lb->Lb++R'=(sj fn.2.1).drop n'->Snd ks (fs.map (·.1)) V m' aM b->Env ks aM ns'->T.imk ns'=O->PlV ns'->ns'.length<=q.length+4->Nxt ks fs (f0,n0,p0,q,V,N0) (f0,n',b,ns',V,N0+1):=λa1 a2 a3 a4 a5 a6 a7 =>
  (((fn,_,_,_,_,h1,h2,a1,a2,a3,a4),a5,a6,by dsimp only;lia),U,U,U)
 let put:∀{x k:Str}{v b:L2.T}{Lb:List L2.T}{m':Nat},x ∉ sc.map (·.1)->GdV ks k v->Lst (93 - (N0+1)) b Lb->Lb++R=(sj fn.2.1).drop (n0+1)->Snd ks (fs.map (·.1)) V m' (sc ++ [(x,k)]) b->Nxt ks fs (f0,n0,p0,q,V,N0) (f0,n0+1,b,cF q (.inr x) v,V,N0+1):=λa1 a2 a3 a4 a5 =>
  az a3 a4 a5 (h6.put a1 a2) (C0 aF a2.im) (aD.put a2.pv) (xZ CS (by lia))
 cases h5 with
 |@give _ x hx =>
  let(t,e,g):=h6 (x,V) hx;exact(.give t,λc=>.give e g.im,g)
 |@vq m' _ w c b hw K =>
  let(Lb,U,P):=MW (w:=w) h3 U (by obtain rfl|rfl:=hw.1 <;> decide) (by obtain rfl|rfl:=hw.1 <;> decide) U
  let e:=jD h4;let nx:=az P e K h6 aF aD (by lia)
  obtain⟨rfl|rfl,c1,c2⟩:=hw
  ·refine(.pay c (f0,n0+1,b,q,V,N0+1),λd=>?_,c1,c2,(fn,h1,px (Hn h4)),nx)
   unfold AO;dsimp only;by_cases g:c > d
   ·rw[if_pos g];exact .short K.im g
   ·rw[if_neg g];exact .pay K.im g
  ·exact(.get c (f0,n0+1,b,q,V,N0+1),λd=>.get K.im,c1,nx)
 |@name m' _ x y k b hy hx K =>
  let(Lb,U,P):=MW (w:="name") h3 U (by decide) (by decide) U
  let(t,e,g):=h6 (y,k) hy;exact(.on (f0,n0+1,b,cF q (.inr x) t,V,N0+1),λd=>.name K.im e g.im,put hx g P (jD h4) K)
 |@make m' _ x mk kd ys b hk bt hf hx K =>
  let(Lb,U,P):=MW (w:="make") h3 U (by decide) (by decide) U
  let(vs,v1,v2,v3,v4):=h6.fill hf;let f4:=(pg.gk.fl kd hk mk bt).1;let(s1,s2):=FR v4;let hsz:(Vl.mk mk.1 vs).sz<=1000/\(Vl.mk mk.1 vs).dp<=90:=by rw[Vl.sz,Vl.dp];lia
  let yl:ys.length<=1000:=by rw[hf.1];lia
  by_cases g:(Vl.mk mk.1 vs).sz > 200\/(Vl.mk mk.1 vs).dp > 60
  ·exact(.great mk.1,λd=>.great K.im yl v1 hsz g,trivial)
  ·let gv:GdV ks kd.1 (Vl.mk mk.1 vs).t:=(_,U,.mk hk bt v2 v3,by lia,by lia)
   exact(.on (f0,n0+1,b,cF q (.inr x) (Vl.mk mk.1 vs).t,V,N0+1),λd=>.make K.im yl v1 hsz g,put hx gv P (jD h4) K)
 |@call m' _ x hd ys b hh hf hx K =>
  let(Lb,U,P):=MW (w:="call") h3 U (by decide) (by decide) U
  let(vs,v1,v2,v3,v4):=h6.fill hf;let(av,bx,U):=tE.mp hh;let(g,g1,g2):=sJ (f:=λf:Fn=>f.1.1) pg.hn bx
  let(p1,_):=pg.pk av bx;let yl:ys.length<=1000:=by rw[hf.1,ej];lia
  refine(.push (g,0,av.2.1,(toW av).names (vs.map Vl.t),av.1.2.2,0) (vs.map Vl.t),λd=>.call K.im yl v1 (jO g1) U (λj g' hj aK=>?_) ?_,pg.begin g1 ?_ ?_,(av,g1,U),h,(x,_,ys,b,U,K.im),λv hv=>?_)
  ·unfold da at aK;rw[j5]at aK;let(f',b0,U):=kg.mp aK;exact(f'.1.1,U,g2 j f' hj b0)
  ·unfold toW;rw[ej];lia
  ·rw[ej,v2,ej]
  ·intro i u f e1 e2;rw[j5]at e1;let(v,hv,U):=kg.mp e1;let(q1,q2):=v4 v (px hv);exact(v,U,v3 i v f hv e2,q1,q2)
  ·exact(put hx hv P (jD h4) K).ok
 |@case _ x kd arms hx hk aP a1 a2 =>
  rw[<- xP]at h3;let(Ls,U,hA,b7):=S9 (X4 _ _) h3 bL;let(t,e,v,U,hv,s1,s2):=h6 (x,kd.1) hx;dsimp only at hv
  generalize ek:kd.1=k1 at hv
  cases hv with
  |@mk Q mk ps q1 q2 q3 q4 =>
   have:Q=kd:=Prod.ext ek.symm (by rw[<- mJ pg.gk.nd q1,<- ek,mJ pg.gk.nd hk])
   subst this;let hn:=sd hk pg.gk.mn;let(j,j1,j2):=sJ (f:=λz:Mk1=>z.1) hn q2
   let hl:Q.2.length=arms.length:=by have:=congrArg V3 aP;simpa using this.symm
   let hj:j<arms.length:=by rw[<- hl];exact(kf.mp j1).1
   let kE:∀(i:Nat)(a:Arm)(m:Mk1),arms[i]?=Z a->Q.2[i]?=Z m->a.1=m.1:=λi a m e1 e2=>by
    let h1:(arms.map (·.1))[i]?=Z a.1:=by rw[j5,e1];rfl
    rw[aP,j5,e2]at h1;exact(Option.some.inj h1).symm
   let(b1,b2):=a1 j arms[j] mk (eO hj) j1;let b3:=a2 j arms[j] mk (eO hj) j1;let b4:=kE j arms[j] mk (eO hj) j1;let f4:=(pg.gk.fl Q hk mk q2).1;rw[Vl.sz]at s1;rw[Vl.dp]at s2;let eA:(arms.map Nu)[j]?=Z (mk.1,arms[j].2.1,arms[j].2.2.1):=by rw[j5,eO hj,<- b4];rfl
   let(Lj,e1,_,_,e4):=hA.at eA;let e2:=b7 j _ Lj eA e1;let(R',r1,r2):=vk e1;let pt:=jD h4;let e5:Lj++(R'++R)=(sj fn.2.1).drop (n0+(1+ahd Ls j)):=by
    rw[<- Rl,<- r1,<- List.drop_append_of_le_length r2,pt,List.drop_drop]
    congr 1
    lia
   let RC:∀(i:Nat)(u:L2.T)(f:Str),(ps.map Vl.t)[i]?=Z u->mk.2[i]?=Z f->GdV ks f u:=λi u f h1 h2=>by
    rw[j5]at h1;let(v,hv,U):=kg.mp h1;let m1:=Vl.As (px hv);let m2:=Vl.xE (px hv);exact(v,U,q4 i v f hv h2,by lia,by lia)
   let aN:T.ims (ps.map Vl.t)=true:=Vl.ims ps;let ul:(ps.map Vl.t).length=arms[j].2.1.length:=by rw[ej,q3,b1]
   let bK:∀p∈(arms[j].2.1.map λy=>(.inr y:Key)).zip (ps.map Vl.t),p.2.im=true:=λp hp=>cn aN (UU hp).2
   let bG:∀p∈(arms[j].2.1.map λy=>(.inr y:Key)).zip (ps.map Vl.t),p.2.pln=O/\Dep 130 p.2:=λp hp=>by
    let(v,hm,hv):=tE.mp (UU hp).2;let m2:=Vl.xE hm;rw[<- hv];exact(v.pln,v.dep.mono (by lia))
   let ml:=kr (kts:=(arms[j].2.1.map λy=>(.inr y:Key)).zip (ps.map Vl.t)) (acc:=q)
   rw[NN,ej,ul,Yj]at ml;rw[Vl.Ap]at e;refine(.on (f0,n0+(1+ahd Ls j),arms[j].2.2.1,aO q ((arms[j].2.1.map λy=>(.inr y:Key)).zip (ps.map Vl.t)),V,N0+1),λd=>?_,az e2 e5 b3 (Env.zip h6 b1 ul b2 RC) (iy aF bK) (aD.merge bG) (by lia))
   rw[<- xP];refine .case e aN hA eA (λi z hi hz=>?_) ul (by lia)
   rw[j5]at hz;let(a,ha,U):=kg.mp hz;let cc:=(kf.mp ha).1;let e6:Q.2[i]?=Z (Q.2[i]'(by lia)):=eO _
   show a.1≠mk.1;rw[kE i a _ ha e6];exact j2 i _ hi e6
structure Wd where
 ks:List Kd
 fs:List Fn
open Classical in
noncomputable def Wd.act(W:Wd)(fr:Fr):Act:=if h:∃A,(∀c,j8 (da W.fs) fr.n fr.p fr.ns c (AO A c))/\Eff W.ks W.fs fr A then h.choose else .great ""
theorem Wd.xR{W:Wd}(pg:Prog W.ks W.fs)(h:nc W.ks W.fs fr):(∀c,j8 (da W.fs) fr.n fr.p fr.ns c (AO (W.act fr) c))/\Eff W.ks W.fs fr (W.act fr):=by
 let ex:=h.stp pg;unfold Wd.act;rw[dif_pos ex];exact ex.choose_spec
structure Cf where
 top:Fr
 stk:List Fr
def Blw(W:Wd):List Fr->Str->Prop
 |[],_=>True
 |w::r,k=>Wt W.ks W.fs w k/\Blw W r w.r
structure pO(W:Wd)(k:Nat)(c:Cf):Prop where
 t:nc W.ks W.fs c.top
 b:Blw W c.stk c.top.r
 n3:c.stk.length<=k
noncomputable def Wd.nx(W:Wd)(c:Cf):Cf:=match W.act c.top with
 |.pay _ fr=>(fr,c.stk)
 |.get _ fr=>(fr,c.stk)
 |.on fr=>(fr,c.stk)
 |.push fr _=>(fr,c.top::c.stk)
 |.give v=>match c.stk with
  |[]=>c
  |w::r=>(back w v,r)
 |.great _=>c
noncomputable def Wd.ed(W:Wd)(c:Cf):Option L2.T:=match W.act c.top with
 |.give v=>match c.stk with
  |[]=>Z (.t [.s "gave",v])
  |_::_=>Y
 |.great m=>Z (.t [.s "great",.s m])
 |_=>Y
noncomputable def Wd.sh(W:Wd)(c:Cf)(g:Int):Option Int:=match W.act c.top with
 |.pay k _=>if k > g then Z k else Y
 |_=>Y
noncomputable def Wd.dl(W:Wd)(c:Cf):Int:=match W.act c.top with
 |.pay k _=>-k
 |.get k _=>k
 |_=>0
theorem Wd.SV(pg:Prog W.ks W.fs)(h:pO W k c)(he:W.ed c=Y):pO W (k+1) (W.nx c):=by
 let(_,g):=W.xR pg h.t;let n3:=h.n3;let go:∀{fr:Fr},Nxt W.ks W.fs c.top fr->pO W (k+1) (fr,c.stk):=λx=>(x.ok,by rw[x.r];exact h.b,Nat.le_succ_of_le n3)
 unfold Wd.ed at he;unfold Wd.nx;cases e:W.act c.top with
 |pay k fr=>rw[e]at g;exact go g.2.2.2
 |get k fr=>rw[e]at g;exact go g.2
 |on fr=>rw[e]at g;exact go g
 |push fr vs =>
  rw[e]at g;let(P,(z,_,Q),K):=g;exact(P,(K,h.b),by rw[rl];lia)
 |give v =>
  rw[e]at g he;let q:=h.b;cases es:c.stk with
  |nil=>rw[es]at he;cases he
  |cons w r =>
   rw[es]at q n3;let(b1,b2):=q;refine(b1.b v g,b2,?_);rw[rl]at n3;dsimp only;lia
 |great m=>rw[e]at he;cases he
def frT(CF x:J)(fr:Fr):L2.T:=fT CF x (fr.f:Nat) (fr.n:Nat) fr.p fr.ns
inductive WkL(CF:J):List Fr->List L2.T->Prop
 |nil:WkL CF [] []
 |cons{fr:Fr}{stk:List Fr}{ts:List L2.T}{x:J}:WkL CF stk ts->WkL CF (fr::stk) (ts ++ [frT CF x fr])
variable{stk:List Fr}
theorem WkL.len(h:WkL CF stk ts):ts.length=stk.length:=by
 induction h with
 |nil=>rfl
 |cons _ g=>rw[pL,g];rfl
def frD(o:Obj)(vs:List (Key×V))(fr:Fr):L2.T:=frL (fr.f:Nat) (fr.n:Nat) o vs fr.ns
inductive LwL:List Fr->List L2.T->Prop
 |nil:LwL [] []
 |cons{fr:Fr}{stk:List Fr}{ts:List L2.T}{o:Obj}{vs:List (Key×V)}:T.gC fr.ns=O->LwL stk ts->LwL (fr::stk) (ts ++ [frD o vs fr])
theorem LwL.ok(h:LwL stk ts):ts.length=stk.length/\T.dz ts=O/\T.ims ts=true:=by
 induction h with
 |nil=>exact(U,U,U)
 |@cons fr _ ts o vs hp _ g =>
  refine(by rw[pL,g.1];rfl,ij λt q=>?_,cp λt q=>?_)
  ·obtain z|z:=p7.mp q
   ·exact gf g.2.1 z
   ·rw[g5.mp z];show(O&&(O&&(T.gC fr.ns&&O)))=O;rw[hp];rfl
  ·obtain z|z:=p7.mp q
   ·exact cn g.2.2 z
   ·rw[g5.mp z];rfl
def gsT(W:Wd):L2.T:=.t ((da W.fs).map WF.t)
theorem sR{w:Fr}(h:w.p=.t [.s "call",.s y,.s nm,.t (ys.map .s),b]):Oq w.p=y/\Ot w.p=b:=by rw[h];exact(U,U)
variable{CW:J}{x0:J}
theorem Wd.turn(pg:Prog W.ks W.fs){k:Nat}{c:Cf}(h:pO W k c)(hk:k<8000){x:J}{frs:List L2.T}(hw:WkL CF c.stk frs){K m:Int}{Q:L2.T->L2.T->Prop}
  (h1:∀q,W.sh c K=Z q->Q (.b ϊ) (wT CW x0 (gsT W) [] K (m+1) (.t [.s "short",.i q])))
  (h2:∀e,W.ed c=Z e->W.sh c K=Y->Q (.b ϊ) (wT CW x0 (gsT W) [] K (m+1) e))
  (h3:W.ed c=Y->W.sh c K=Y->∀dv x',WkL CF (W.nx c).stk dv->Q (.b O) (wT CW x0 (gsT W) (dv ++ [frT CF x' (W.nx c).top]) (K+W.dl c) (m+1) .n)):
  wG CW CF [wT CW x0 (gsT W) (frs ++ [frT CF x c.top]) K m .n] Q:=by
 let(st,V):=W.xR pg h.t;let hn:=h.t.ln;let n1:=h.t.n92;let n3:=h.n3;let hl:=hw.len;unfold Wd.sh Wd.ed Wd.nx Wd.dl at h3;unfold Wd.sh Wd.ed at h2;unfold Wd.sh at h1;let go:∀r,j8 (da W.fs) c.top.n c.top.p c.top.ns K r->Ri CF frs r->(∀t,OZ CW CF x0 (da W.fs) frs x (c.top.f) (c.top.n) c.top.p c.top.ns K (m+1) r t->Q (.b (CP frs r)) t)->wG CW CF [wT CW x0 (gsT W) (frs ++ [frT CF x c.top]) K m .n] Q:=λr hs hg hq =>
  .inl (x0,x,da W.fs,frs,_,_,_,_,_,_,r,U,pg.fns,h.t.im,by lia,by lia,hs,hg,hq)
 let av:∀{fr:Fr}{c':Int},fr.f=c.top.f->wT CW x0 (gsT W) (frs ++ [frT CF x fr]) c' (m+1) .n=wT CW x0 (.t ((da W.fs).map WF.t)) (frs ++ [fT CF x (c.top.f) (fr.n) fr.p fr.ns]) c' (m+1) .n:=λe=>by unfold frT gsT;rw[e]
 cases e:W.act c.top with
 |pay q fr =>
  rw[e]at st V h1 h3;let st:=st K;dsimp only[AO]at st h1 h3;by_cases g:q > K
  ·rw[if_pos g]at st h1;exact go _ st trivial λt P=>by cases P;exact h1 q U
  ·rw[if_neg g]at st h3;refine go _ st trivial λt P=>?_
   cases P
   have:=h3 U U frs x hw
   rw[av V.2.2.2.f]at this;exact this
 |get q fr =>
  rw[e]at st V h3;refine go _ (st K) trivial λt P=>?_
  cases P
  have:=h3 U U frs x hw
  rw[av V.2.f]at this;exact this
 |on fr =>
  rw[e]at st V h3;refine go _ (st K) trivial λt P=>?_
  cases P
  have:=h3 U U frs x hw
  rw[av V.f,Ww]at this;exact this
 |push fr vs =>
  rw[e]at st V h3;let(_,(aM,g1,g2),_):=V;refine go _ (st K) trivial λt P=>?_
  let(x',g,hg,U):=P;rw[jO g1]at hg;cases hg
  have:=h3 U U _ x' (.cons (x:=x) hw)
  rw[Ww]at this;rw[g2]at this;exact this
 |great q =>
  rw[e]at st h2;exact go _ (st K) trivial λt P=>by cases P;exact h2 _ U U
 |give v =>
  rw[e]at st V h2 h3;let hb:=h.b;cases es:c.stk with
  |nil =>
   rw[es]at hw h2;cases hw;refine go _ (st K) (.inl U) λt P=>?_
   obtain⟨_,rfl⟩|⟨dv,_,_,_,_,_,_,_,hB,_⟩:=P
   ·exact h2 _ U U
   ·exact absurd hB.e (by cases dv <;> simp)
  |cons w r =>
   rw[es]at hw hb h3;cases hw with
   |@cons _ _ dv x' aF =>
    let((wk,(y,nm,ys,b,ep,bi),wb),_):=hb;let(p1,p2):=sR ep;let wn:=wk.n92;let wl:=wk.ln;let aK:=by
     show(O&&(O&&(O&&(L2.T.ims (ys.map .s)&&(b.im&&O)))))=O;rw[br,bi];rfl
    let hB:Below CF (dv ++ [frT CF x' w]) dv x' (w.f) (w.n) [L2.T.s "call",.s y,.s nm,.t (ys.map .s),b] w.ns y b:=(by unfold frT;rw[ep],wk.im,by lia,aK,U,U)
    refine go _ (st K) (.inr (_,_,_,_,_,_,_,_,hB)) λt P=>?_
    let lv:CP (dv ++ [frT CF x' w]) (AO (.give v) K)=true:=by cases dv <;> rfl
    rw[lv];obtain⟨z,_⟩|⟨f2,x2,a2,b2,q2,m2,y2,c2,az,rfl⟩:=P
    ·exact absurd z (by cases dv <;> simp)
    ·let e1:=az.e;unfold frT at e1;rw[ep]at e1;let(e2,e3):=Yw e1 U;subst e2;injection e3 with e3 _
     injection e3 with e4 _ _ e5
     injection e5 with f1 e5
     injection e5 with aD e5
     injection e5 with f3 e5
     injection e5 with f4 _
     injection f1 with f1
     injection aD with aD
     injection f3 with f3
     injection f4 with f4
     subst e4 f1 aD f3 f4;let g1:=az.y;let g2:=az.b;cases g1;cases g2
     have:=h3 U U dv x' aF
     dsimp only at this;rw[Ww]at this;unfold frT back at this;rw[p1,p2]at this;exact this
variable{o:Obj}
theorem Wd.step(pg:Prog W.ks W.fs){k:Nat}{c:Cf}(h:pO W k c)(hk:k<8000){ks:L2.T}(aK:ks.im=O){p:J}{ts:List L2.T}{vs:List (Key×V)}(hw:LwL c.stk ts){P m:Int}{Q:L2.T->Prop}
  (h1:∀q,W.sh c P=Z q->Q (.dp p (stT [] P (m+1) (.t [.s "short",.i q]))))
  (h2:∀e,W.ed c=Z e->W.sh c P=Y->Q (.dp p (stT [] P (m+1) e)))
  (h3:W.ed c=Y->W.sh c P=Y->∀K o' vs',LwL (W.nx c).stk K->Q (.dp p (stT (K ++ [frD o' vs' (W.nx c).top]) (P+W.dl c) (m+1) .n))):
  wH [.t [ks,gsT W],.dp p (stT (ts ++ [frD o vs c.top]) P m .n)] Q:=by
 let(st,ef):=W.xR pg h.t;let hn:=h.t.ln;let n1:=h.t.n92;let n3:=h.n3;let(hl,hp,hi):=hw.ok;let(fn,f1,f2):=h.t.at;let hm:=px f1;let(l1,l2):=pg.ls hm;let l8:=pg.l8;unfold Wd.sh Wd.ed Wd.nx Wd.dl at h3;unfold Wd.sh Wd.ed at h2;unfold Wd.sh at h1;let go:∀r,j8 (da W.fs) c.top.n c.top.p c.top.ns P r->GvS (da W.fs) ts r->(∀t,RN p (da W.fs) ts (c.top.f:Nat) (c.top.n:Nat) o vs c.top.ns P (m+1) r t->Q t)->wH [.t [ks,gsT W],.dp p (stT (ts ++ [frD o vs c.top]) P m .n)] Q:=λr hs hg hq =>
  (p,ks,da W.fs,ts,c.top.f,c.top.n,o,vs,c.top.ns,P,m,toW fn,sj fn.2.1,c.top.p,r,U,aK,pg.fns,TN _,by unfold da;rw[ej];lia,jO f1,l1,by lia,f2,(h.t.im,h.t.pl.k,by lia),by lia,hp,hi,hs,hg,hq)
 let av:∀{fr:Fr}{c':Int}{o':Obj}{vs':List (Key×V)},fr.f=c.top.f->stT (ts ++ [frD o' vs' fr]) c' (m+1) .n=stT (ts ++ [frL (c.top.f:Nat) (fr.n:Nat) o' vs' fr.ns]) c' (m+1) .n:=λe=>by unfold frD;rw[e]
 cases e:W.act c.top with
 |pay q fr =>
  rw[e]at st ef h1 h3;let st:=st P;dsimp only[AO]at st h1 h3;by_cases g:q > P
  ·rw[if_pos g]at st h1;exact go _ st trivial λt ht=>by cases ht;exact h1 q U
  ·rw[if_neg g]at st h3;refine go _ st trivial λt ht=>?_
   let(o',vs',U):=ht
   have:=h3 U U ts o' vs' hw
   rw[av ef.2.2.2.f,<- Int.sub_eq_add_neg]at this;exact this
 |get q fr =>
  rw[e]at st ef h3;refine go _ (st P) trivial λt ht=>?_
  let(o',vs',U):=ht
  have:=h3 U U ts o' vs' hw
  rw[av ef.2.f]at this;exact this
 |on fr =>
  rw[e]at st ef h3;refine go _ (st P) trivial λt ht=>?_
  let(o',vs',U):=ht
  have:=h3 U U ts o' vs' hw
  dsimp only at this;rw[av ef.f,Ww]at this;exact this
 |push fr us =>
  rw[e]at st ef h3;let(_,(aN,g1,g2),_):=ef;refine go _ (st P) trivial λt ht=>?_
  let(o',vs',g,hg,U):=ht;rw[jO g1]at hg;cases hg
  have:=h3 U U _ o' vs' (.cons (o:=o) (vs:=vs) h.t.pl.k hw)
  dsimp only at this;rw[Ww]at this;rw[g2]at this;exact this
 |great q =>
  rw[e]at st h2;exact go _ (st P) trivial λt ht=>by cases ht;exact h2 _ U U
 |give v =>
  rw[e]at st ef h2 h3;let hb:=h.b;dsimp only at h2 h3;cases es:c.stk with
  |nil =>
   rw[es]at hw h2;cases hw;refine go _ (st P) (.inl U) λt ht=>?_
   obtain⟨_,rfl⟩|⟨K,_,_,_,_,_,_,_,_,hB,_⟩:=ht
   ·exact h2 _ U U
   ·exact absurd hB.e (by cases K <;> simp)
  |cons w r =>
   rw[es]at hw hb h3;cases hw with
   |@cons _ _ K o1 az _ aF =>
    let((wk,(y,nm,ys,b,ep,bi),wb),_):=hb;let(p1,p2):=sR ep;let wn:=wk.n92;let wl:=wk.ln;let(fw,w1,w2):=wk.at;let(k1,k2):=pg.ls (px w1);rw[ep]at w2;let hB:GvL (da W.fs) (K ++ [frD o1 az w]) K w.f w.n o1 az w.ns y:=(U,(toW fw,sj fw.2.1,_,jO w1,k1,by lia,w2,U),wk.im,wk.pl.k,by lia)
    refine go _ (st P) (.inr (_,_,_,_,_,_,_,hB)) λt ht=>?_
    obtain⟨z,_⟩|⟨t2,a2,b2,c2,d2,m2,y2,o2,vs2,aD,rfl⟩:=ht
    ·exact absurd z (by cases K <;> simp)
    ·let e1:=aD.e;let(e2,e3):=Yw e1 U;unfold frD frL at e3;injection e3 with e3 _
     injection e3 with e3
     injection e3 with f1 e3
     injection e3 with f2 e3
     injection e3 with f3 _
     injection f1 with f1
     injection f2 with f2
     injection f3 with f3 f4 f5
     let f1:=Int.ofNat.inj f1;let f2:=Int.ofNat.inj f2;subst e2 f1 f2 f3 f4 f5;let(g',L',ps',z1,z2,z3,z4,z5):=aD.g;rw[jO w1]at z1;cases z1;let aM:=k1.uniq z2;rw[<- aM,w2]at z4;cases z4;cases z5
     have:=h3 U U K o2 vs2 aF
     dsimp only at this;rw[Ww]at this;unfold frD back at this;dsimp only at this;rw[p1]at this;exact this
noncomputable def Wd.st(W:Wd)(a:Cf):Nat->Cf
 | 0=>a
 |k+1=>W.nx (W.st a k)
noncomputable def Wd.sm(W:Wd)(a:Cf):Nat->Int
 | 0=>0
 |k+1=>W.sm a k+W.dl (W.st a k)
structure Wd.Al(W:Wd)(a:Cf)(c:Int)(k:Nat):Prop where
 g:∀j<k,W.ed (W.st a j)=Y
 s:∀j<k,W.sh (W.st a j) (c+W.sm a j)=Y
theorem Wd.Al.zero{W:Wd}{a:Cf}:W.Al a c 0:=(λ_ h=>absurd h (XI _),λ_ h=>absurd h (XI _))
theorem Wd.Al.next{W:Wd}{a:Cf}(h:W.Al a c k)(h1:W.ed (W.st a k)=Y)(h2:W.sh (W.st a k) (c+W.sm a k)=Y):W.Al a c (k+1) :=
 (λj hj=>by obtain z|rfl:=Xw.mp hj;exact h.g j z;exact h1,λj hj=>by obtain z|rfl:=Xw.mp hj;exact h.s j z;exact h2)
theorem Wd.gd(pg:Prog W.ks W.fs){a:Cf}(ha:pO W 0 a):∀{k:Nat},(∀j<k,W.ed (W.st a j)=Y)->pO W k (W.st a k)
 | 0,_=>ha
 |k+1,h=>Wd.SV pg (Wd.gd pg ha λj hj=>h j (WL hj)) (h k (Wn k))
theorem Wd.VA(pg:Prog W.ks W.fs)(h:pO W k c)(he:W.ed c=Z e):∃ps,e=.t ps/\T.ims ps=O/\∀z∈ps,Dep 120 z:=by
 let(_,g):=W.xR pg h.t;unfold Wd.ed at he;cases q:W.act c.top with
 |give v =>
  rw[q]at he g;cases es:c.stk with
  |nil =>
   rw[es]at he;cases he;let(u,U,_,_,hd):=g;refine(_,U,(by show(O&&(u.t.im&&O))=O;rw[u.im];rfl),cg Dep.s (cg (u.dep.mono (by lia)) eD))
  |cons w r=>rw[es]at he;cases he
 |great m =>
  rw[q]at he;cases he;exact(_,U,U,cg Dep.s (cg Dep.s eD))
 |pay _ _=>rw[q]at he;cases he
 |get _ _=>rw[q]at he;cases he
 |on _=>rw[q]at he;cases he
 |push _ _=>rw[q]at he;cases he
structure WkS(W:Wd)(a:Cf)(c:Int)(CW CF x0:J)(k:Nat)(t:L2.T):Prop where
 ex:∃frs x,WkL CF (W.st a k).stk frs/\t=wT CW x0 (gsT W) (frs ++ [frT CF x (W.st a k).top]) (c+W.sm a k) (k:Nat) .n
structure LwS(W:Wd)(a:Cf)(c:Int)(k:Nat)(ks:List (Key×L2.T)):Prop where
 ex:∃ts o vs,LwL (W.st a k).stk ts/\ks=stT (ts ++ [frD o vs (W.st a k).top]) (c+W.sm a k) (k:Nat) .n
theorem Wd.FE(pg:Prog W.ks W.fs){a:Cf}(ha:pO W 0 a){c:Int}{k:Nat}(al:W.Al a c k)(K:k<8000){t:L2.T}(hw:WkS W a c CW CF x0 k t){Q:L2.T->L2.T->Prop}
  (h1:∀q,W.sh (W.st a k) (c+W.sm a k)=Z q->Q (.b ϊ) (wT CW x0 (gsT W) [] (c+W.sm a k) ((k+1:Nat):Int) (.t [.s "short",.i q])))
  (h2:∀e,W.ed (W.st a k)=Z e->W.sh (W.st a k) (c+W.sm a k)=Y->Q (.b ϊ) (wT CW x0 (gsT W) [] (c+W.sm a k) ((k+1:Nat):Int) e))
  (h3:W.Al a c (k+1)->∀t',WkS W a c CW CF x0 (k+1) t'->Q (.b O) t'):wG CW CF [t] Q:=by
 let⟨(frs,x,hl,U)⟩:=hw;refine Wd.turn pg (Wd.gd pg ha al.g) K hl h1 h2 λV P dv x' z=>(h3 (al.next V P) _ (dv,x',z,?_))
 rw[Wd.sm,<- Int.add_assoc];rfl
theorem Wd.stepK(pg:Prog W.ks W.fs){a:Cf}(ha:pO W 0 a){c:Int}{k:Nat}(al:W.Al a c k)(hk:k<8000){kt:L2.T}(V:kt.im=O){p:J}{ds:List (Key×L2.T)}(hw:LwS W a c k ds){Q:L2.T->Prop}
  (h1:∀q,W.sh (W.st a k) (c+W.sm a k)=Z q->Q (.dp p (stT [] (c+W.sm a k) ((k+1:Nat):Int) (.t [.s "short",.i q]))))
  (h2:∀e,W.ed (W.st a k)=Z e->W.sh (W.st a k) (c+W.sm a k)=Y->Q (.dp p (stT [] (c+W.sm a k) ((k+1:Nat):Int) e)))
  (h3:W.Al a c (k+1)->∀z,LwS W a c (k+1) z->Q (.dp p z)):wH [.t [kt,gsT W],.dp p ds] Q:=by
 let⟨(ts,o,vs,hl,U)⟩:=hw;refine Wd.step pg (Wd.gd pg ha al.g) hk V hl h1 h2 λe1 e2 K o' vs' P=>(h3 (al.next e1 e2) _ (K,o',vs',P,?_))
 rw[Wd.sm,<- Int.add_assoc];rfl
def Wd.t(W:Wd):L2.T:=.t [tKs W.ks,gsT W]
theorem Wd.im{W:Wd}(pg:Prog W.ks W.fs):W.t.im=true:=by
 show((tKs W.ks).im&&(L2.T.ims ((da W.fs).map WF.t)&&O))=O;rw[nY,pg.fns];rfl
def Wd.a0(_:Wd)(f:Nat)(fn:Fn)(vs:List L2.T):Cf:=((f,0,fn.2.1,(toW fn).names vs,fn.1.2.2,0),[])
structure Wd.Args(W:Wd)(f:Nat)(fn:Fn)(vs:List L2.T):Prop where
 g:W.fs[f]?=Z fn
 l:vs.length=fn.1.2.1.length
 s:∀(i:Nat)(u:L2.T)(k:Str),vs[i]?=Z u->(fn.1.2.1.map (·.2))[i]?=Z k->GdV W.ks k u
theorem Wd.Args.ok(pg:Prog W.ks W.fs)(h:W.Args f fn vs):pO W 0 (W.a0 f fn vs):=(pg.begin h.g h.l h.s,trivial,m9 _)
theorem Wd.Args.all{W:Wd}(h:W.Args f fn vs):T.ims vs=O/\T.dz vs=true:=by
 let all:∀u∈vs,u.im=O/\u.pln=true:=λu g=>by
  let(i,hi,U):=BR g
  have:=h.s i vs[i] ((fn.1.2.1.map (·.2))[i]'(by rw[ej,<- h.l];exact hi)) (eO hi) (eO _)
  exact(this.im,this.pln)
 exact(cp λu h=>(all u h).1,ij λu h=>(all u h).2)
theorem Wd.Args.pl{W:Wd}(pg:Prog W.ks W.fs)(h:W.Args f fn vs):(toW fn).prs.length<=100:=by
 let(p1,_):=pg.pk fn (px h.g);unfold toW;rw[ej]
 lia
theorem Wd.wk0{x:J}:WkS W (W.a0 f fn vs) c CW CF x0 0 (wT CW x0 (.t ((da W.fs).map WF.t)) [fT CF x (f:Nat) 0 (toW fn).b ((toW fn).names vs)] c 0 .n):=([],x,.nil,by rw[Wd.sm,Ww];rfl)
theorem Wd.lw0{ws:List (Key×V)}:LwS W (W.a0 f fn vs) c 0 (stT [frL (f:Nat) 0 o ws ((toW fn).names vs)] c 0 .n):=([],o,ws,.nil,by rw[Wd.sm,Ww];rfl)
theorem Nt{xs:List Int}{i:Int}(h0:0<=i)(h1:i<xs.length):∃x,atI (xs.map L2.T.i) i=Z (.i x)/\x∈xs:=by
 let(v,e,hm):=BJ (xs:=xs.map L2.T.i) h0 (by simpa using h1)
 let(x,hx,U):=tE.mp hm;exact(x,e,hx)
variable{N:Nat}{fm:Int}
section
variable{P:Da}{w:Cl}{K:BT}{mg:Str->Option B}{base:Do}{a:Adr}
theorem fR(T:Txt K mg a):bb P w K mg base CX0 1 a.xy a.Jk [Zf,Zq] FV:=by
 refine T.aZ.F.ok pU (λvs H Q E h=>?_) (λcdv A outer s H vs Q E hr h=>?_)
 ·let(d,l,m,U,_):=h;rfl
 ·let(d,l,m,U,(s0,n0,aD,D0),m0,m1,k):=h;let q:=cC hr;refine(_,((bY (yN PassesOwn.never (PW.pt (Ha (mx Od (iT q (pv 0) dq (λ_ _=>rfl)) bA (bz _)) (Cu (mx CH (rW mX (by rfl) T.cD PySem.boot_len (bN (iT q (pv 0) dq (λ_ _=>rfl)) eh)) bA (bz _)))))
 (gH (iS q (pv 0) dq (wU PySem.F.plainAttrs_list PySem.F.slot_list_pop PySem.F.type_list_pop Bm (iT q (pv 0) dq (λ_ _=>rfl))) U)))
 (bY (gZ (i:=2) pU.nd U (Or.inl U) (iT q (pv 0) dq (λ_ _=>rfl)))
 (bY (He (mx CH (pv 2) bA (bz _))
 (bY (iS q (pv 0) dq (cL yY (pv 2) (pv 1)) U)
 (gH (k7 (cL iU (pv 2) (pv 1)))))
 wC)
 (bY (gZ (i:=3) pU.nd U (Or.inl U) (cL iU (cL nQ (cL lj (iT q (pv 0) dq (λ_ _=>rfl)) bA) bA) bA))
 (bY (iS q (pv 0) dq (cL iU (cL nQ (cL lj (pv 3) bA) bA) bA) U)
 (bY (gZ (i:=4) pU.nd U (Or.inl U) (cL iU (cL lj (iT q (pv 0) dq (λ_ _=>rfl)) (iT q (pv 0) dq (λ_ _=>rfl))) bA))
 (gH (k7 (cL iU (cL nQ (cL lj (cL iU (cL lj (pv 3) (pv 3)) bA) bA) (pv 4)) (pv 1))))))))))),?_)
  refine DR (λc σ H1=>∃s n ls,σ=[Z (.ref d),Z (.int m),Y,Y,Y]/\cV H1 d l s n ls/\Kp d l H H1/\c=ls.length) (s0,n0,aD,U,D0,Kp.refl,U) ?_ ?_
  ·rintro c σ H1 ⟨s1,n1,ls,rfl,D,K1,rfl⟩
   refine(_,U,d,_,U,D.TQ,?_);refine(_,U,_,_,U,U,_,U,?_);refine bH (λh1=>?_) (λh1=>?_)
   ·let h1:0<n1:=of_decide_eq_true h1;let q0:0<=n1 / m:=Int.ediv_nonneg (by lia) (by lia)
    refine(_,U,_,U,_,_,U,U,(m0,m1),_,U,d,_,U,D.SJ,?_);refine(_,U,_,U,_,_,U,U,m0,?_);exact k _ _ (mod_lt m0).1 (mod_lt m0).2 (_,_,_,D.num q0) K1.OC
   ·refine(_,U,d,_,U,D.IP,_,_,U,U,.inr (by decide,by decide),_,_,U,U,_,_,U,U,(by show(0:Int)<2147483647;decide),?_)
    let b2:=mod_lt (x:=(s1*48271+7919) % 2147483647*40692+104729) (m:=2147483399) (by decide)
    refine(_,U,_,_,U,U,.inr (by decide,by decide),_,_,U,U,_,_,U,U,(by show(0:Int)<2147483399;decide),_,U,d,_,U,D.SH,?_)
    let z:=D.Uv (m:=((s1*48271+7919) % 2147483647*40692+104729) % 2147483399) b2.1 (by lia)
    refine(_,U,d,_,U,z.IP,_,U,d,_,U,z.IP,_,_,U,U,.inl (by lia,by lia),_,_,U,U,(by show(0:Int)<2147483563;decide),?_)
    refine(_,U,_,U,_,_,U,U,.inl (by lia,by lia),_,_,U,U,(by show(0:Int)<2147483629;decide),_,_,U,U,.inr (by decide,by decide),_,U,_,_,U,U,_,U,_,_,U,U,m0,?_)
    exact k _ _ (mod_lt m0).1 (mod_lt m0).2 (_,_,_,z) K1.OC
  ·rintro c σ H1 ⟨s1,n1,ls,rfl,D,K1,rfl⟩ hx
   refine(_,U,d,_,U,D.TQ,U,_,U,?_);refine bH (λh1=>?_) (λh1=>hx)
   refine(_,U,d,_,U,D.Om,l,_,U,.inl (SqL.of D.hl),_,_,U,U,_,U,?_);refine bH (λh2=>?_) (λh2=>hx)
   obtain rfl |⟨ls',x,rfl⟩:=XO ls
   ·simp at h2
   ·let az:H1 l=Z (.lst (ls'.map V.int ++ [.int x])):=by simpa using D.hl
    refine(λav H'=>∃s n g,av=[Z (.ref d),Z (.int m),Y,Y,Y]/\cV H' d l s n g/\Kp d l H H'/\g.length<(ls' ++ [x]).length,λav H' (s2,n2,g,e,z,K2,h)=>(g.length,by simpa using h,s2,n2,g,e,z,K2,U),?_)
    let x0:0<=x:=D.l0 x (by simp)
    let z:=D.list (ls':=ls') λy hy=>D.l0 y (by simp[hy])
    refine(_,U,d,_,U,D.Om,.inl (U,_,SqL.of az),l,_,.int x,U,U,az,(by simp),?_)
    rw[Xa];refine(_,U,d,_,U,z.SJ,?_);exact(_,_,ls',U,z.num x0,(K1.Ur).OC,by simp)
theorem Mw(T:Txt K mg a):bb P w K mg base CX0 1 a.xA a.Jl [Zu,ZN] (OR K):=by
 refine T.x9.F.ok l6 (λvs H Q E h=>?_) (λcdv A outer s H vs Q E hr h=>?_)
 ·let(a,ns,b,U,_):=h;rfl
 ·let(p0,ns,b,U,hS,hlen,b0,b1,k):=h;let hu:=cC hr;refine(_,((bY (Cz (i:=2) l6.nd U (Or.inl U) U (mD (yS Ca (pv 0) (wI (pv 1)) (wI bA))) (N':=[ZI]) (.own U .nil) (λ_ _ _ _ _=>((mE (i:=0) (show([ZI]:List Str).Nodup from by decide +kernel) U (Or.inl U)),Cy,(rW (iC U) (by rfl) T.vB (by kernel_rfl) (bN (pv 0) (bN (cL Bg bA (pv 0)) eh))))))
 (bY (gZ (i:=3) l6.nd U (Or.inl U) (cL nQ bA (pv 1)))
 (bY (A4 PassesOwn.never U (mD (pv 2)) (mE (i:=4) l6.nd U (Or.inl U))
 (gH (gZ (i:=3) l6.nd U (Or.inl U) (cL iU (cL nQ (cL lj (pv 3) bA) (cL iU (pv 4) bA)) bA))))
 (gH (k7 (CC (my dq (pv 3) (my dq bA (my dq (rV U U T.lH U T.lF (CD U (mD (pv 2)) (N':=[ZI]) (.own U .nil) (λ_ _ _ _ _=>((mE (i:=0) (show([ZI]:List Str).Nodup from by decide +kernel) U (Or.inl U)),(Cw (mx SS (pv 0) (cL HJ bA bA) (bz _))),(pv 0))))) CA))) U U (by intro z;cases z) (by decide)))))))),?_)
  let(cs,aN,lcs):=Jp ns (Z b) (Z 63);refine(_,U,_,U,_,U,_,U,p0,_,U,hS,λp hp=>(p,U,(_,SqL.of aw),?_))
  rw[aN];let s1:lL H (upd H p (.lst (cs.map V.int))):=(lL.refl H).new hp;refine vo (K:=K) (a:=p) (xs:=cs.map V.int) (λi ys g H'=>∃zs:List Int,ys=zs.map V.int/\(∀z∈zs,0<=z)/\zs.length=i/\(∃o,g=[o])/\H'=upd H p (.lst (cs.map V.int))) ([],U,by simp,U,(_,U),U) ?_ ?_ ?_
  ·rintro i ys g H' hi ⟨zs,rfl,_,hz,_,rfl⟩
   refine(SqL.of aw,?_);rw[ej]at hi ⊢;exact aG (by lia)
  ·rintro i x ys g H' hi ⟨zs,rfl,z0,hz,⟨o,rfl⟩,rfl⟩
   let(c,U):=int_at hi;refine Na ?_;refine(_,U,_,U,_,_,U,U,_,_,U,?_);refine(zs ++ [if 0 - c > c then 0 - c else c],by simp,?_,by simp[hz],(_,U),U)
   intro z av;obtain h|h:=p7.mp av
   ·exact z0 z h
   ·rw[g5.mp h]
    split <;> lia
  ·rintro ys g H' ⟨zs,rfl,z0,hz,_,rfl⟩ D hD
   let s2:lL H (upd (upd H p (.lst (cs.map V.int))) D (.lst (zs.map V.int))):=s1.new hD;let az:(upd (upd H p (.lst (cs.map V.int))) D (.lst (zs.map V.int))) D=Z (.lst (zs.map V.int)):=aw
   generalize upd (upd H p (.lst (cs.map V.int))) D (.lst (zs.map V.int))=H2 at s2 az ⊢
   refine(_,U,_,_,U,U,?_);refine(_,U,D,U,(_,SqL.of az),IW (K:=K) (a:=D) (xs:=zs.map V.int) (λi g H'=>∃(n:Int)(o:Option V),g=[Z (.ref p0),Z (.int b),Z (.ref D),Z (.int n),o]/\0<=n/\n<2147483647/\H2=H')
    (_,_,U,by lia,by lia,U) (λi g H' _ (_,_,_,_,_,e)=>by rw[<- e];exact SqL.of az) ?_ ?_)
   ·rintro i y g H' hi ⟨n,o,rfl,n0,n1,rfl⟩
    let(z,U):=int_at hi;refine(_,U,_,_,U,U,.inr (by decide,by decide),_,U,_,_,U,U,(by show(0:Int)<2147483629;decide),_,_,U,U,_,_,U,U,(by show(0:Int)<2147483647;decide),?_)
    exact(_,_,U,(mod_lt (by decide)).1,(mod_lt (by decide)).2,U)
   ·rintro g H' ⟨n,o,rfl,n0,aM,rfl⟩
    intro pd aD;let QD:(upd H2 pd (.dK [])) D=Z (.lst (zs.map V.int)):=by rw[aj (bh az aD)];exact az
    let s3:lL H (upd H2 pd (.dK [])):=s2.new aD;let Qv:(upd H2 pd (.dK [])) pd=Z (.dK []):=aw;let aK:H pd=none:=s2.free aD
    generalize upd H2 pd (.dK [])=H3 at QD s3 Qv ⊢
    refine(_,U,_,U,D,U,(_,SqL.of QD),vo (K:=K) (a:=D) (xs:=zs.map V.int) (λi ys g H'=>∃ws:List Int,ys=ws.map V.int/\(∀z∈ws,0<=z)/\ws.length<=i/\(∃o,g=[o])/\H3=H') ([],U,by simp,m9 _,(_,U),U) ?_ ?_ ?_)
    ·rintro i ys g H' hi ⟨ws,rfl,_,av,_,rfl⟩
     refine(SqL.of QD,?_);rw[ej]at hi ⊢;rw[ej]at hz;exact aG (by lia)
    ·rintro i x ys g H' hi ⟨ws,rfl,w0,av,⟨o,rfl⟩,rfl⟩
     let(c,U,hc):=M0 hi;refine(_,U,_,_,U,U,(by decide,by decide,by decide),_,_,U,U,_,U,?_)
     refine bH (λh1=>?_) (λh1=>?_)
     ·refine(_,U,ws ++ [c],by simp,?_,by simp;lia,(_,U),U)
      intro z av;obtain h|h:=p7.mp av
      ·exact w0 z h
      ·rw[g5.mp h];exact z0 c hc
     ·exact(ws,U,w0,by lia,(_,U),U)
    ·rintro ys g H' ⟨ws,rfl,w0,av,_,rfl⟩ D2 aF
     refine(D2,_,U,SqL.of aw,λq hq=>?_)
     let n1:pd≠D2:=bh Qv aF;let e1:(upd H3 D2 (.lst (ws.map V.int))) pd=Z (.dK []):=by rw[aj n1];exact Qv
     let n2:pd≠q:=bh e1 hq;let s4:lL H (upd (upd H3 D2 (.lst (ws.map V.int))) q (.lst ((ws.map V.int).reverse))):=(s3.new aF).new hq;refine(by rw[aj n2];exact e1,[(.inr "seed",.int n),(.inr "number",.int 0),(.inr "left",.ref q)],U,(by show 3<=15;decide),?_)
     refine k pd q _ aK ((s3.new aF).free hq) (n,0,ws.reverse,aw,?_,n0,aM,NL _,?_) ?_
     ·rw[aj n2.symm,aw,List.map_reverse]
     ·intro x hx;exact w0 x (by simpa using hx)
     ·intro c o hc
      have:c≠pd:=bh hc aK
      rw[aj this];exact s4 c o hc
theorem HR(T:Txt K mg a):bb P w K mg base CX0 2 a.qf a.Dc [Zf,Zq] (spQ K LC):=by
 let aM:=i7 (@fR P w K mg base a T);refine T.DJ.F.okQ ck (λts Q h=>?_) (λ_ _ _ _ _ _ hr=>?_)
 ·let(m,U,_):=h;rfl
 ·let hu:=cC hr;refine(_,_,((ag (aC 2 ck.nd aA)
 (ag (aC 3 ck.nd (Ll (Za aA) (Za (bM U (nL U T.fS (ae (Za (a8 aM hr T.aZ (ae (qv 0) (ae ah au)))) au)) (N':=["_law_k","_law_letters",Zf]) (.own U (.got (i:=2) U U (.inl U) (.got (i:=0) U U (.inl U) .nil))) (bQ (g:=(Tg.nm 0)) (λ_ _ _ _ _=>((dO 0),(Zb (ar (qv 1) (Za (a8 aM hr T.aZ (ae (qv 2) (ae ah au)))))))))))))
 (ag (aC 4 ck.nd (a8 aM hr T.aZ (ae (qv 0) (ae (Za (aV (Za (bP T.cD (ae (qv 3) au))) ah)) au))))
 (ag (aC 5 ck.nd (a8 aM hr T.aZ (ae (qv 0) (ae ah au))))
 (ag (aC 6 ck.nd (aH ak))
 (ag (cw (g:=(Tg.nm 7)) PassesOwn.never U (fY U T.fS (ae (qv 1) au)) (bu 7 ck.nd)
 (ag (aC 8 ck.nd (Zb (ar (qv 2) (Za (GQ (Za (aV (qv 5) (Za (rE ah (qv 7))))) ah)))))
 (ag (aC 9 ck.nd (aV (Za (aV (Za (aV (Za (aV (Za (gc (qv 3) iQ (iP (qv 4)))) (qv 8))) (Za (gc (qv 3) (iP (qv 4)) iQ)))) (Za (rE (Za aA) (Za (GQ (qv 7) ah)))))) (Za (rE (Za aA) (Za (Ln (qv 7) ah))))))
 (ag (bc (cj (HM U) Ax U (qv 9) (Za (ax (mw (by rfl)))))
 (ai (aC 9 ck.nd (aV (qv 9) (Za aA))))
 aT)
 (ag (bc (cj (HM U) Ax U (qv 9) (Za (ax (mw (by rfl)))))
 (ai (aC 9 ck.nd (aV (qv 9) (Za aA))))
 aT)
 (ai (bV (i:=6) (pv 6) (Zb (qv 9)))))))))
 (ag (aC 10 ck.nd (aH (mw (by rfl))))
 (ag (aC 10 ck.nd (aV (qv 10) (Za (aH (mw (by rfl))))))
 (ag (aC 9 ck.nd (Zb (ar (qv 10) (Za (a8 aM hr T.aZ (ae (qv 0) (ae ah au)))))))
 (ag (bc (QPW.pt (rB (cf hu (Za (a8 aM hr T.aZ (ae (qv 0) (ae ah au)))) ah) (mj (cj (Ep U) Ax U (qv 9) (qv 6)))))
 (ai (KW (i:=6) (pv 6) (Za (a8 aM hr T.aZ (ae (qv 0) (ae (qv 1) au)))) (qv 9)))
 aT)
 (ai (kn (i:=6) (pv 6)))))))))))))),λts Q h=>?_)
  let(m,U,m0,m1,hq):=h;refine(by decide,by decide,λn n0 n1=>(by lia,by lia,aG (by rw[d6];lia),λi ys=>∃cs:List Nat,ys=cs.map (λc=>.s ⟨#[c]⟩)/\cs.length=i,([],U,U),?_,?_))
  ·rintro i x ys hx ⟨cs,rfl,hc⟩
   let(U,hi):=iM hx;refine(_,U,by decide,by decide,λr r0 r1=>(by decide +kernel,_,CQ r0 r1,U,?_))
   exact(cs ++ [so r.toNat],by simp,by simp[hc])
  ·rintro ys ⟨cs,rfl,hc⟩
   rw[d6]at hc;let e2:((cs.map (λc=>(⟨#[c]⟩:Str))).map (·.length)).sum=cs.length:=by
    clear hc
    induction cs with
    |nil=>rfl
    |cons c cs ih=>simp only[xY,V5,rl,ih,show(⟨#[c]⟩:Str).length=1 from rfl];lia
   refine(cs.map (λc=>(⟨#[c]⟩:Str)),?_,?_,?_)
   ·rw[<- J8,Qo];rfl
   ·rw[e2,show(Str.ofString "").length=0 from by decide +kernel];lia
   let z:=PySem.size_glued (Str.ofString "") (cs.map (λc=>(⟨#[c]⟩:Str)))
   rw[e2,show(Str.ofString "").length=0 from by decide +kernel]at z
   let lz:(Txt.join (Str.ofString "") (cs.map (λc=>(⟨#[c]⟩:Str)))).length<=5:=by
    show(Builtin.Str.glued _ _).length<=5
    lia
   generalize Txt.join (Str.ofString "") (cs.map (λc=>(⟨#[c]⟩:Str)))=core at lz ⊢
   refine(bR (by lia),by lia,by lia,λat_ a0 a1=>(by decide,by decide,λtn t0 t1=>?_))
   let aD:(Txt.slice core Y (Z at_)).length<=5:=xZ (Txt.slice_le _ _ _) lz;let az:(Txt.slice core (Z at_) Y).length<=5:=xZ (Txt.slice_le _ _ _) lz;let lx:(Str.ofString "x").length=1:=by decide +kernel
   let ly:(Str.ofString "y").length=1:=by decide +kernel
   let lq:(Str.ofString "q").length=1:=by decide +kernel
   refine(by lia,by lia,λi q=>(Q4 λo7 o8 o9 L=>q=[.r .df,.r (.i m),.o (.s xk),.o (.s core),.o (.i at_),.o (.i tn),.o (.l L),o7,o8,o9,.no]/\L=((IK i).map (wordOf kept (Txt.slice core Y (Z at_)) (Txt.slice core (Z at_) Y) tn.toNat)).map .s),(_,_,_,_,U,U),?_,?_)
   ·rintro i x q hx ⟨o7,o8,o9,L,rfl,rfl⟩
    let(U,hi):=iM hx;let hi:i<52:=by lia
    let e1:∀c:Nat,(⟨#[c]⟩:Str).length=1:=λ_=>rfl
    let eL:so (((tn+7*(0+(i:Int))) % 26).toNat)=so (tn.toNat+7*i):=by
     let ht:tn+7*(0+(i:Int))=((tn.toNat+7*i:Nat):Int):=by rw[WO,Int.natCast_add,XH,Wa t0];rfl
     rw[ht];show 97+(tn.toNat+7*i) % 26 % 26=97+(tn.toNat+7*i) % 26;rw[Nat.mod_mod]
    let r1:=ip "x" ((0+(i:Int)) % 2).toNat;let r2:=ip "y" ((0+(i:Int)) / 26).toNat
    replace r1:(jn "x" ((0+(i:Int)) % 2).toNat).length<=1:=by rw[r1,lx,WO];exact(show i % 2*1<=1 from by rw[Nat.mul_one];exact W0 (X6 i (by decide)))
    replace r2:(jn "y" ((0+(i:Int)) / 26).toNat).length<=1:=by rw[r2,ly,WO];exact(show i / 26*1<=1 from by rw[Nat.mul_one];exact W0 (Nat.div_lt_of_lt_mul hi))
    refine(_,U,.inl (by lia,by lia),(by show(0:Int)<26;decide),(by decide +kernel),_,CQ (mod_lt (by decide)).1 (mod_lt (by decide)).2,U,?_)
    refine(bR (by lia),bR (by rw[e1];lia),bR (by lia),bR (by rw[Str.length_append,e1];lia),(by show(0:Int)<2;decide),by lia,by lia,by lia,bR (by rw[Str.length_append,Str.length_append,e1];lia),(by decide,by decide),by lia,by lia,by lia,bR (by rw[Str.length_append,Str.length_append,Str.length_append,e1];lia),?_)
    let eW:Txt.slice core Y (Z at_)++⟨#[so (((tn+7*(0+(i:Int))) % 26).toNat)]⟩++Txt.slice core (Z at_) Y++jn "x" ((0+(i:Int)) % 2).toNat++jn "y" ((0+(i:Int)) / 26).toNat=di (Txt.slice core Y (Z at_)) (Txt.slice core (Z at_) Y) tn.toNat i:=by
     unfold di;rw[eL,show((0+(i:Int)) % 2).toNat=i % 2 from by rw[WO];rfl,show((0+(i:Int)) / 26).toNat=i / 26 from by rw[WO];rfl]
    let lW:=vA (Txt.slice core Y (Z at_)) (Txt.slice core (Z at_) Y) tn.toNat i;rw[eW];let snoc:∀z:Str,z=wordOf kept (Txt.slice core Y (Z at_)) (Txt.slice core (Z at_) Y) tn.toNat i ->
      ((IK i).map (wordOf kept (Txt.slice core Y (Z at_)) (Txt.slice core (Z at_) Y) tn.toNat)).map L2.T.s ++ [L2.T.s z]=((IK (i+1)).map (wordOf kept (Txt.slice core Y (Z at_)) (Txt.slice core (Z at_) Y) tn.toNat)).map L2.T.s:=λz hz=>by
     subst hz;rw[List.range_succ];simp
    let ln:(((IK i).map (wordOf kept (Txt.slice core Y (Z at_)) (Txt.slice core (Z at_) Y) tn.toNat)).map L2.T.s).length<mu:=aG (by simp;lia)
    refine(by rfl,bH (λg1=>?_) (λg1=>?_))
    ·let g1:inV (.str (di (Txt.slice core Y (Z at_)) (Txt.slice core (Z at_) Y) tn.toNat i)) (zt.map V.str)=true:=by rw[<- iw];exact g1
     refine(bR (by rw[lq];lia),by rfl,bH (λg2=>?_) (λ_=>?_))
     ·let g2:inT (.s (di (Txt.slice core Y (Z at_)) (Txt.slice core (Z at_) Y) tn.toNat i++("q":Str))) (kQ.map L2.T.s)=true:=g2;rw[iw,PY]at g2;cases g2
     exact(ln,U,_,_,_,_,U,snoc (di (Txt.slice core Y (Z at_)) (Txt.slice core (Z at_) Y) tn.toNat i++("q":Str)) (by unfold wordOf;rw[lu,g1,Bool.true_or,if_pos rfl]))
    ·let g1:inV (.str (di (Txt.slice core Y (Z at_)) (Txt.slice core (Z at_) Y) tn.toNat i)) (zt.map V.str)=false:=by
      cases e:inV (.str (di (Txt.slice core Y (Z at_)) (Txt.slice core (Z at_) Y) tn.toNat i)) (zt.map V.str)with
      |false=>rfl
      |true=>rw[<- iw]at e;exact absurd e g1
     refine(by rfl,bH (λg2=>?_) (λg2=>?_))
     ·let g2:inV (.str (di (Txt.slice core Y (Z at_)) (Txt.slice core (Z at_) Y) tn.toNat i)) (kQ.map V.str)=true:=by rw[<- iw];exact g2
      exact(bR (by rw[lq];lia),ln,U,_,_,_,_,U,snoc (di (Txt.slice core Y (Z at_)) (Txt.slice core (Z at_) Y) tn.toNat i++("q":Str)) (by unfold wordOf;rw[lu,g1,g2,X0,if_pos rfl]))
     ·let g2:inV (.str (di (Txt.slice core Y (Z at_)) (Txt.slice core (Z at_) Y) tn.toNat i)) (kQ.map V.str)=false:=by
       cases e:inV (.str (di (Txt.slice core Y (Z at_)) (Txt.slice core (Z at_) Y) tn.toNat i)) (kQ.map V.str)with
       |false=>rfl
       |true=>rw[<- iw]at e;exact absurd e g2
      exact(ln,U,_,_,_,_,U,snoc (di (Txt.slice core Y (Z at_)) (Txt.slice core (Z at_) Y) tn.toNat i) (by unfold wordOf;rw[lu,g1,g2,X0,if_neg (by decide),Str.append_empty]))
   ·rintro q ⟨o7,o8,o9,L,rfl,rfl⟩
    rw[d6];let nd:((IK m.toNat).map (wordOf kept (Txt.slice core Y (Z at_)) (Txt.slice core (Z at_) Y) tn.toNat)).Nodup:=nodup_range λi j hi hj aK=>DQ (by lia) (by lia) aK
    let wl:∀w∈(IK m.toNat).map (wordOf kept (Txt.slice core Y (Z at_)) (Txt.slice core (Z at_) Y) tn.toNat),1<=w.length/\w.length<=20:=λw hw=>by
     let(i,hi,U):=tE.mp hw;exact Ag aD az (by have:=Wx.mp hi;lia)
    let ll:((IK m.toNat).map (wordOf kept (Txt.slice core Y (Z at_)) (Txt.slice core (Z at_) Y) tn.toNat)).length=m.toNat:=by simp
    generalize(IK m.toNat).map (wordOf kept (Txt.slice core Y (Z at_)) (Txt.slice core (Z at_) Y) tn.toNat)=ws at nd wl ll
    refine(bR (by decide),by rfl,by rfl,by decide,by decide,λr r0 r1=>?_)
    let(wd,ew,hm):=Nr (ws:=near) r0 r1;refine(_,ew,U,by decide,by decide,λr3 _ _=>(U,?_))
    let done:Q (.l (ws.map .s)):=hq ws (by lia) nd wl
    refine bH (λ_=>?_) (λ_=>U6 done)
    refine(by rw[zB];rfl,bH (λh2=>?_) (λ_=>done))
    let aF:wd ∉ ws:=M1 (by rw[<- iw];simpa using h2)
    refine(m0,by lia,λr4 av aN=>(r4.toNat,?_,br ws,U,?_))
    ·unfold ixN;rw[if_pos av,if_pos (by rw[ej];lia)]
    ·let z:=hq (ws.set r4.toNat wd) (by rw[NP];lia) (EA nd aF) λw hw=>by
      obtain z|z:=Xp hw
      ·exact wl w z
      ·rw[z];exact Ib wd hm
     rw[List.map_set]at z;exact z
theorem HW(T:Txt K mg a):bb P w K mg base CX0 2 a.qm a.Dg [Zf,Zt] (spQ K LH):=by
 let aM:=i7 (@fR P w K mg base a T);refine T.DL.F.okQ cy (λts Q h=>?_) (λ_ _ _ _ _ _ hr=>?_)
 ·let(ws,U,_):=h;rfl
 ·let hu:=cC hr;refine(_,_,((ag (aC 2 cy.nd (a8 aM hr T.aZ (ae (qv 0) (ae ah au))))
 (ag (O7 (i:=3) (j:=4) U cy.nd U U (by decide) U U (ar (qv 1) ah) (ar (qv 1) ah) U)
 (ag (aC 5 cy.nd (aV (Za (gc (qv 1) (iP ah) iQ)) (Za (gc (qv 1) iQ (iP ah)))))
 (ag (bc (cf hu (qv 2) ah)
 (ai (aQ (ax (af (ax (af (Zb (qv 3)) (af (ax (af (ax (af (Zb (ar (qv 5) ah)) (af (ax ak) ak))) (af (ax (af (Zb (ar (qv 5) ah)) (af (ax (af (Zb (qv 3)) ak)) ak))) ak))) ak))) ak))))
 aT)
 (ag (bc (cf hu (qv 2) ah)
 (ai (aQ (ax (af (ax (af (Zb (qv 3)) (af (ax (af (ax (af (Zb (ar (qv 5) ah)) (af (ax ak) ak))) (af (ax (af (Zb (ar (qv 5) ah)) (af (ax (af (Zb (qv 3)) ak)) ak))) (af (ax (af (Zb (ar (qv 5) ah)) (af (ax (af (Zb (qv 3)) ak)) ak))) ak)))) ak))) ak))))
 aT)
 (ag (bc (cf hu (qv 2) ah)
 (ai (aQ (ax (af (ax (af (Zb (qv 3)) (af (ax (af (ax (af (Zb (ar (qv 5) ah)) (af (ax ak) ak))) (af (ax (af (Zb (ar (qv 5) ah)) (af (ax ak) ak))) ak))) ak))) (af (ax (af (Zb (qv 4)) (af (ax (af (ax (af (Zb (ar (qv 5) ah)) (af (ax ak) ak))) (af (ax (af (Zb (ar (qv 5) ah)) (af (ax (af (Zb (qv 3)) (af (Zb (qv 4)) ak))) ak))) ak))) ak))) ak)))))
 aT)
 (ag (bc (cf hu (qv 2) ah)
 (ai (aQ (ax (af (ax (af (Zb (qv 3)) (af (ax (af (ax (af (Zb (ar (qv 5) ah)) (af (ax ak) ak))) (af (ax (af (Zb (ar (qv 5) ah)) (af (ax (af (Zb (qv 3)) (af (Zb (qv 3)) ak))) ak))) ak))) ak))) ak))))
 aT)
 (ag (bc (cf hu (qv 2) ah)
 (ai (aQ (ax (af (ax (af (Zb (qv 3)) (af (ax (af (ax (af (Zb (ar (qv 5) ah)) (af (ax ak) ak))) (af (ax (af (Zb (ar (qv 5) ah)) (af (ax (af (Zb (qv 4)) ak)) ak))) ak))) ak))) (af (ax (af (Zb (qv 4)) (af (ax (af (ax (af (Zb (ar (qv 5) ah)) (af (ax (af (Zb (qv 3)) ak)) ak))) ak)) ak))) ak)))))
 aT)
 (ag (aC 6 cy.nd (aH ak))
 (ag (aC 7 cy.nd (aV ah (Za (a8 aM hr T.aZ (ae (qv 0) (ae ah au))))))
 (ag (aC 8 cy.nd bS)
 (ag (cw (g:=(Tg.nm 9)) PassesOwn.never U (fY U T.fS (ae (qv 7) au)) (bu 9 cy.nd)
 (ag (aC 10 cy.nd (aH ak))
 (ag (cw (g:=(Tg.nm 11)) PassesOwn.never U (fY U T.fS (ae (Za (aV ah (Za (a8 aM hr T.aZ (ae (qv 0) (ae (Za (k6 (aH (af bS (af bS ak))) (Za (aY oj vQ (by rfl) T.Dv (by kernel_rfl) (ae (Za (iR (Bi hu U) vR (bz _) (qv 7) ah)) au))))) au)))))) au)) (bu 11 cy.nd)
 (ag (aC 12 cy.nd (rE (Za (a8 aM hr T.aZ (ae (qv 0) (ae (Za (k6 (aH (af bS (af bS (af bS ak)))) (Za (a8 aM hr T.aZ (ae (qv 0) (ae ah au)))))) au)))) (Za (aY oj vQ (by rfl) T.Dv (by kernel_rfl) (ae (Za (iR CH (qU (g':=λi j=>.b (decide (j<i))) λ_ _ _ _=>.b _) (bz _) (Za (aV (qv 9) (qv 11))) ah)) au)))))
 (ag (ko (i:=13) cy.nd U (Or.inl U) U (nL U T.fS (ae (qv 12) au)) (N':=["_law_i",Zt,Zf,Zq]) (.own U (.got (i:=1) U U (.inl U) (.got (i:=0) U U (.inl U) (.got (i:=7) U U (.inl U) .nil)))) (bQ (g:=(Tg.nm 0)) (λ_ _ _ _ _=>((dO 0),(Zb (ar (qv 1) (Za (a8 aM hr T.aZ (ae (qv 2) (ae (qv 3) au))))))))))
 (ag (bV (i:=10) (pv 10) (ax (af (Zb (ar (qv 5) (qv 8))) (af (aY (bW U) bU (by rfl) T.cT (by kernel_rfl) (ae (qv 13) au)) ak))))
 (ai (aC 8 cy.nd (aV (qv 8) ah)))))))
 (ai (bV (i:=6) (pv 6) (ax (af (Zb (ar (qv 1) (qv 9))) (af (aY (bW U) bU (by rfl) T.cT (by kernel_rfl) (ae (qv 10) au)) ak))))))))
 (ai (aQ (aY (bW U) bU (by rfl) T.cT (by kernel_rfl) (ae (qv 6) au))))))))))))))))),λts Q h=>?_)
  let(ws,U,hl,aP,hq):=h;obtain⟨x0,V,wr,rfl⟩:∃x0 V wr,ws=x0::V::wr:=by
   cases ws with
   |nil=>cases hl
   |cons x0 r=>cases r with
    |nil=>cases hl
    |cons V wr=>exact(x0,V,wr,U)
  let bG:atI ((x0::V::wr).map L2.T.s) 0=Z (.s x0):=gq (j:=0) U;let bx:atI ((x0::V::wr).map L2.T.s) 1=Z (.s V):=gq (j:=1) U;refine(by decide,by decide,λfm f0 f1=>(_,bG,U,_,bx,U,br _,br _,?_))
  let hM:((x0::V::wr).drop 4++(x0::V::wr).take 4).Nodup:=Eb aP;let lM:((x0::V::wr).drop 4++(x0::V::wr).take 4).length=40:=by rw[pL,Wo,z7];lia
  refine(bR (by have:=congrArg V3 (T3 hl);rw[pL,ej]at this;lia),CZ _ _ _,CZ _ _ _,?_)
  rw[T3 hl];let aN:∀x∈(x0::V::wr).drop 4++(x0::V::wr).take 4,x∈x0::V::wr:=λx hx=>(p7.mp hx).elim List.mem_of_mem_drop Wg
  generalize(x0::V::wr).drop 4++(x0::V::wr).take 4=M at hM lM aN
  obtain⟨m0,m1,m2,m3,mr,rfl⟩:∃m0 m1 m2 m3 mr,M=m0::m1::m2::m3::mr:=by
   match M,lM with
   |m0::m1::m2::m3::mr,_=>exact(m0,m1,m2,m3,mr,U)
  let t0:atI ((m0::m1::m2::m3::mr).map L2.T.s) 0=Z (.s m0):=gq (j:=0) U;let t1:atI ((m0::m1::m2::m3::mr).map L2.T.s) 1=Z (.s m1):=gq (j:=1) U;let t2:atI ((m0::m1::m2::m3::mr).map L2.T.s) 2=Z (.s m2):=gq (j:=2) U;let t3:atI ((m0::m1::m2::m3::mr).map L2.T.s) 3=Z (.s m3):=gq (j:=3) U;let bt:3 <=(x0::V::wr).length:=by lia
  let aF:∀(ks:List Kd)(n made:Nat),tm (x0::V::wr) (m0::m1::m2::m3::mr) n ks n made->1<=n->n<=3->Q (tKs ks):=λks n made D n1 n3=>hq ks (D.good aP hM n1 n3 bt) λx hx=>aN x (Wg (D.mn▸hx))
  let a1:x0∈(x0::V::wr).take 1:=jf;let a2:x0∈(x0::V::wr).take 2:=jf;let b2:V∈(x0::V::wr).take 2:=j0 _ jf;refine(U,bH (λ_=>?_) (λ_=>?_))
  ·refine(U,_,t0,U,_,t1,U,U,?_);exact aF [(x0,[(m0,[]),(m1,[x0])])] 1 2 (U,U,by decide,all1 (Rk _ _,leK 2 6),all1 (all2 (leK 0 4,BL) (leK 1 4,all1 a1))) (by decide) (by decide)
  refine(U,bH (λ_=>?_) (λ_=>?_))
  ·refine(U,_,t0,U,_,t1,U,U,_,t2,U,U,?_);exact aF [(x0,[(m0,[]),(m1,[x0]),(m2,[x0])])] 1 3 (U,U,by decide,all1 (Rk _ _,leK 3 6),all1 (VI (leK 0 4,BL) (leK 1 4,all1 a1) (leK 1 4,all1 a1))) (by decide) (by decide)
  refine(U,bH (λ_=>?_) (λ_=>?_))
  ·refine(U,_,t0,U,_,t1,U,U,_,t2,U,_,t3,U,U,U,?_);exact aF [(x0,[(m0,[]),(m1,[])]),(V,[(m2,[]),(m3,[x0,V])])] 2 4 (U,U,by decide,all2 (Rk _ _,leK 2 6) (Rk _ _,leK 2 6),all2 (all2 (leK 0 4,BL) (leK 0 4,BL)) (all2 (leK 0 4,BL) (leK 2 4,all2 a2 b2))) (by decide) (by decide)
  refine(U,bH (λ_=>?_) (λ_=>?_))
  ·refine(U,_,t0,U,_,t1,U,U,U,?_);exact aF [(x0,[(m0,[]),(m1,[x0,x0])])] 1 2 (U,U,by decide,all1 (Rk _ _,leK 2 6),all1 (all2 (leK 0 4,BL) (leK 2 4,all2 a1 a1))) (by decide) (by decide)
  refine(U,bH (λ_=>?_) (λ_=>?_))
  ·refine(U,_,t0,U,_,t1,U,U,U,_,t2,U,U,?_);exact aF [(x0,[(m0,[]),(m1,[V])]),(V,[(m2,[x0])])] 2 3 (U,U,by decide,all2 (Rk _ _,leK 2 6) (Rk _ _,leK 1 6),all2 (all2 (leK 0 4,BL) (leK 1 4,all1 b2)) (all1 (leK 1 4,all1 a2))) (by decide) (by decide)
  clear t0 t1 t2 t3 bG bx aF a1 a2 b2 bt
  generalize c2:m0::m1::m2::m3::mr=M at hM lM aN ⊢
  generalize c1:x0::V::wr=ws at aP hl aN hq ⊢
  refine(by decide,by decide,λr2 cP cN=>?_)
  refine(by lia,by lia,λi q=>Y8 λks made L o9 a3 aD az av=>q=[.r .df,.r (.l (ws.map .s)),.o (.i fm),.o (.s x0),.o (.s V),.o (.l (M.map .s)),.o (.l L),.o (.i (1+r2)),.o (.i (made:Nat)),o9,a3,aD,az,av]/\L=ks.map tK/\tm ws M (1+r2).toNat ks i made,
   ([],0,_,_,_,_,_,_,U,U,(U,U,m9 _,b6,b6)),?_,?_)
  ·rintro i x q hx ⟨ks,made,L,o9,a3,aD,az,av,rfl,rfl,D⟩
   let(U,hi):=iM hx;let cA:=D.b1;let cS:ks.length=i:=by
    have:=congrArg V3 D.nm
    rw[ej,z7,XG (by omega)]at this
    exact this
   let a7:i<ws.length:=by lia
   refine(_,U,U,_,SM 3 6 _,?_,?_,λr5 cM b8=>?_)
   ·split <;> decide
   ·split <;> decide
   let cI:r5<6:=by split at b8 <;> lia
   refine(by lia,by lia,λj q=>Y6 λms gp L' aD az av=>q=[.r .df,.r (.l (ws.map .s)),.o (.i fm),.o (.s x0),.o (.s V),.o (.l (M.map .s)),.o (.l (ks.map tK)),.o (.i (1+r2)),.o (.i (gp:Nat)),.r (.i (0+(i:Nat))),.o (.l L'),aD,az,av]/\L'=ms.map tM/\ms.length=j/\gp=made+j/\M.take made++ms.map (·.1)=M.take gp/\(∀m∈ms,m.2.length<=4/\∀f∈m.2,f∈ws.take (1+r2).toNat),
    ([],made,_,_,_,_,U,U,U,U,by simp,λ_ z=>nomatch z),?_,?_)
   ·rintro j x q hx ⟨ms,gp,L',aD,az,av,rfl,rfl,aK,a6,a4,a5⟩
    let(U,hj):=iM hx;refine(_,U,by decide,by decide,λr6 b7 b0=>?_)
    let(v,ev,hv):=Oc (x:=3) (y:=3) (z:=5) b7 b0;refine(_,ev,by lia,by lia,λr7 cG cD=>?_)
    refine(.inl (by lia,by lia),?_)
    let cc:∀b:Bool,0<=r7*(if b=O then 1 else 0)/\r7*(if b=O then 1 else 0)<=4:=λb=>by cases b <;> simp <;> lia
    let(w0,w4):=cc (decide (0<0+(i:Int)+(0+(j:Int))))
    generalize c0:r7*(if decide (0<0+(i:Int)+(0+(j:Int)))=O then 1 else 0)=wide at w0 w4 ⊢
    refine(by lia,by lia,aG (by rw[d6];lia),λp ys=>∃fs:List Str,ys=fs.map .s/\fs.length=p/\∀f∈fs,f∈ws.take (1+r2).toNat,([],U,U,λ_ z=>nomatch z),?_,?_)
    ·rintro p x ys hx ⟨fs,rfl,lf,hf⟩
     let(U,hp):=iM hx;refine(_,U,by lia,by lia,λr8 bL bK=>?_)
     let h8:r8.toNat<ws.length:=by lia
     let e8:atI (ws.map L2.T.s) r8=Z (.s ws[r8.toNat]):=by
      have:=gq (ws:=ws) (j:=r8.toNat) (w:=ws[r8.toNat]) (by simp[h8])
      rwa [Wa bL]at this
     refine(_,e8,U,fs ++ [ws[r8.toNat]],by simp,by simp[lf],λf cv=>?_)
     obtain h|h:=p7.mp cv
     ·exact hf f h
     ·rw[g5.mp h];exact List.mem_take_iff_getElem.mpr (r8.toNat,Yx.mpr ((Int.toNat_lt_toNat (by omega)).mpr bK,h8),U)
    ·rintro ys ⟨fs,rfl,lf,hf⟩
     rw[d6]at lf;let ct:i<=2:=W0 (zZ hi (Yf.mpr (show 1+r2<=3 by omega)))
     let cq:j<=5:=W0 (zZ hj (Yf.mpr (show 1+r5<=6 by omega)))
     let Oj:gp<M.length:=by rw[a6,lM];exact WT (Nat.add_le_add (xZ cA (Nat.mul_le_mul_left 6 ct)) cq) (by decide)
     let em:atI (M.map L2.T.s) ((gp:Nat):Int)=Z (.s M[gp]):=gq (by simp[Oj])
     refine(aG (by rw[ej];lia),_,em,U,br _,?_)
     refine(ms ++ [(M[gp],fs)],gp+1,_,_,_,_,U,by simp[tM],by simp[aK],by lia,?_,λm hm=>?_)
     ·rw[zY,<- Rl,a4];exact take_one (by simp[Oj])
     ·obtain h|h:=p7.mp hm
      ·exact a5 m h
      ·rw[g5.mp h];exact(by show fs.length<=4;lia,hf)
   ·rintro q ⟨ms,gp,L',aD,az,av,rfl,rfl,aK,a6,a4,a5⟩
    rw[d6]at aK a6;let ei:atI (ws.map L2.T.s) (0+((i:Nat):Int))=Z (.s ws[i]):=by rw[WO];exact gq (by simp[a7])
    refine(aG (by rw[ej];lia),_,ei,U,bF C2 _,?_)
    refine(ks ++ [(ws[i],ms)],gp,_,_,_,_,_,_,U,by simp[tK,tMs],D.next (by simp[a7]) a4 (λz=>?_) (by lia) (by lia) a5)
    rw[z]at aK;simp at aK
    lia
  ·rintro q ⟨ks,made,L,o9,a3,aD,az,av,rfl,rfl,D⟩
   rw[d6]at D;refine(bF vh _,?_);exact hq ks (D.good aP hM (by lia) (by lia) (by lia)) λx hx=>aN x (Wg (D.mn▸hx))
theorem CL(T:Txt K mg a):bb P w K mg base CX0 2 a.xx a.Jj [Zf,Zk,ZB] (spQ K A9):=by
 refine T.tL.F.okQ pT (λts Q h=>?_) (λ_ _ _ _ _ _ hr=>?_)
 ·let(sc,fs,t,_,U,_):=h;rfl
 ·let hu:=cC hr;refine(_,_,((ag (aC 3 pT.nd (aH ak))
 (ag (cw (g:=(Tg.nm 4)) PassesOwn.never U (O8 (i:=2) (pv 2)) (bu 4 pT.nd)
 (ag (ko (i:=5) pT.nd U (Or.inl U) U (gF (qv 1)) (N':=[ZQ,ZJ,Zn]) (.own U (.own U (.got (i:=4) U U (.inl U) .nil))) (Pc (g:=(Tg.tp [0,1])) (λ_ _ _ _ _=>((ik (dO 0) (dO 1)),(cf hu (qv 1) (qv 2)),(Zb (qv 0))))))
 (ag (bc (cf hu (qv 5) (Za (aH ak)))
 (ai (aQ cX))
 aT)
 (ai (bV (i:=3) (pv 3) (Zb (ar (qv 5) (Za (bD (iC U) qT (by rfl) T.vB (by kernel_rfl) (ae (Za (a8 (i7 (fR T)) hr T.aZ (ae (qv 0) (ae (Za (bP T.cD (ae (qv 5) au))) au)))) (ae (Za (a8 (i7 (fR T)) hr T.aZ (ae (qv 0) (ae (Za (bP T.cD (ae (qv 5) au))) au)))) au)))))))))))
 (ai (aQ (aY (bW U) bU (by rfl) T.cT (by kernel_rfl) (ae (qv 3) au))))))),λts Q h=>?_)
  let(sc,fs,t,ht,U,aM,aP,hn,hq):=h;obtain rfl|rfl:=ht
  all_goals
   refine(λi q=>Q4 λns o4 o5 L=>q=[.r .df,.r (.l (sc.map tP)),.r _,.o (.l L),o4,o5]/\L=ns.map .s/\Fills sc ns (fs.take i),([],_,_,_,U,U,U,b6),?_,?_)
   ·rintro i x q hx ⟨ns,o4,o5,L,rfl,rfl,hF⟩
    rw[j5]at hx;let(f,hf,U):=kg.mp hx;let aN:i<fs.length:=(kf.mp hf).1;refine(_,U,aG (by rw[ej];lia),λk ys=>∃os:List Str,ys=os.map .s/\os.length<=k/\∀n∈os,(n,f)∈sc,([],U,m9 _,b6),?_,?_)
    ·rintro k x ys hx ⟨os,rfl,lo,ho⟩
     rw[j5]at hx;let(p,hp,U):=kg.mp hx;refine(_,U,U,bH (λe=>(U,os ++ [p.1],by simp,by simp;lia,λn hn=>?_)) (λ_=>(os,U,by lia,ho)))
     obtain h|h:=p7.mp hn
     ·exact ho n h
     ·rw[g5.mp h];let e':(L2.T.s p.2).v=(L2.T.s f).v:=by simpa using e
      let e2:p.2=f:=V.str.inj e';rw[<- e2];exact px hp
    ·rintro ys ⟨os,rfl,lo,ho⟩
     rw[ej]at lo;refine(by rw[zB];rfl,bH (λ_=>hn) (λaD=>?_))
     let l0:0<os.length:=by
      cases os with
      |nil=>exact absurd U aD
      |cons _ _=>simp
     let ln:ns.length=i:=by rw[hF.1,z7];lia
     let av:((os.map L2.T.s).length:Int)=os.length:=by rw[ej]
     refine(aG (by rw[ej];lia),by rw[av];lia,by rw[av];lia,λr r0 r1=>(by rw[av];lia,by rw[av];lia,λr' aK az=>?_))
     rw[av]at r1 az;let hm:∃m:Int,(if r' > r then r' else r)=m/\0<=m/\m<os.length:=(_,U,by split <;> lia,by split <;> lia)
     let(m,em,m0,m1):=hm;let aF:m.toNat<os.length:=by lia
     refine(.s os[m.toNat],(by show atI (os.map L2.T.s) (if r' > r then r' else r)=_;rw[em];exact QV m0 aF),U,ns ++ [os[m.toNat]],_,_,_,U,by simp,?_)
     rw[<- take_one hf];exact hF.snoc (ho _ (Wr _))
   ·rintro q ⟨ns,o4,o5,L,rfl,rfl,hF⟩
    rw[ej,tI]at hF;exact(br _,hq ns hF)
theorem HY(T:Txt K mg a):bb P w K mg base CX0 3 a.qy a.Di [Zf,Zr,Zk,Zn,Zg] (spQ K pW):=by
 refine T.x8.F.okQ dw (λts Q h=>?_) (λ_ _ _ _ _ _ hr=>?_)
 ·let(ks,hs,ws,sc,f,h,U,_):=h;rfl
 ·let hu:=cC hr;refine(_,_,((ag (wo (g:=(Tg.tp [5,6,7])) (i:=1) (pv 1) (fk (K:=K) (n:=3) U U (aW (bu 5 dw.nd) (aW (bu 6 dw.nd) (aW (bu 7 dw.nd) fj)))))
 (ag (aC 8 dw.nd (a8 (CL T) hr T.tL (ae (qv 0) (ae (qv 2) (ae (Za (aH (af (Zb (qv 3)) ak))) au)))))
 (ag (bc (cj pX lV (bz _) (qv 8) (Za cX))
 (ai (aQ (ax (af aA (af (Zb (ar (qv 8) ah)) ak)))))
 aT)
 (ag (aC 9 dw.nd (Zb (ar (qv 7) (Za (bP T.cD (ae (qv 2) au))))))
 (ag (cw (g:=(Tg.tp [10,11])) PassesOwn.never U (gX (Zb (bg (Za (aY (jc U) kW (by rfl) T.jZ (by kernel_rfl) (ae (qv 5) au))) (qv 3)))) (ik (bu 10 dw.nd) (bu 11 dw.nd))
 (ag (aC 12 dw.nd (a8 (CL T) hr T.tL (ae (qv 0) (ae (qv 2) (ae (qv 11) au)))))
 (ai (bc (cj pX lV (bz _) (qv 12) (Za cX))
 (ai (aQ (ax (af aA (af (Zb (qv 9)) (af (Zb (qv 10)) (af (Zb (qv 12)) (af (ax (af aA (af (Zb (qv 9)) ak))) ak))))))))
 aT))))
 (ag (aC 12 dw.nd (aY (bW U) bU (by rfl) T.cT (by kernel_rfl) (ae (Za (bM U (gF (Za (gc (qv 2) iQ (iP (Za (bP T.cD (ae (ar (ar (qv 6) (qv 4)) ah) au))))))) (N':=[ZQ,ZJ]) (.own U (.own U .nil)) (bQ (g:=(Tg.tp [0,1])) (λ_ _ _ _ _=>((ik (dO 0) (dO 1)),(Zb (qv 0))))))) au)))
 (ai (aQ (ax (af aA (af (Zb (qv 9)) (af (Zb (ar (ar (qv 6) (qv 4)) ah)) (af (Zb (qv 12)) (af (ax (af aA (af (Zb (qv 9)) ak))) ak))))))))))))))),λts Q hh=>?_)
  let(ks,hs,ws,sc,f,h,U,W,hf,S,hq):=hh;let M6:h∈hs:=px hf;let(a3,aP,aN,aK):=W.hp h M6;let ef:atI (hs.map tH) (f:Int)=Z (tH h):=cH (by rw[j5,hf];rfl)
  let aF:sc.length<ws.length:=by have:=S.ln;have:=W.wl;omega
  let ex:atI (ws.map L2.T.s) ((sc.map tP).length:Int)=Z (.s ws[sc.length]):=by rw[ej];exact gq (eO aF)
  let fx:ws[sc.length] ∉ sc.map (·.1):=S.fresh W.wn (eO aF)
  generalize ws[sc.length]=x at ex fx
  refine(_,U,U,sc,[h.2.2],_,.inr U,U,by have:=S.ln;omega,by show 1<=1000;decide,?_,λns hF=>?_)
  ·let(kd,aD,ek):=Oh aK;refine(_,ex,U,bF vh ks,_,mG ks,_,nU W.gk.nd aK,nX _,λi q=>P3 λaz av V=>q=[.r .df,.r (tW ks hs ws),.r (.l (sc.map tP)),.r (.s h.2.2),.r (.i f),.r (tKs ks),.r (.l (hs.map tH)),.r (.l (ws.map .s)),.o .n,.o (.s x),az,av,V],(_,_,_,U),?_,?_)
   ·rintro i t q hx ⟨az,av,V,rfl⟩
    rw[j5]at hx;let(m,hm,U):=kg.mp hx;let aM:m∈kd.2:=by rw[<- mJ W.gk.nd aD,ek];exact px hm
    refine(_,U,sc,m.2,_,.inl U,U,by have:=S.ln;omega,by have:=(W.gk.fl kd aD m aM).1;omega,(_,_,_,U),λns hF=>?_)
    refine(U,U,br _,U,hq 2 _ (by decide) (.make aD aM hF fx (.give ?_)) (mS sN (m9 _)))
    rw[ek];simp
   ·rintro q ⟨az,av,V,rfl⟩
    let ec:eV (sc.map tP) Y (Z ((h.2.1.map tP).length:Int))=h.2.1.map tP:=by rw[ej,Jo (by rw[ej];exact S.p1),<- W9,S.pf]
    refine(_,ef,_,U,bF jM _,?_);rw[ec];refine(aG (by rw[ej];omega),λi ys=>ys=((h.2.1.take i).map (·.1)).map .s,U,?_,?_)
    ·rintro i t ys hx rfl
     rw[j5]at hx;let(p,hp,U):=kg.mp hx;refine(_,U,U,?_);show _ ++ [L2.T.s p.1]=_;rw[wh,hp];simp
    ·rintro ys rfl
     rw[ej,tI];refine(br _,U,_,ef,_,U,U,br _,U,hq 2 _ (by decide) (.call M6 ?_ fx (.give (by simp))) (mS sN (m9 _)))
     let z:=Fills.self (sc:=sc) (n:=h.2.1.length)
     rwa [S.pf]at z
  ·obtain⟨n,rfl⟩:∃n,ns=[n]:=by
    match ns,hF.1 with
    |[n],_=>exact(n,U)
   exact(_,U,U,hq 1 _ (by decide) (.give (hF.2 (n,h.2.2) (by simp))) sN)
theorem Mx(T:Txt K mg a)(N:Nat)(je:bb P w K mg base CX0 (2*N+3) a.sL a.BF [Zf,Zr,Zk,Zg,Zi] (spQ K (k8 N))):bb P w K mg base CX0 (2*N+4) a.xB a.Jm [Zf,Zr,Zk,Zg,Zi] (spQ K (Px N)):=by
 refine T.JR.F.okQ dF (λts Q h=>?_) (λ_ _ _ _ _ _ hr=>?_)
 ·let(ks,hs,ws,sc,f,h,u,U,_):=h;rfl
 ·let hu:=cC hr;refine(_,_,((ag (wo (g:=(Tg.tp [5,6,7])) (i:=1) (pv 1) (fk (K:=K) (n:=3) U U (aW (bu 5 dF.nd) (aW (bu 6 dF.nd) (aW (bu 7 dF.nd) fj)))))
 (ag (iN (g:=(Tg.tp [8,9])) (ar (qv 2) (Za (bD (iC U) qT (by rfl) T.vB (by kernel_rfl) (ae (Za (a8 (i7 (fR T)) hr T.aZ (ae (qv 0) (ae (Za (bP T.cD (ae (qv 2) au))) au)))) (ae (Za (a8 (i7 (fR T)) hr T.aZ (ae (qv 0) (ae (Za (bP T.cD (ae (qv 2) au))) au)))) au))))) (ik (bu 8 dF.nd) (bu 9 dF.nd)))
 (ag (aC 10 dF.nd (Zb (bg (Za (aY (jc U) kW (by rfl) T.jZ (by kernel_rfl) (ae (qv 5) au))) (qv 9))))
 (ag (yC (i:=4) (pv 4) (pv 4) (Za (bP T.cD (ae (qv 10) au))))
 (ag (aC 11 dF.nd (aH ak))
 (ag (cw (g:=(Tg.tp [12,13])) PassesOwn.never U (gX (Zb (qv 10))) (ik (bu 12 dF.nd) (bu 13 dF.nd))
 (ag (ko (i:=14) dF.nd U (Or.inl U) U (Lc U T.jY (by kernel_rfl) (ae (qv 13) au)) (N':=["_law_k",ZA,Zt,Zk]) (.own U (.own U (.got (i:=7) U U (.inl U) (.got (i:=2) U U (.inl U) .nil)))) (bQ (g:=(Tg.tp [0,1])) (λ_ _ _ _ _=>((ik (dO 0) (dO 1)),(ax (af (Zb (ar (qv 2) (Za (aV (Za (bP T.cD (ae (qv 3) au))) (qv 0))))) (af (Zb (qv 1)) ak)))))))
 (ag (aC 15 dF.nd (aY (bW U) bU (by rfl) T.cT (by kernel_rfl) (ae (Za (bM U (gF (qv 14)) (N':=[ZQ,ZA]) (.own U (.own U .nil)) (bQ (g:=(Tg.tp [0,1])) (λ_ _ _ _ _=>((ik (dO 0) (dO 1)),(Zb (qv 0))))))) au)))
 (ai (bV (i:=11) (pv 11) (ax (af (Zb (qv 12)) (af (Zb (qv 15)) (af (a8 je hr T.lP (ae (qv 0) (ae (qv 1) (ae (Za (aV (qv 2) (qv 14))) (ae (qv 3) (ae (qv 4) au)))))) ak)))))))))
 (ai (aQ (ax (af aA (af (Zb (qv 8)) (af (aY (bW U) bU (by rfl) T.cT (by kernel_rfl) (ae (qv 11) au)) ak))))))))))))),λts Q hh=>?_)
  let(ks,hs,ws,sc,f,h,u,U,W,hf,S,hl,a7,bx,hq):=hh;let l0:0<sc.length:=Wi.mpr a7;let V:((sc.map tP).length:Int)=sc.length:=by rw[ej]
  refine(_,U,by rw[V];lia,by rw[V];lia,λr r0 r1=>(by rw[V];lia,by rw[V];lia,λr' a3 aM=>?_))
  rw[V]at r1 aM;let(m0,m1):=max_two r0 r1 a3 aM;let((x,k),hx,ex):=jF (f:=tP) m0 m1;refine(tP (x,k),ex,U,_,U,?_);let(kd,av,ek):=Oh (S.kd _ hx);obtain rfl:kd.1=k:=ek;let em:=mJ W.gk.nd av;refine(bF vh ks,_,mG ks,tMs kd.2,by rw[nU W.gk.nd (S.kd _ hx),em],nX _,X3 _,?_)
  let(ne1,a4):=W.gk.ne kd av;let a6:1<=kd.2.length:=Wi.mpr ne1;let a5:((kd.2.map tM).length:Int)=kd.2.length:=by rw[ej]
  let wl:=W.wl;let e1:(u - ((kd.2.map tM).length:Int)).toNat=u.toNat - kd.2.length:=by rw[a5];lia
  generalize u - ((kd.2.map tM).length:Int)=u' at e1 ⊢
  refine(nX kd.2,λi q=>Y6 λarms L aK aF aD az=>q=[.r .df,.r (tW ks hs ws),.r (.l (sc.map tP)),.r (.i f),.r (.rm u'),.r (tKs ks),.r (.l (hs.map tH)),.r (.l (ws.map .s)),.r (.s x),.r (.s kd.1),.o (tMs kd.2),.o (.l L),aK,aF,aD,az]/\L=arms.map tA/\uI ks hs h.2.2 sc (sz u'.toNat) (3*u'.toNat+2) arms (kd.2.take i),
   ([],_,_,_,_,_,U,U,(U,λi a m h1=>by simp at h1)),?_,?_)
  ·rintro i t q hx ⟨arms,L,aK,aF,aD,az,rfl,rfl,hA⟩
   rw[j5]at hx;let(m,hm,U):=kg.mp hx;let(b0,bt):=W.gk.fl kd av m (px hm);let bL:i<kd.2.length:=(kf.mp hm).1;let lA:arms.length=i:=by rw[hA.ln,z7];lia
   let(ln,aN,S'):=S.more (ns:=(ws.drop sc.length).take m.2.length) W.wn U (by lia) (by lia) bt
   refine(_,U,aG (by rw[dY,ej];lia),λj ys=>ys=(((ws.drop sc.length).take j).zip (m.2.take j)).map tP,U,?_,?_)
   ·rintro j y ys hy rfl
    let(z,hz,U):=jP hy;rw[j5]at hz;let(g,hg,U):=kg.mp hz;let bK:j<m.2.length:=(kf.mp hg).1;let aP:sc.length+j<ws.length:=by lia
    let ew:atI (ws.map L2.T.s) (((sc.map tP).length:Int)+(j:Nat))=Z (.s ws[sc.length+j]):=by
     rw[ej];exact gq (j:=sc.length+j) (eO aP)
    refine(_,U,_,ew,U,U,?_);show _ ++ [tP (ws[sc.length+j],g)]=_;rw[Fo (a:=ws[sc.length+j]) (by rw[Yd,eO aP]) hg,zY]
    rfl
   ·rintro ys rfl
    rw[show(jQ (m.2.map L2.T.s)).length=m.2.length by rw[dY,ej],tI]
    generalize bG:(ws.drop sc.length).take m.2.length=ns at ln aN S' ⊢
    refine(aG (by rw[ej,NN];lia),λj ys=>ys=(((ns.zip m.2).take j).map (·.1)).map .s,U,?_,?_)
    ·rintro j y ys hy rfl
     rw[j5]at hy;let(p,hp,U):=kg.mp hy;refine(_,U,U,?_);show _ ++ [L2.T.s p.1]=_;rw[wh,hp];simp
    ·rintro ys rfl
     rw[show((ns.zip m.2).map tP).length=(ns.zip m.2).length by rw[ej],tI,BW ln]
     refine(br _,aG (by rw[ej];lia),U,br _,bR (by rw[ej,ej,NN];lia),bF jM _,bF jM _,ks,hs,ws,sc++ns.zip m.2,f,h,_,by rw[zY],W,hf,S',by rw[pL,NN];lia,by lia,λn b hn hb dd=>?_)
     refine(arms ++ [(m.1,ns,b,n)],_,_,_,_,_,U,by simp[tA],?_)
     rw[wh,hm];exact hA.snoc (U,ln,aN,hb,hn,dd)
  ·rintro q ⟨arms,L,aK,aF,aD,az,rfl,rfl,hA⟩
   rw[ej,tI]at hA;let(hS,hle):=hA.snd hx av;refine(U,hA.im,hq _ _ ?_ hS ((hA.dep (by lia)).mono (by lia)))
   rw[hA.ln,e1]at hle
   have:=Kc (n:=u.toNat) a6 a4
   lia
def qMk(N:Nat):QS:=wx (GV (Tg.tp [17,18]) (qOp qIx (bo 5) (ig rJ (aJ (bo 0) (aJ (qCB Eg (aJ (bo 5) fc)) fc)))))
 (wx (GV (Tg.tp [19,20]) (qOp qIx (bo 18) (ig rJ (aJ (bo 0) (aJ (qCB Eg (aJ (bo 18) fc)) fc)))))
  (wx (AZ 16 (ig A9 (aJ (bo 0) (aJ (bo 2) (aJ (bo 20) fc)))))
   (wx (Lw (uX (qOp (Eh ϊ) (bo 16) (qC .n))) (λD q=>ig pW (aJ (bo 0) (aJ (bo 1) (aJ (bo 2) (aJ (bo 8) (aJ (bo 3) fc))))) q D.rt) Cs)
    λD q=>yI (aJ (qC (.s (Str.ofString "make"))) (aJ (qIm (bo 10)) (aJ (qIm (bo 19)) (aJ (qIm (bo 16)) (aJ (ig (k8 N) (aJ (bo 0) (aJ (bo 1) (aJ (qOp t6 (bo 2) (Lv (aJ (yI (aJ (qIm (bo 10)) (aJ (qIm (bo 17)) fc))) fc))) (aJ (bo 3) (aJ (bo 4) fc)))))) fc))))) q D.rt)))
def qCl(N:Nat):QS:=wx (Lw (uX (qOp Lx (bo 9) (qC (.i 6))))
 (wx (AZ 15 (ig rJ (aJ (bo 0) (aJ (qCB Eg (aJ (bo 6) fc)) fc))))
  (wx (AZ 16 (ig A9 (aJ (bo 0) (aJ (bo 2) (aJ (Ct [Y] (asT (qOp qIx (qOp qIx (bo 6) (bo 15)) (qC (.i 1)))) (Tg.nm 0) GW (qIm (qOp qIx (bo 0) (qC (.i 1))))) fc)))))
   (Lw (uX (qOp (Eh O) (bo 16) (qC .n))) (λD q=>yI (aJ (qC (.s (Str.ofString "call"))) (aJ (qIm (bo 10)) (aJ (qIm (qOp qIx (qOp qIx (bo 6) (bo 15)) (qC (.i 0)))) (aJ (qIm (bo 16)) (aJ (ig (k8 N) (aJ (bo 0) (aJ (bo 1) (aJ (qOp t6 (bo 2) (Lv (aJ (yI (aJ (qIm (bo 10)) (aJ (qIm (qOp qIx (qOp qIx (bo 6) (bo 15)) (qC (.i 2)))) fc))) fc))) (aJ (bo 3) (aJ (bo 4) fc)))))) fc))))) q D.rt) Cs))) Cs) (qMk N)
def qNm(N:Nat):QS:=wx (GV (Tg.tp [13,14]) (qOp qIx (bo 2) (ig rJ (aJ (bo 0) (aJ (qCB Eg (aJ (bo 2) fc)) fc)))))
 λD q=>yI (aJ (qC (.s (Str.ofString "name"))) (aJ (qIm (bo 10)) (aJ (qIm (bo 13)) (aJ (ig (k8 N) (aJ (bo 0) (aJ (bo 1) (aJ (qOp t6 (bo 2) (Lv (aJ (yI (aJ (qIm (bo 10)) (aJ (qIm (bo 14)) fc))) fc))) (aJ (bo 3) (aJ (bo 4) fc)))))) fc)))) q D.rt
structure DO(N YA D:Nat)(ks:List Kd)(hs:List Hd)(ws:List Str)(sc:Sc)(f:Nat)(h:Hd)(u:Int)(x:Str)(Q:L2.T->Prop):Prop where
 W:Wld ks hs ws
 kd:∀p∈sc,p.2∈ks.map (·.1)
 l16:sc.length<=16
 fx:x ∉ sc.map (·.1)
 hE:pW [.df,tW ks hs ws,.l (sc.map tP),.s h.2.2,.i f] Q
 go:∀{k:Str},k∈ks.map (·.1)->∀{Q':L2.T->Prop},(∀n b,n<=YA->Snd ks hs h.2.2 n (sc ++ [(x,k)]) b->Dep D b->Q' b)->k8 N [.df,tW ks hs ws,.l (sc.map tP ++ [tP (x,k)]),.i f,.rm u] Q'
 hq:∀n b,n<=YA+1->Snd ks hs h.2.2 n sc b->Dep (D+1) b->Q b
 d1:1<=D
theorem Ck(C:DO N YA D ks hs ws sc f h u x Q)(a3 aP aN aM aK aF aD az av V:Sl):
  qMk N {nx:=λ_=>Q .n,rt:=Q} [.r .df,.r (tW ks hs ws),.r (.l (sc.map tP)),.r (.i f),.r (.rm u),.r (tKs ks),.r (.l (hs.map tH)),.r (.l (ws.map .s)),.o (.s h.2.2),.o (.i fm),.o (.s x),a3,aP,aN,aM,aK,aF,aD,az,av,V]:=by
 let(W,a5,h3,fx,hE,go,hq,d1):=C;let lk:((ks.map tK).length)=ks.length:=by rw[ej]
 let k1:=W.gk.k1;let k2:=W.gk.k2;refine(by lia,by lia,λr6 P z=>?_)
 rw[lk]at z;let(kd,g,ek):=jF P z;let(ne1,a4):=W.gk.ne kd g;let lm:((kd.2.map tM).length)=kd.2.length:=by rw[ej]
 let l1:=Wi.mpr ne1;refine(_,ek,vh kd,_,U,by lia,by lia,λr7 K q=>?_)
 rw[lm]at q;let(m,hm,em):=jF K q;refine(_,em,C2 m,_,U,sc,m.2,_,.inl U,U,by lia,by have:=(W.gk.fl kd g m hm).1;lia,hE,λns hF=>?_)
 refine(U,U,br _,U,U,bR (by rw[ej];show sc.length+1<=10000;lia),bF jM _,U,?_)
 exact go (tE.mpr (kd,g,U)) λn b hn hb dd=>hq (n+1) _ (by lia) (.make g hm hF fx hb) (mS dd d1)
theorem KL(C:DO N YA D ks hs ws sc f h u x Q)(a3:sc ≠ [])(aN aM aK aF aD az av V P K:Sl):
  qNm N {nx:=nx,rt:=Q} [.r .df,.r (tW ks hs ws),.r (.l (sc.map tP)),.r (.i f),.r (.rm u),.r (tKs ks),.r (.l (hs.map tH)),.r (.l (ws.map .s)),.o (.s h.2.2),.o (.i fm),.o (.s x),aN,aM,aK,aF,aD,az,av,V,P,K]:=by
 let(W,aP,h3,fx,hE,go,hq,d1):=C;let g:((sc.map tP).length)=sc.length:=by rw[ej]
 let l0:=Wi.mpr a3;refine(by rw[g];lia,by rw[g];lia,λr5 z q=>?_)
 rw[g]at q;let((y,k),hy,ey):=jF z q;refine(_,ey,U,_,U,U,U,U,U,bR (by rw[ej];show sc.length+1<=10000;lia),bF jM _,U,?_)
 exact go (aP _ hy) λn b hn hb dd=>hq (n+1) _ (by lia) (.name hy fx hb) (Je dd)
theorem KO(C:DO N YA D ks hs ws sc f h u x Q)(aM aK aF aD az av V P K z:Sl):
  qCl N {nx:=λ_=>Q .n,rt:=Q} [.r .df,.r (tW ks hs ws),.r (.l (sc.map tP)),.r (.i f),.r (.rm u),.r (tKs ks),.r (.l (hs.map tH)),.r (.l (ws.map .s)),.o (.s h.2.2),.o (.i fm),.o (.s x),aM,aK,aF,aD,az,av,V,P,K,z]:=by
 let(W,aN,h3,fx,hE,go,hq,d1):=id C;refine(U,bH (λ_=>?_) (λ_=>Ck C _ _ _ _ _ _ _ _ _ _))
 let lh:((hs.map tH).length)=hs.length:=by rw[ej]
 let a3:=W.h1;let aP:=W.h8;refine(by lia,by lia,λg g0 g1=>?_)
 rw[lh]at g1;let(hd,q,eg):=jF g0 g1;let(q1,q2,q3,q4):=W.hp hd q;refine(_,eg,_,U,aG (by rw[ej];lia),λi ys=>ys=((hd.2.1.take i).map (·.2)).map .s,U,?_,?_)
 ·rintro i t ys ht rfl
  rw[j5]at ht;let(p,hp,U):=kg.mp ht;refine(_,U,_,U,U,?_);rw[wh,hp];simp
 ·rintro ys rfl
  rw[show(hd.2.1.map tP).length=hd.2.1.length by rw[ej],tI]
  refine(sc,hd.2.1.map (·.2),_,.inr U,U,by lia,by rw[ej];lia,Ck C _ _ _ _ _ _ _ _ _ _,λns hF=>?_)
  refine(U,_,eg,_,U,U,br _,U,_,eg,_,U,U,bR (by rw[ej];show sc.length+1<=10000;lia),bF jM _,U,?_)
  exact go q4 λn b hn hb dd=>hq (n+1) _ (by lia) (.call q hF fx hb) (mS dd d1)
theorem SK{r:Int}(h0:0<=r)(h1:r<3):∃w:Str,atI [L2.T.s "pay",L2.T.s "pay",L2.T.s "get"] r=Z (.s w)/\(w="pay" \/ w="get"):=by
 obtain⟨n,rfl⟩:∃n:Nat,r=n:=(r.toNat,by lia)
 match n,h1 with
 | 0,_=>exact(_,U,.inl U)
 | 1,_=>exact(_,U,.inl U)
 | 2,_=>exact(_,U,.inr U)
 |n+3,h=>lia
theorem My(T:Txt K mg a)(N:Nat):bb P w K mg base CX0 (2*N+3) a.sL a.BF [Zf,Zr,Zk,Zg,Zi] (spQ K (k8 N)):=by
 induction N with
 |zero =>
  refine never λts Q hh=>?_
  let(ks,hs,ws,sc,f,h,u,U,W,hf,S,hl,aP,hq):=hh
  lia
 |succ N je =>
  let Rm:=Mx T N je;let V:=i7 (@fR P w K mg base a T);refine T.lP.F.okQ b9 (λts Q h=>?_) (λ_ _ _ _ _ _ hr=>?_)
  ·let(ks,hs,ws,sc,f,h,u,U,_):=h;rfl
  ·let hu:=cC hr;refine(_,_,((ag (wo (g:=(Tg.tp [5,6,7])) (i:=1) (pv 1) (fk (K:=K) (n:=3) U U (aW (bu 5 b9.nd) (aW (bu 6 b9.nd) (aW (bu 7 b9.nd) fj)))))
 (ag (aC 8 b9.nd (Zb (ar (ar (qv 6) (qv 3)) ah)))
 (ag (aC 9 b9.nd (a8 V hr T.aZ (ae (qv 0) (ae ah au))))
 (ag (bc (QPW.pt (oE (Cn (Lh (qv 4) ah) ah) (oE (cf hu (qv 9) ah) (nI (uU (Za (bP T.cD (ae (qv 2) au))) ah)))))
 (ai (aQ (a8 (HY T) hr T.x8 (ae (qv 0) (ae (qv 1) (ae (qv 2) (ae (qv 8) (ae (qv 3) au))))))))
 aT)
 (ag (yC (i:=4) (pv 4) (pv 4) ah)
 (ag (aC 10 b9.nd (Zb (ar (qv 7) (Za (bP T.cD (ae (qv 2) au))))))
 (ag (bc (Cn (qv 9) ah)
 (ag (aC 11 b9.nd (aV ah (Za (a8 V hr T.aZ (ae (qv 0) (ae (Za (k6 (aH (af bS (af bS (af bS ak)))) (Za (a8 V hr T.aZ (ae (qv 0) (ae ah au)))))) au))))))
 (ag (aC 12 b9.nd (k6 (aH (mw (by rfl))) (Za (a8 V hr T.aZ (ae (qv 0) (ae ah au))))))
 (ai (aQ (ax (af (Zb (qv 12)) (af (Zb (qv 11)) (af (a8 je hr T.lP (ae (qv 0) (ae (qv 1) (ae (qv 2) (ae (qv 3) (ae (qv 4) au)))))) ak))))))))
 aT)
 (ag (bc (QPW.pt (rB (Cn (qv 9) ah) (mj (cj (yX hu U) uO (bz _) (qv 2) (Za (aH ak))))))
 (ai (aQ (a8 Rm hr T.JR (ae (qv 0) (ae (qv 1) (ae (qv 2) (ae (qv 3) (ae (qv 4) au))))))))
 aT)
 (ag (bc (QPW.pt (rB (cf hu (qv 9) ah) (mj (cj (yX hu U) uO (bz _) (qv 2) (Za (aH ak))))))
 (ag (iN (g:=(Tg.tp [13,14])) (ar (qv 2) (Za (a8 V hr T.aZ (ae (qv 0) (ae (Za (bP T.cD (ae (qv 2) au))) au))))) (ik (bu 13 b9.nd) (bu 14 b9.nd)))
 (ai (aQ (ax (af aA (af (Zb (qv 10)) (af (Zb (qv 13)) (af (a8 je hr T.lP (ae (qv 0) (ae (qv 1) (ae (Za (aV (qv 2) (Za (aH (af (ax (af (Zb (qv 10)) (af (Zb (qv 14)) ak))) ak))))) (ae (qv 3) (ae (qv 4) au)))))) ak))))))))
 aT)
 (ag (bc (cf hu (qv 9) ah)
 (ag (aC 15 b9.nd (a8 V hr T.aZ (ae (qv 0) (ae (Za (bP T.cD (ae (qv 6) au))) au))))
 (ag (aC 16 b9.nd (a8 (CL T) hr T.tL (ae (qv 0) (ae (qv 2) (ae (Za (bM U (d9 (ar (ar (qv 6) (qv 15)) ah)) (N':=["_law_param"]) (.own U .nil) (bQ (g:=(Tg.nm 0)) (λ_ _ _ _ _=>((dO 0),(Zb (ar (qv 0) ah))))))) au)))))
 (ai (bc (cj pX lV (bz _) (qv 16) (Za cX))
 (ai (aQ (ax (af aA (af (Zb (qv 10)) (af (Zb (ar (ar (qv 6) (qv 15)) ah)) (af (Zb (qv 16)) (af (a8 je hr T.lP (ae (qv 0) (ae (qv 1) (ae (Za (aV (qv 2) (Za (aH (af (ax (af (Zb (qv 10)) (af (Zb (ar (ar (qv 6) (qv 15)) ah)) ak))) ak))))) (ae (qv 3) (ae (qv 4) au)))))) ak))))))))
 aT))))
 aT)
 (ag (iN (g:=(Tg.tp [17,18])) (ar (qv 5) (Za (a8 V hr T.aZ (ae (qv 0) (ae (Za (bP T.cD (ae (qv 5) au))) au))))) (ik (bu 17 b9.nd) (bu 18 b9.nd)))
 (ag (iN (g:=(Tg.tp [19,20])) (ar (qv 18) (Za (a8 V hr T.aZ (ae (qv 0) (ae (Za (bP T.cD (ae (qv 18) au))) au))))) (ik (bu 19 b9.nd) (bu 20 b9.nd)))
 (ag (aC 16 b9.nd (a8 (CL T) hr T.tL (ae (qv 0) (ae (qv 2) (ae (qv 20) au)))))
 (ag (bc (cj rY lX (bz _) (qv 16) (Za cX))
 (ai (aQ (a8 (HY T) hr T.x8 (ae (qv 0) (ae (qv 1) (ae (qv 2) (ae (qv 8) (ae (qv 3) au))))))))
 aT)
 (ai (aQ (ax (af aA (af (Zb (qv 10)) (af (Zb (qv 19)) (af (Zb (qv 16)) (af (a8 je hr T.lP (ae (qv 0) (ae (qv 1) (ae (Za (aV (qv 2) (Za (aH (af (ax (af (Zb (qv 10)) (af (Zb (qv 17)) ak))) ak))))) (ae (qv 3) (ae (qv 4) au)))))) ak))))))))))))))))))))))),λts Q hh=>?_)
   let(ks,hs,ws,sc,f,h,u,U,W,hf,S,hl,aP,hq):=hh;let ef:atI (hs.map tH) (f:Int)=Z (tH h):=cH (by rw[j5,hf];rfl)
   let hE:pW [.df,tW ks hs ws,.l (sc.map tP),.s h.2.2,.i f] Q:=(ks,hs,ws,sc,f,h,U,W,hf,S,λn b hn hb dd=>hq n b (xZ hn (FT _)) hb (dd.mono (by lia)))
   let aN:((sc.map tP).length:Int)=sc.length:=by rw[ej]
   let wl:=W.wl;let av:sc.length<ws.length:=by lia
   let ex:atI (ws.map L2.T.s) ((sc.map tP).length:Int)=Z (.s ws[sc.length]):=by rw[ej];exact gq (eO av)
   let hx:ws[sc.length]?=Z ws[sc.length]:=eO av;let fx:ws[sc.length] ∉ sc.map (·.1):=S.fresh W.wn hx
   generalize ws[sc.length]=x at ex fx hx
   refine(_,U,_,ef,_,U,U,by decide,by decide,λfm f0 f1=>(U,λr a5=>bH (λ_=>hE) (λh1=>(U,bH (λ_=>hE) (λ_=>bH (λ_=>hE) (λh3=>?_))))))
   let h1:¬ r<1:=λz=>h1 (decide_eq_true z)
   let h3:sc.length<=16:=by
    let h3:¬(16:Int)<((sc.map tP).length:Int):=λz=>h3 (decide_eq_true z)
    rw[aN]at h3
    lia
   let u1:u.toNat=(u - 1).toNat+1:=by lia
   let uN:(u - 1).toNat<N:=by lia
   let s1:=Ar (u - 1).toNat;rw[<- u1]at s1;let go:∀{k:Str},k∈ks.map (·.1)->∀{Q':L2.T->Prop},(∀n b,n<=sz (u - 1).toNat->Snd ks hs h.2.2 n (sc ++ [(x,k)]) b->Dep (3*(u - 1).toNat+2) b->Q' b)->k8 N [.df,tW ks hs ws,.l (sc.map tP ++ [tP (x,k)]),.i f,.rm (u - 1)] Q':=λ{k} hk {Q'} hQ =>
    (ks,hs,ws,sc ++ [(x,k)],f,h,u - 1,by rw[zY];rfl,W,hf,S.snoc hx (by lia) hk,by rw[pL];simp;lia,uN,hQ)
   let C:DO N (sz (u - 1).toNat) (3*(u - 1).toNat+2) ks hs ws sc f h (u - 1) x Q:=(W,S.kd,h3,fx,hE,go,λn b hn hb dd=>hq n b (by lia) hb (dd.mono (by lia)),by lia)
   refine(by decide,_,ex,U,bH (λ_=>?_) (λ_=>?_))
   ·refine(by decide,by decide,λr2 aK aF=>?_)
    let(v2,a3,a4):=Oc (x:=3) (y:=9) (z:=1000) aK aF;refine(_,a3,by lia,by lia,λc c0 c1=>(by decide,by decide,λr4 aD az=>?_))
    let(wd,ew,hw):=SK aD az;refine(_,ew,U,U,ks,hs,ws,sc,f,h,u - 1,U,W,hf,S,hl,uN,λn b hn hb dd=>hq (n+1) _ (by lia) (.vq (hw,by lia,by lia) hb) ((EW dd).mono (by lia)))
   ·refine(λrest=>bH (λ_=>bH (λq=>?_) (λ_=>rest)) (λ_=>rest)) ?_
    ·let Vg:sc ≠ []:=λz=>by rw[z]at q;exact absurd q (by decide)
     exact(ks,hs,ws,sc,f,h,u - 1,U,W,hf,S,by lia,Vg,uN,λn b hn hb dd=>hq n b (by rw[u1];exact hn) hb (dd.mono (by lia)))
    refine(λrest=>(U,bH (λ_=>bH (λq=>KL C (λz=>by rw[z]at q;exact absurd q (by decide)) _ _ _ _ _ _ _ _ _ _) (λ_=>rest)) (λ_=>rest))) ?_
    exact KO C _ _ _ _ _ _ _ _ _ _
theorem Bk(T:Txt K mg a):bb P w K mg base CX0 66 a.kx a.vn [Zf,ZR,Zi] (spQ K Ej):=by
 let aM:=i7 (@fR P w K mg base a T);refine T.vF.F.okQ bX (λts Q h=>?_) (λ_ _ _ _ _ _ hr=>?_)
 ·let(m,u,U,_):=h;rfl
 ·let hu:=cC hr;refine(_,_,((ag (aC 3 bX.nd (a8 (HR T) hr T.DJ (ae (qv 0) (ae ah au))))
 (ag (aC 4 bX.nd (a8 (HW T) hr T.DL (ae (qv 0) (ae (qv 3) au))))
 (ag (aC 5 bX.nd (aH ak))
 (ag (cw (g:=(Tg.nm 6)) PassesOwn.never U (fY U T.fS (ae (Za (aV ah (Za (a8 aM hr T.aZ (ae (qv 0) (ae (qv 1) au)))))) au)) (bu 6 bX.nd)
 (ag (aC 7 bX.nd (k6 (aH (af bS (af bS (af bS (af bS (af bS (af bS (af bS ak)))))))) (Za (a8 aM hr T.aZ (ae (qv 0) (ae ah au))))))
 (ag (ko (i:=8) bX.nd U (Or.inl U) U (nL U T.fS (ae (qv 7) au)) (N':=["_law_k",Zt,Zs,Zf]) (.own U (.got (i:=3) U U (.inl U) (.got (i:=4) U U (.inl U) (.got (i:=0) U U (.inl U) .nil)))) (bQ (g:=(Tg.nm 0)) (λ_ _ _ _ _=>((dO 0),(ax (af (Zb (ar (qv 1) (qv 0))) (af (Zb (ar (ar (qv 2) (Za (a8 aM hr T.aZ (ae (qv 3) (ae (Za (bP T.cD (ae (qv 2) au))) au))))) ah)) ak)))))))
 (ai (bV (i:=5) (pv 5) (ax (af (Zb (ar (qv 3) (Za (rD ah (qv 6))))) (af (aY (bW U) bU (by rfl) T.cT (by kernel_rfl) (ae (qv 8) au)) (af (Zb (ar (ar (qv 4) (Za (a8 aM hr T.aZ (ae (qv 0) (ae (Za (bP T.cD (ae (qv 4) au))) au))))) ah)) ak)))))))))
 (ag (aC 9 bX.nd (aH ak))
 (ag (cw (g:=(Tg.tp [6,10])) PassesOwn.never U (GO (i:=5) U T.jY (by kernel_rfl) (pv 5)) (ik (bu 6 bX.nd) (bu 10 bX.nd))
 (ag (aC 11 bX.nd (a8 (My T 31) hr T.lP (ae (qv 0) (ae (Lf (ae (qv 4) (ae (qv 5) (ae (qv 3) au)))) (ae (Za (aY (vv U) uM (by rfl) T.lH (by kernel_rfl) (ae (ar (qv 10) ah) au))) (ae (qv 6) (ae (Za (Lg (aH (af (Zb (qv 2)) ak)))) au)))))))
 (ai (bV (i:=9) (pv 9) (aV (qv 10) (Za (ax (af (Zb (qv 11)) ak))))))))
 (ai (aQ (ax (af (Zb (qv 4)) (af (aY (bW U) bU (by rfl) T.cT (by kernel_rfl) (ae (qv 9) au)) ak)))))))))))),λts Q hh=>?_)
  let(mo,u,U,ct,cq,u0,cc,hq):=hh;refine(40,U,by decide,by decide,λws hl aF _=>?_)
  let hl:ws.length=40:=by lia
  refine(ws,U,hl,aF,λks a7 _=>?_)
  let gk:=a7.p;let k1:=gk.k1;let k2:=gk.k2;let lk:((ks.map tK).length:Int)=ks.length:=by rw[ej]
  refine(by lia,by lia,λn n0 n1=>?_)
  refine(by lia,by lia,λi q=>Y5 λhs L o5 o6 o7=>q=[.r .df,.r (.i mo),.r (.i u),.o (.l (ws.map .s)),.o (tKs ks),.o (.l L),o5,o6,o7,.no,.no,.no]/\L=hs.map tH/\vD ks ws 1 hs i,([],_,_,_,_,U,U,(U,U,b6)),?_,?_)
  ·rintro i x q hx ⟨hs,L,o5,o6,o7,rfl,rfl,hH⟩
   let(U,hi):=iM hx;refine(_,U,by decide,by decide,λr2 bK bG=>?_)
   let(m,hm,em):=jF (xs:=[1,1,2,2,0,3,4]) (f:=L2.T.i) bK bG;let hm:m=1\/m=1\/m=2\/m=2\/m=0\/m=3\/m=4:=by simpa using hm
   refine(_,em,by lia,by lia,aG (by rw[d6];lia),λp ys=>∃ps:Sc,ys=ps.map tP/\ps.map (·.1)=ws.take p/\∀q∈ps,q.2∈ks.map (·.1),([],U,U,b6),?_,?_)
   ·rintro p y ys hy ⟨ps,rfl,az,aN⟩
    let(U,hp):=iM hy;let a6:p<ws.length:=by lia
    let ew:atI (ws.map L2.T.s) (0+((p:Nat):Int))=Z (.s ws[p]):=by rw[WO];exact gq (by simp[a6])
    refine(_,U,_,ew,U,by rw[lk];lia,by rw[lk];lia,λr3 bx a4=>?_)
    rw[lk]at a4;let(kd,aP,ek):=jF (f:=tK) bx a4;refine(_,ek,_,U,U,ps ++ [(ws[p],kd.1)],by simp[tP],?_,λq b0=>?_)
    ·rw[zY,az];exact take_one (by simp[a6])
    ·obtain z|z:=p7.mp b0
     ·exact aN q z
     ·rw[g5.mp z];exact tE.mpr (kd,aP,U)
   ·rintro ys ⟨ps,rfl,az,aN⟩
    rw[d6]at az;let bL:ps.length=m.toNat:=by
     have:=congrArg V3 az
     rw[ej,z7]at this
     lia
    let a5:kE 1 i<ws.length:=by unfold kE;split <;> lia
    let ei:atI (ws.map L2.T.s) (39 - (0+(i:Int)))=Z (.s ws[kE 1 i]):=by
     let e:39 - (0+(i:Int))=((kE 1 i:Nat):Int):=by unfold kE;rw[if_neg (by decide)];lia
     rw[e];exact gq (by simp[a5])
    refine(aG (by rw[ej,hH.ln];lia),_,ei,U,bF jM _,by rw[lk];lia,by rw[lk];lia,λr4 bt a3=>?_)
    rw[lk]at a3;let(kd,aP,ek):=jF (f:=tK) bt a3;refine(_,ek,_,U,U,hs ++ [(ws[kE 1 i],ps,kd.1)],_,_,_,_,U,by simp[tH],hH.snoc (eO a5) (by show ps.length<=4;lia,aN,by show ps.map (·.1)=ws.take ps.length;rw[bL];exact az,tE.mpr (kd,aP,U)))
  ·rintro q ⟨hs,L,o5,o6,o7,rfl,rfl,hH⟩
   rw[d6]at hH;let W:Wld ks hs ws:=(gk,hl,aF,by rw[hH.ln];lia,by rw[hH.ln];lia,hH.nd hl aF (by lia),hH.hp)
   refine(λi q=>Y5 λfs L o5 o9 aK=>q=[.r .df,.r (.i mo),.r (.i u),.o (.l (ws.map .s)),.o (tKs ks),.r (.l (hs.map tH)),o5,o6,o7,.o (.l L),o9,aK]/\L=fs.map tF/\fs.map (·.1)=hs.take i/\∀f∈fs,Snd ks hs f.1.2.2 f.2.2 f.1.2.1 f.2.1/\f.2.2<=50000/\Dep 92 f.2.1,([],_,_,_,_,U,U,U,b6),?_,?_)
   ·rintro i x q hx ⟨fs,L,o5,o9,aK,rfl,rfl,V,av⟩
    let(y,hy,U):=jP hx;rw[j5]at hy;let(hd,aD,U):=kg.mp hy;let M6:=px aD;let(q1,q2,q3,q4):=W.hp hd M6;let cv:fs.length=i:=by
     have:=congrArg V3 V
     rw[ej,z7]at this
     have:=(kf.mp aD).1
     lia
    let lhs:=W.h8;let cA:=(kf.mp aD).1;refine(_,U,_,U,bF jM _,U,ks,hs,ws,hd.2.1,i,hd,u,U,W,aD,(q3,by lia,q2,m9 _,by rw[tI]),by lia,by lia,λn b hn hb dd=>?_)
    refine(aG (by rw[ej];lia),hb.im,bR (by show 4<=10000;decide),Te hd,(by show(b.im&&O)=O;rw[hb.im];rfl),fs ++ [(hd,b,n)],_,_,_,_,U,by simp[tF],?_,λf' b8=>?_)
    ·rw[zY,V,wh,aD];rfl
    ·obtain z|z:=p7.mp b8
     ·exact av f' z
     ·rw[g5.mp z];exact(hb,xZ hn (xZ (Kb (by lia)) RJ),dd.mono (by lia))
   ·rintro q ⟨fs,L,o5,o9,aK,rfl,rfl,V,av⟩
    rw[dY,ej,tI]at V;let b7:L2.T.ims (fs.map tF)=true:=by
     let go:∀(l:List Fn),(∀f∈l,f.2.1.im=O)->L2.T.ims (l.map tF)=true:=by
      intro l
      induction l with
      |nil=>intro _;rfl
      |cons f r ih =>
       intro h;show((O&&(L2.T.ims (f.1.2.1.map tP)&&(O&&(f.2.1.im&&O))))&&L2.T.ims (r.map tF))=O;rw[bF jM,h f jf,ih λf hf=>h f (j0 _ hf)];rfl
     exact go fs λf hf=>(av f hf).1.im
    refine(nY ks,b7,hq ks fs (gk,?_,?_,λf hf=>?_,λf hf=>?_,λf hf=>(av f hf).2.2) a7 ?_)
    ·have:=congrArg V3 V
     rw[ej]at this
     have:=W.h8
     lia
    ·have:fs.map (·.1.1)=(fs.map (·.1)).map (·.1):=by rw[Qo];rfl
     rw[this,V];exact W.hn
    ·let hm:f.1∈hs:=by rw[<- V];exact tE.mpr (f,hf,U)
     let(q1,q2,q3,q4):=W.hp f.1 hm;exact(q1,q2,by rw[q3];exact aF.sublist (Wv _ _),q4)
    ·rw[V];exact((av f hf).1,(av f hf).2.1)
    ·intro z;rw[z]at V;let h1:=W.h1;rw[<- V]at h1;simp at h1
theorem CK(T:Txt K mg a):bb P w K mg base CX0 1 a.dX a.jT [Ze,Zp,"above","arm"] (Av a.bx [Zp,"above","arm"]):=by
 refine Fun.ok T.gQ vV (λvs H Q E h=>?_) λcdv A outer s H vs Q E hr h=>?_
 ·let(x,dx,args,U,hl,_):=h;show args.length+1=4;rw[hl];rfl
 ·let(x,dx,args,U,hl,hx,hq):=h;obtain⟨v1,v2,g,rfl⟩:∃v1 v2 g,args=[v1,v2,g]:=by
   cases args with
   |nil=>cases hl
   |cons v1 r=>cases r with
    |nil=>cases hl
    |cons v2 r=>cases r with
     |nil=>cases hl
     |cons g r=>cases r with
      |nil=>exact(v1,v2,g,U)
      |cons=>cases hl
  refine(_,bY (wD (pv 0) (pv 1) U) (bY (wD (pv 0) (pv 2) U) (gH (wD (pv 0) (pv 3) U))),(_,U,_,U,x,a.bx,dx,_,U,hx,T.mV,T.g6,(by show 0<1000;decide),(_,U,_,U,x,a.bx,dx,_,U,aw,T.mV,T.um,(by show 1<1000;decide),(_,U,_,U,x,a.bx,dx,_,U,aw,T.mV,T.zb,(by show 2<1000;decide),?_))))
  rw[pP,pP];exact hq
theorem Ex(T:Txt K mg a):bb P w K mg base CX0 1 a.mQ a.zM [Zs] (spQ K Hj):=by
 refine T.Ad.F.okQ dU (λts Q h=>?_) (λ_ _ _ _ _ _ hr=>?_)
 ·let(ks,U,_):=h;rfl
 ·let hu:=cC hr;refine(_,_,((ag (aC 1 dU.nd Lo)
 (ag (cw (g:=(Tg.nm 2)) PassesOwn.never U (fY U T.fS (ae (Za (aV (Za (bP T.cD (ae (qv 0) au))) ah)) au)) (bu 2 dU.nd)
 (ai (cw (g:=(Tg.tp [3,4])) PassesOwn.never U (gX (Zb (qv 0))) (ik (bu 3 dU.nd) (bu 4 dU.nd))
 (ai (cw (g:=(Tg.tp [5,6])) PassesOwn.never U (gX (Zb (qv 4))) (ik (bu 5 dU.nd) (bu 6 dU.nd))
 (ai (bc (cK (Za (bD (oq U U) vS (by rfl) T.Jv (by kernel_rfl) (ae (Za (bM U (d9 (qv 6)) (N':=[ZA,Zy]) (.own U (.got (i:=1) U U (.inl U) .nil)) (bQ (g:=(Tg.nm 0)) (λ_ _ _ _ _=>((dO 0),(iR (HQ hu) Ce U (qv 0) (qv 1))))))) au))))
 (ag (aC 7 dU.nd (aV ah (Za (bD (kA U U) pR (by rfl) T.Du (by kernel_rfl) (ae (Za (bM U (d9 (qv 6)) (N':=[ZA,Zy]) (.own U (.got (i:=1) U U (.inl U) .nil)) (bQ (g:=(Tg.nm 0)) (λ_ _ _ _ _=>((dO 0),(Zb (rG (qv 1) (qv 0)))))))) au)))))
 (ai (GJ (i:=1) hu (pv 1) (qv 3) (Za (bD (E5 U) qT (by rfl) T.T7 (by kernel_rfl) (ae (Lm hu (qv 1) (qv 3) (qv 7)) (ae (qv 7) au)))))))
 aT)))))))
 (ai (kn (i:=1) (pv 1)))))),λts Q h=>?_)
  let(ks,U,gk,hq):=h
  have:=gk.k1
  have:=gk.k2
  refine(?_,?_,λi q=>(Y7 λds o2 o3 o4 o5 o6 o7=>q=[.r (tKs ks),.o (dT ds),o2,o3,o4,o5,o6,o7]/\jt ks ds/\(1<=i->∀kd∈ks,∀m∈kd.2,Zd ds kd.1 m)),([],_,_,_,_,_,_,U,jt.nil ks,λz=>absurd z (by lia)),?_,?_)
  ·rw[ej];lia
  ·rw[ej];lia
  ·rintro i x q hx ⟨ds,o2,o3,o4,o5,o6,o7,rfl,hI,hZ⟩
   let(U,hi):=iM hx;refine(_,U,?_);refine(nY ks,λj q=>(Y7 λds o2 o3 o4 o5 o6 o7=>q=[.r (tKs ks),.o (dT ds),o2,o3,o4,o5,o6,o7]/\jt ks ds/\∀j' kd,j'<j->ks[j']?=Z kd->∀m∈kd.2,Zd ds kd.1 m),(ds,_,_,_,_,_,_,U,hI,λ_ _ z=>absurd z (by lia)),?_,?_)
   ·rintro j x q hx ⟨ds,o2,o3,o4,o5,o6,o7,rfl,hI,hZ⟩
    rw[j5]at hx;let(kd,hk,U):=kg.mp hx;refine(_,U,?_);refine(nX _,λl q=>(Y5 λds o2 o5 o6 o7=>q=[.r (tKs ks),.o (dT ds),o2,.r (.s kd.1),.r (tMs kd.2),o5,o6,o7]/\jt ks ds/\(∀j' kd,j'<j->ks[j']?=Z kd->∀m∈kd.2,Zd ds kd.1 m)/\∀l' m,l'<l->kd.2[l']?=Z m->Zd ds kd.1 m),(ds,_,_,_,_,U,hI,hZ,λ_ _ z=>absurd z (by lia)),?_,?_)
    ·rintro l x q hx ⟨ds,o2,o5,o6,o7,rfl,hI,hZ,hL⟩
     rw[j5]at hx;let(m,hm,U):=kg.mp hx;refine(_,U,?_);let f4:=gk.fl kd (px hk) m (px hm);refine(aG (by rw[ej];lia),λi ys=>ys=(m.2.take i).map λf=>.b (lk ds f).isSome,U,?_,?_)
     ·rintro i x ys hx rfl
      rw[j5]at hx;let(f,hf,U):=kg.mp hx;refine(_,U,?_);show _ ++ [L2.T.b (bI (ds.map dEn) (.inr f)).isSome]=_;rw[gI,<- take_one hf,zY,WK];rfl
     ·rintro ys rfl
      rw[ej,tI];refine(_,xJ _ _,?_);refine bH (λg1=>?_) (λg1=>?_)
      ·let g1:∀f∈m.2,(lk ds f).isSome=true:=by simpa using g1
       refine(aG (by rw[ej];lia),λi ys=>ys=(m.2.take i).map λf=>.i ((lk ds f).getD 0),U,?_,?_)
       ·rintro i x ys hx rfl
        rw[j5]at hx;let(f,hf,U):=kg.mp hx;let(u,aD):=VY.mp (g1 f (px hf));refine(_,U,.i u,by rw[gI,aD];rfl,U,?_)
        show _ ++ [L2.T.i u]=_;rw[<- take_one hf,zY,Xo,aD];rfl
       ·rintro ys rfl
        rw[ej,tI];refine(_,ins_map _ _,?_);let lI:=hI.len gk;refine O2 ?_;dsimp only[dZ.seq];refine Ed (ds:=ds) (k:=kd.1) (n:=1+cJ ds m.2) (v:=min ((lk ds kd.1).getD (1+cJ ds m.2)) (1+cJ ds m.2)) U U U (aG (by lia)) ?_ ?_
        ·exact P0 _ _
        refine(_,_,_,_,_,U,hI.put (tE.mpr (kd,px hk,U)) (by rw[Ih gk.nd hk];exact px hm) f4.1 g1 U,λj' az hj av m' V=>(hZ j' az hj av m' V).put _ _,λl' m' aF V=>?_)
        ·by_cases e:l'=l
         ·intro _;rw[sk,if_pos rfl];rfl
         ·exact(hL l' m' (by lia) V).put _ _
      ·refine(ds,_,_,_,_,U,hI,hZ,λl' m' aF V=>?_)
       by_cases e:l'=l
       ·subst e;rw[hm]at V;cases V;intro e0;rw[e0]at g1;exact absurd U g1
       ·exact hL l' m' (by lia) V
    ·rintro q ⟨ds,o2,o5,o6,o7,rfl,hI,hZ,hL⟩
     refine(ds,_,_,_,_,_,_,U,hI,λj' az hj av m hm=>?_)
     by_cases e:j'=j
     ·subst e;rw[hk]at av;cases av;let(l,hl):=WM hm;exact hL l m (by have:=(kf.mp hl).1;rw[ej];lia) hl
     ·exact hZ j' az (by lia) av m hm
   ·rintro q ⟨ds,o2,o3,o4,o5,o6,o7,rfl,hI,hZ⟩
    refine(ds,_,_,_,_,_,_,U,hI,λ_ kd hk m hm=>?_)
    let(l,hl):=WM hk;exact hZ l kd (by have:=(kf.mp hl).1;rw[ej];lia) hl m hm
  ·rintro q ⟨ds,o2,o3,o4,o5,o6,o7,rfl,hI,hZ⟩
   rw[d6]at hZ;exact hq ds hI (hZ (by lia))
theorem HS(T:Txt K mg a)(n:Nat):bb P w K mg base CX0 (n+2) a.qg a.Dd [Zf,Zs,Zz,Zn,Zi] (spQ K (LD n)):=by
 induction n with
 |zero =>
  refine never λts Q hz=>?_
  let(ks,ds,k,room,v,_,_,hI,hv,h1,h2,_):=hz
  have:=(hI.bd _ (jH hv)).1
  simp only at this
  lia
 |succ n xW =>
  refine T.x4.F.okQ cW (λts Q h=>?_) (λ_ _ _ _ _ _ hr=>?_)
  ·let(ks,ds,k,room,v,U,_):=h;rfl
  ·let hu:=cC hr;refine(_,_,((ag (aC 5 cW.nd (aH ak))
 (ag (cw (g:=(Tg.tp [6,7])) PassesOwn.never U (gX (Zb (rG (Za (aY (jc U) kW (by rfl) T.jZ (by kernel_rfl) (ae (qv 1) au))) (qv 3)))) (ik (bu 6 cW.nd) (bu 7 cW.nd))
 (ai (bc (cK (Za (bD (oq U U) vS (by rfl) T.Jv (by kernel_rfl) (ae (Za (bM U (d9 (qv 7)) (N':=[ZA,Zz]) (.own U (.got (i:=2) U U (.inl U) .nil)) (bQ (g:=(Tg.nm 0)) (λ_ _ _ _ _=>((dO 0),(iR (HQ hu) Ce U (qv 0) (qv 1))))))) au))))
 (ai (bc (R5 (Za (aV ah (Za (bD (kA U U) pR (by rfl) T.Du (by kernel_rfl) (ae (Za (bM U (d9 (qv 7)) (N':=[ZA,Zz]) (.own U (.got (i:=2) U U (.inl U) .nil)) (bQ (g:=(Tg.nm 0)) (λ_ _ _ _ _=>((dO 0),(Zb (rG (qv 1) (qv 0)))))))) au))))) (qv 4))
 (ai (bV (i:=5) (pv 5) (ax (af (Zb (qv 6)) (af (Zb (qv 7)) ak)))))
 aT))
 aT)))
 (ag (iN (g:=(Tg.tp [6,7])) (ar (qv 5) (Za (bD (iC U) qT (by rfl) T.vB (by kernel_rfl) (ae (Za (a8 (i7 (fR T)) hr T.aZ (ae (qv 0) (ae (Za (bP T.cD (ae (qv 5) au))) au)))) (ae (Za (a8 (i7 (fR T)) hr T.aZ (ae (qv 0) (ae (Za (bP T.cD (ae (qv 5) au))) au)))) au))))) (ik (bu 6 cW.nd) (bu 7 cW.nd)))
 (ag (aC 8 cW.nd (rD (Za (rD (qv 4) ah)) (Za (bD (kA U U) pR (by rfl) T.Du (by kernel_rfl) (ae (Za (bM U (d9 (qv 7)) (N':=[ZA,Zz]) (.own U (.got (i:=2) U U (.inl U) .nil)) (bQ (g:=(Tg.nm 0)) (λ_ _ _ _ _=>((dO 0),(Zb (rG (qv 1) (qv 0)))))))) au)))))
 (ag (aC 9 cW.nd (aH ak))
 (ag (cw (g:=(Tg.nm 10)) PassesOwn.never U (gX (Zb (qv 7))) (bu 10 cW.nd)
 (ag (aC 11 cW.nd (a8 (i7 (fR T)) hr T.aZ (ae (qv 0) (ae (Za (aV (qv 8) ah)) au))))
 (ag (aC 8 cW.nd (rD (qv 8) (qv 11)))
 (ai (bV (i:=9) (pv 9) (a8 xW hr T.x4 (ae (qv 0) (ae (qv 1) (ae (qv 2) (ae (qv 10) (ae (Za (aV (rG (qv 2) (qv 10)) (qv 11))) au)))))))))))
 (ai (aQ (ax (af (Zb (qv 6)) (af (aY (bW U) bU (by rfl) T.cT (by kernel_rfl) (ae (qv 9) au)) ak)))))))))))),λts Q h=>?_)
   let(ks,ds,k,room,v,U,gk,hI,hv,a6,bt,bx,hq):=h;let hk:k∈ks.map (·.1):=hI.sub _ (jH hv);refine(bF vh ks,_,mG ks,_,nU gk.nd hk,nX _,λi q=>P3 λo6 o7 L=>q=[.r .df,.r (tKs ks),.r (dT ds),.r (.s k),.r (.i room),.o (.l L),o6,o7,.no,.no,.no,.no]/\L=(((fA ks k).take i).filter (gg ds room)).map tM,(_,_,_,U,U),?_,?_)
   ·rintro i x q hx ⟨o6,o7,L,rfl,rfl⟩
    rw[j5]at hx;let(m,hm,U):=kg.mp hx;refine(_,U,?_);let mm:=px hm;let(f4,ff,m6):=gk.ma mm;let sn:((fA ks k).take (i+1)).filter (gg ds room)=((fA ks k).take i).filter (gg ds room)++if gg ds room m=O then [m]else []:=by
     rw[uK hm,List.filter_append]
     congr 1
     by_cases e:gg ds room m=O
     ·rw[if_pos e,List.filter_cons_of_pos e];rfl
     ·rw[if_neg e,List.filter_cons_of_neg e];rfl
    refine(aG (by rw[ej];lia),λi ys=>ys=(m.2.take i).map λf=>.b (lk ds f).isSome,U,?_,?_)
    ·rintro i x ys hx rfl
     rw[j5]at hx;let(f,hf,U):=kg.mp hx;refine(_,U,?_);show _ ++ [L2.T.b (bI (ds.map dEn) (.inr f)).isSome]=_;rw[gI,<- take_one hf,zY,WK];rfl
    ·rintro ys rfl
     rw[ej,tI];refine(_,xJ _ _,?_);refine bH (λg1=>?_) (λg1=>?_)
     ·let g0:∀f∈m.2,(lk ds f).isSome=true:=by simpa using g1
      refine(aG (by rw[ej];lia),λi ys=>ys=(m.2.take i).map λf=>.i ((lk ds f).getD 0),U,?_,?_)
      ·rintro i x ys hx rfl
       rw[j5]at hx;let(f,hf,U):=kg.mp hx;let(u,V):=VY.mp (g0 f (px hf));refine(_,U,.i u,by rw[gI,V];rfl,U,?_)
       show _ ++ [L2.T.i u]=_;rw[<- take_one hf,zY,Xo,V];rfl
      ·rintro ys rfl
       rw[ej,tI];refine(_,ins_map _ _,?_);refine bH (λg2=>?_) (λg2=>?_)
       ·let g2:1+cJ ds m.2<=room:=of_decide_eq_true g2;refine(?_,U,?_,_,_,_,U,?_)
        ·exact aG (by rw[ej];exact xZ (XQ _ _) (by rw[z7];lia))
        ·exact bF (λ_=>rfl) m.2
        ·rw[sn,if_pos (by unfold gg;rw[g1,decide_eq_true g2];rfl),zY]
         rfl
       ·let g2:¬ 1+cJ ds m.2<=room:=λz=>g2 (decide_eq_true z)
        refine(_,_,_,U,?_);rw[sn,if_neg (by unfold gg;rw[decide_eq_false g2,WX];exact qE),tG]
     ·refine(_,_,_,U,?_);rw[sn,if_neg (by unfold gg;intro z;rw[tD]at z;exact g1 z.1),tG]
   ·rintro q ⟨o6,o7,L,rfl,rfl⟩
    rw[ej,tI];let(m0,aD,aF,a7):=hI.wt k v hv;let lm:=(gk.ma aD).2.2;let p0:m0∈(fA ks k).filter (gg ds room):=Xd.mpr (aD,by unfold gg;rw[decide_eq_true (by lia),X1];simpa using aF)
    let l0:=XA p0;let l1:((fA ks k).filter (gg ds room)).length<=6:=xZ (XQ _ _) lm;let l2:(((fA ks k).filter (gg ds room)).map tM).length=((fA ks k).filter (gg ds room)).length:=ej _;refine(by lia,by lia,λr1 a5 a4=>(by lia,by lia,λr2 a3 aP=>?_))
    let(x,ex,hx):=BJ (xs:=((fA ks k).filter (gg ds room)).map tM) (i:=if r2 > r1 then r2 else r1) (by split <;> lia) (by split <;> lia)
    let(m,hm,U):=tE.mp hx;let(mm,hp):=Xd.mp hm;let(f4,ff,_):=gk.ma mm;unfold gg at hp;rw[tD]at hp;let g0:∀f∈m.2,(lk ds f).isSome=true:=by simpa using hp.1
    let g2:1+cJ ds m.2<=room:=of_decide_eq_true hp.2;refine(_,ex,C2 m,_,U,?_);refine(aG (by rw[ej];lia),λi ys=>ys=(m.2.take i).map λf=>.i ((lk ds f).getD 0),U,?_,?_)
    ·rintro i x ys hx rfl
     rw[j5]at hx;let(f,hf,U):=kg.mp hx;let(u,V):=VY.mp (g0 f (px hf));refine(_,U,.i u,by rw[gI,V];rfl,U,?_)
     show _ ++ [L2.T.i u]=_;rw[<- take_one hf,zY,Xo,V];rfl
    ·rintro ys rfl
     rw[ej,tI];refine(_,ins_map _ _,?_);let aN:=hI.sum m.2;refine(bF (λ_=>rfl) m.2,λi q=>Y6 λsp ps o5 az av L=>q=[.r .df,.r (tKs ks),.r (dT ds),.r (.s k),.r (.i room),o5,.r (.s m.1),.r (.t (m.2.map .s)),.o (.i sp),.o (.l L),az,av]/\L=ps/\ps.length=i/\0<=sp/\(∀(j:Nat) f p,m.2[j]?=Z f->ps[j]?=Z p->isN ks n f p=O)/\(∀p∈ps,Ok n p)/\((ps.map (wt n)).sum:Int)+sp<=cJ ds (m.2.take i)+(room - 1 - cJ ds m.2),(room - 1 - cJ ds m.2,[],_,_,_,_,U,U,U,by lia,λj f p _ h=>by simp at h,by simp,by simp[cJ]),?_,?_)
     ·rintro i x q hx ⟨sp,ps,o5,az,av,L,rfl,rfl,hl,s0,hN,hO,hS⟩
      rw[j5]at hx;let(f,hf,U):=kg.mp hx;let(u,V):=VY.mp (g0 f (px hf));let hi:=(kf.mp hf).1;let st:=DW (ds:=ds) hf;rw[V]at st;let aM:=oB hI m.2 (i+1);let aK:=hI.sum (m.2.take i);simp only[Yt]at st;let u1:=(hI.bd _ (jH V)).1;simp only at u1;refine(_,U,by lia,by lia,λmore h0 h1=>(aG (by lia),.i u,by rw[gI,V];rfl,?_))
      refine(ks,ds,f,u+more,u,U,gk,hI,V,by lia,by lia,by lia,λt t1 t2 t3=>?_)
      refine(sp - more,L ++ [t],_,_,_,_,U,U,by simp[hl],by lia,λj f' p hj hp=>?_,λp hp=>?_,?_)
      ·by_cases e:j=i
       ·subst e;rw[hf]at hj;cases hj;rw[vr (by lia),hl,WD]at hp
        cases hp;exact t1
       ·by_cases lt:j<i
        ·rw[u4 (by lia)]at hp
         exact hN j f' p hj hp
        ·rw[VX (by simp;lia)]at hp
         cases hp
      ·obtain z|z:=p7.mp hp
       ·exact hO p z
       ·rw[g5.mp z];exact t2
      ·rw[FU]
       lia
     ·rintro q ⟨sp,ps,o5,az,av,L,rfl,rfl,hl,s0,hN,hO,hS⟩
      rw[ej]at hl;rw[ej,tI]at hS;refine(U,cp λp hp=>(hO p hp).im,?_)
      refine hq _ ?_ ?_ ?_
      ·show(match due ks k (.s m.1) L.length with|some fs=>(fs.zip L).all λp=>isN ks n p.1 p.2|none=>ϊ)=O
       rw[hl,Nj gk mm];rw[NM];intro p hp;let(j,hj):=WM hp;rw[NO]at hj;exact hN j _ _ hj.1 hj.2
      ·refine(?_,U,λx y e=>?_,λx ps' e=>?_)
       ·simp[L2.T.im,L2.T.ims,cp λp hp=>(hO p hp).im]
       ·cases e;rfl
       ·cases e;exact(U,by lia,hO)
      ·show((1+(L.map (wt n)).sum:Nat):Int)<=room
       lia
theorem gi(T:Txt K mg a):bb P w K mg base CX0 1 a.dC a.g8 [Ze,"body","between"] (spL K 0 (Pw a.az)):=by
 refine T.fu.okL q5 (λts Q h=>?_) (λ_ _ _ _ _ _ hr=>?_) λts Q h=>?_
 ·let(_,_,_,_,_,_,_,U,_):=h;rfl
 ·refine(_,_,((ag (dG T.aF T.aN (aU (j:=0)) (Zb (qv 1)))
 (ai (wq T.aF T.fJ Bx (aU (j:=0)) (Za (aV ah (qv 2))))))),λts Q t0 a0 h g ha=>?_)
  let(x,f,n,p,ns,b,k,U,q,hq):=h;cases g;cases ha;exact(q,U,by decide,_,U,(U,by decide,n,U,_,U,(_,U,U,hq)))
 ·let(x,f,n,p,ns,b,k,U,_):=h;exact(_,_,U,U)
theorem dr(T:Txt K mg a):bb P w K mg base CX0 2 a.b7 a.dR [Ze,Zj] (spL K 0 (A8 a.az)):=by
 refine T.cI.okL kC (λts Q h=>?_) (λ_ _ _ _ _ _ hr=>?_) λts Q h=>?_
 ·let(_,_,_,_,_,_,_,_,U,_):=h;rfl
 ·let hu:=cC hr;refine(_,_,((ag (K0 hu (bC T.aF T.bJ (aU (j:=0))) (ar (bO (bC T.aF T.aN (aU (j:=0)))) ah) (qv 1))
 (ai (cz T.aF T.gn (gi T) hr.bw T.hJ (aU (j:=0)) (ae (ar (bO (bC T.aF T.aN (aU (j:=0)))) (Za (gY ah))) (ae ah au)))))),λts Q t0 a0 h ht ha=>?_)
  let(x,f,n,ps,ns,v,y,b,U,hv,q,hl,g,e1,V,hq):=h;cases ht;cases ha;let z:=by
   have:=XU V
   exact cn g this
  exact(U,_,U,U,_,U,_,cH e1,zZ hl (by decide),q,hv,_,U,(U,U,U,_,U,b,xN V,(by show(b.im&&(O&&O))=O;rw[z];rfl),a0,f,n,_,_,b,0,U,z,U,U,_,U,(_,U,U,hq)))
 ·let(x,f,n,ps,ns,v,y,b,U,_):=h;exact(_,_,U,U)
theorem fg(T:Txt K mg a):bb P w K mg base CX0 1 a.cM a.fK [Ze,"ending"] (spL K 0 (Ek a.aD)):=by
 refine T.dJ.okL nE (λts Q h=>?_) (λ_ _ _ _ _ _ hr=>?_) λts Q h=>?_
 ·let(_,_,_,_,_,_,_,U,_):=h;rfl
 ·refine(_,_,((ag (dG T.aK T.cY (aU (j:=0)) (Zb (qv 1)))
 (ai (dG T.aK T.bG (aU (j:=0)) (aH ak))))),λts Q t0 a0 h g ha=>?_)
  let(x,fns,frs,c,m,e,v,U,hv,hq):=h;cases g;cases ha;exact(hv,U,by decide,_,U,(U,by decide,_,U,(_,U,U,hq)))
 ·let(x,fns,frs,c,m,e,v,U,_):=h;exact(_,_,U,U)
theorem uh(T:Txt K mg a):bb P w K mg base CX0 1 a.eC a.i9 [Ze] (spQ K (A7 a.aD λc _ _=>.i c)):=by
 refine T.fW.okQ tX (λts Q h=>?_) (λ_ _ _ _ _ _ hr=>?_)
 ·let(_,_,_,_,_,_,U,_):=h;rfl
 ·refine(_,_,((ai (aQ (Zb (gG T.aK T.fq (qv 0)))))),λts Q h=>?_)
  let(x,fns,frs,c,m,e,U,he,hq):=h;exact(U,_,U,U,hq)
theorem ug(T:Txt K mg a):bb P w K mg base CX0 1 a.eB a.i8 [Ze] (spQ K (A7 a.aD λ_ m _=>.i m)):=by
 refine T.fV.okQ tV (λts Q h=>?_) (λ_ _ _ _ _ _ hr=>?_)
 ·let(_,_,_,_,_,_,U,_):=h;rfl
 ·refine(_,_,((ai (aQ (Zb (gG T.aK T.iW (qv 0)))))),λts Q h=>?_)
  let(x,fns,frs,c,m,e,U,he,hq):=h;exact(U,_,U,U,hq)
theorem y4(T:Txt K mg a):bb P w K mg base CX0 1 a.gy a.lE [Ze] (spQ K (A7 a.aD λ_ _ e=>e)):=by
 refine T.jg.okQ yr (λts Q h=>?_) (λ_ _ _ _ _ _ hr=>?_)
 ·let(_,_,_,_,_,_,U,_):=h;rfl
 ·refine(_,_,((ai (aQ (Zb (gG T.aK T.cY (qv 0)))))),λts Q h=>?_)
  let(x,fns,frs,c,m,e,U,he,hq):=h;exact(U,_,U,he,hq)
theorem wY(T:Txt K mg a):bb P w K mg base CX0 1 a.gK a.oK [Zj] (spQ K Pu):=by
 refine T.oV.F.okQ fQ (λts Q h=>?_) (λ_ _ _ _ _ _ hr=>?_)
 ·let(v,U,_):=h;rfl
 ·refine(_,_,((ag (aC 1 fQ.nd (aH ak))
 (ag (aC 2 fQ.nd (aH (af (Zb (qv 0)) ak)))
 (ag (rC PassesOwn.never (cK (qv 2))
 (ag (GK (j:=3) fQ.nd U (Or.inl U) (pv 2))
 (ag (bV (pv 1) (Zb (ar (qv 3) ah)))
 (ai (uV (pv 2) (yF U U T.lH U T.lF (ar (qv 3) ah)))))))
 (ai (kn (pv 1))))))),λts Q h=>?_)
  let(v,U,hv,hq):=h;refine(v.im,λc q=>∃(L:List Str)(W:List Vl)(LL g:List L2.T)(o3:Sl),q=[.r v.t,.o (.l LL),.o (.l g),o3]/\LL=L.map .s/\g=W.map Vl.t/\L.length+Vl.szs W=v.sz/\c=Vl.szs W,(_,[],[v],_,_,_,U,U,U,by rw[Vl.szs,Vl.szs];simp,U),?_)
  rintro c q ⟨L,W,LL,g,o3,rfl,rfl,rfl,hl,rfl⟩
  obtain rfl |⟨V,u,rfl⟩:=XO W
  ·rw[Vl.szs]at hl;exact hq L (by lia)
  ·let e1:(V ++ [u]).map Vl.t=V.map Vl.t ++ [.t [.s u.mm,.t (u.ps.map Vl.t)]]:=by rw[zY,<- Vl.Ap];rfl
   let e2:Vl.szs (V ++ [u])=Vl.szs V+(1+Vl.szs u.ps):=by
    rw[Vl.ki,Vl.szs];cases u with
    |mk m ps=>rfl
   let h1:=Vl.mL V;let h2:=Vl.mL u.ps;rw[List.concat_eq_append]at *;rw[e1];refine bH (λ_=>(λq'=>∃(L:List Str)(W:List Vl)(LL g:List L2.T)(o3:Sl),q'=[.r v.t,.o (.l LL),.o (.l g),o3]/\LL=L.map .s/\g=W.map Vl.t/\L.length+Vl.szs W=v.sz/\Vl.szs W<Vl.szs (V ++ [u]),?_,?_)) (λz=>absurd (by simp) z)
   ·rintro q' ⟨L,W,LL,g,o3,rfl,rfl,rfl,g1,g2⟩
    exact(Vl.szs W,g2,L,W,_,_,_,U,U,U,g1,U)
   ·refine(_,_,U,(by rw[<- e1];exact Vl.ims _),by decide,?_)
    refine(bj (by rw[ej];lia),.s u.mm,U,U,?_)
    refine(.t (u.ps.map Vl.t),U,Vl.ims _,QH (bj (by simp only[ej,VT];lia)),?_)
    refine(L ++ [u.mm],V++u.ps.reverse,_,_,_,U,by simp,by simp,?_,?_)
    ·rw[Vl.ki,Vl.vM,pL];show L.length+1+_=_
     lia
    ·rw[Vl.ki,Vl.vM];lia
theorem Mu(T:Txt K mg a):bb P w K mg base CX0 2 a.xv a.Jh [Zj] (spQ K UI):=by
 refine T.JQ.F.okQ Kz (λts Q h=>?_) (λ_ _ _ _ _ _ hr=>?_)
 ·let(v,U,_):=h;rfl
 ·refine(_,_,((ai (aQ (bP T.cD (ae (Za (a8 (wY T) hr T.oV (ae (qv 0) au))) au))))),λts Q h=>?_)
  let(v,U,hv,hq):=h;refine(v,U,hv,λL g=>?_)
  rw[<- g]at hq;let e:((L.map L2.T.s).length)=(L.length):=by rw[ej]
  rw[<- e]at hq;exact hq
theorem yj:∀g:List Vl,Vl.szs (g.flatMap Vl.ps)+g.length=Vl.szs g
 |[]=>rfl
 |.mk m ps::r=>by
  rw[Yo,Vl.ki,Vl.szs,Vl.sz,rl,<- yj r];show Vl.szs ps+_+_=_
  lia
theorem zG:∀{g:List Vl},g ≠ []->Vl.dps (g.flatMap Vl.ps)+1=Vl.dps g
 |.mk m ps::r,_=>by
  rw[Yo,Vl.C6,Vl.dps,Vl.dp];show max (Vl.dps ps) _+1=_;cases r with
  |nil=>show max (Vl.dps ps) 0+1=max _ 0;lia
  |cons v r=>rw[<- zG (Rk v r)];lia
theorem HZ(T:Txt K mg a):bb P w K mg base CX0 1 a.qz a.Dj [Zj] (spQ K UK):=by
 refine T.DN.F.okQ gb (λts Q h=>?_) (λ_ _ _ _ _ _ hr=>?_)
 ·let(v,U,_):=h;rfl
 ·refine(_,_,((ag (aC 1 gb.nd bS)
 (ag (aC 2 gb.nd (aH (af (Zb (qv 0)) ak)))
 (ag (rC PassesOwn.never (cK (qv 2))
 (ag (Co (i:=1) gb.nd ah)
 (ag (aC 3 gb.nd (aH ak))
 (ag (cw (g:=(Tg.nm 4)) PassesOwn.never U (K9 (pv 2)) (bu 4 gb.nd)
 (ai (K5 (pv 3) (ar (qv 4) ah))))
 (ai (K4 (i:=2) gb.nd (pv 3)))))))
 (ai (aQ (Zb (qv 1)))))))),λts Q h=>?_)
  let(v,U,hv,hq):=h;refine(v.im,λc q=>∃(V:List Vl)(d:Nat)(LY:List L2.T)(dI:Int)(o3 o4:Sl),q=[.r v.t,.o (.i dI),.o (.l LY),o3,o4]/\LY=V.map Vl.t/\dI=d/\d+Vl.dps V=v.dp/\Vl.szs V<=v.sz/\c=Vl.dps V,(_,[v],0,_,_,_,_,U,U,U,?_,?_,U),?_)
  ·rw[Vl.dps,Vl.dps];lia
  ·rw[Vl.szs,Vl.szs];lia
  rintro c q ⟨V,d,LY,dI,o3,o4,rfl,rfl,rfl,hd,hs,rfl⟩
  cases V with
  |nil =>
   have:d=v.dp:=by rw[Vl.dps]at hd;lia
   subst this;exact(U,hq)
  |cons u r =>
   let az:u::r ≠ []:=Rk _ _;let f1:=zG az;let f2:=yj (u::r)
   generalize u::r=V at *
   refine bH (λ_=>(λq'=>∃(av:List Vl)(LY:List L2.T)(dI:Int)(o3 o4:Sl),q'=[.r v.t,.o (.i dI),.o (.l LY),o3,o4]/\LY=av.map Vl.t/\dI=(d+1:Nat)/\av=V.flatMap Vl.ps,?_,?_)) (λz=>absurd (by cases V with|nil=>exact absurd rfl az|cons _ _=>rfl) z)
   ·rintro q' ⟨av,LY,dI,o3,o4,rfl,rfl,rfl,rfl⟩
    exact(_,by lia,V.flatMap Vl.ps,d+1,_,_,_,_,U,U,U,by lia,by lia,U)
   ·refine((d:Nat),U,((λi q=>∃(BB:List L2.T)(o4:Sl),q=[.r v.t,.o (.i (d+1)),.r (.l (V.map Vl.t)),.o (.l BB),o4]/\BB=((V.take i).flatMap Vl.ps).map Vl.t,(_,_,U,U),λi z q hz hi=>?_,λq hi=>?_)))
    ·let(BB,o4,U,U):=hi;rw[j5]at hz;let(t,ht,U):=kg.mp hz;rw[Vl.Ap];let hlen:=Vl.mL (V.flatMap Vl.ps);let aD:V.take (i+1)=V.take i ++ [t]:=by rw[wh,ht];rfl
     let To:((V.take i).flatMap Vl.ps).length+t.ps.length <=(V.flatMap Vl.ps).length:=by
      let h3:((V.take (i+1)).flatMap Vl.ps).length <=(V.flatMap Vl.ps).length:=by
       conv=>rhs;rw[<- W2 (i+1) V,XY,pL]
       lia
      rw[aD,XY]at h3;simpa using h3
     refine(_,U,.t (t.ps.map Vl.t),U,Vl.ims _,QH (bj (by simp only[ej];lia)),_,_,U,?_)
     rw[aD];simp
    ·let(BB,o4,U,U):=hi;rw[ej,tI];exact(by decide,by show 2<5;decide,V.flatMap Vl.ps,_,_,_,_,U,U,U,U)
theorem gh(T:Txt K mg a):bb P w K mg base CX0 1 a.cq a.eJ [Ze,"names"] (spQ K (A6 a.az)):=by
 refine T.cU.okQ kY (λts Q h=>?_) (λ_ _ _ _ _ _ hr=>?_)
 ·let(_,_,_,_,_,_,_,U,_):=h;rfl
 ·refine(_,_,((ai (aQ (aY (bW U) bU (by rfl) T.cT (by kernel_rfl) (ae (Za (bM U (d9 (qv 1)) (N':=["name",Ze]) (.own U (.got (i:=0) U U (.inl U) .nil)) (bQ (g:=(Tg.nm 0)) (λ_ _ _ _ _=>((dO 0),(Zb (bg (gG T.aF T.bJ (qv 1)) (qv 0)))))))) au))))),λts Q h=>?_)
  let(x,f,n,p,ns,ys,vs,U,hy,(hl,hv),hq):=h;refine(bj (by rw[ej];lia),λi zs=>zs=vs.take i,U,λi z zs V e=>?_,λzs e=>?_)
  ·subst e;rw[j5]at V;let(y,q,U):=kg.mp V;let(v,h1,h2,h3):=hv i y q;refine(_,U,U,_,U,v,h2,h3,?_);rw[wh,h1];rfl
  ·subst e;rw[ej,<- hl,tI];refine(cp λt ht=>?_,hq)
   let(i,hi,U):=BR ht;let(v,h1,h2,h3):=hv i (ys[i]'(by lia)) (eO (by lia))
   rw[eO hi]at h1;cases h1;exact h3
theorem kO(T:Txt K mg a)(t2:Bool):bb P w K mg base CX0 1 a.de a.ja [Ze,Zw,"f","values"] (spL K 0 (yP a.az t2)):=by
 refine T.fX.okL tY (λts Q h=>?_) (λ_ _ _ _ _ _ hr=>?_) λts Q h=>?_
 ·let(_,_,_,_,_,_,U,_):=h;rfl
 ·refine(_,_,((ag (dG T.aF T.se (aU (j:=0)) (Zb (qv 2)))
 (ag (dG T.aF T.fJ (aU (j:=0)) bS)
 (ag (dG T.aF T.aN (aU (j:=0)) (Zb (ar (ar (qv 1) (qv 2)) ah)))
 (ai (dG T.aF T.bJ (aU (j:=0)) (rH (t2:=t2) U T.jZ U T.Dt (ae (Za (bM U (d9 (ar (ar (qv 1) (qv 2)) ah)) (N':=["name","kind"]) (.own U (.own U .nil)) (bQ (g:=(Tg.tp [0,1])) (λ_ _ _ _ _=>((ik (dO 0) (dO 1)),(Zb (qv 0))))))) (ae (qv 3) au))))))))),λts Q t0 a0 h ht ha=>?_)
  let(x,gs,f,g,vs,u,U,av,hg,hl,q,V,hq):=h;cases ht;cases ha;let eg:atI (gs.map WF.t) (f)=Z g.t:=cH (by rw[j5,hg];rfl)
  let aD:=cn av (Wj (px hg));let aK:=by
   let h:(g.nm.im&&((L2.T.t (g.prs.map λp=>.t [.s p.1,p.2])).im&&(g.kd.im&&(g.b.im&&O))))=true:=aD
   simp only[tD]at h;exact h.2.2.2.1
  refine(U,U,by decide,_,U,(U,by decide,_,U,(g.t,eg,g.b,U,aK,U,by decide,_,U,(g.t,eg,_,U,bj (by rw[ej];omega),λi ys=>ys=((g.prs.take i).map λp=>L2.T.s p.1),U,λi z ys hz hi=>?_,λys e=>?_))))
  ·subst hi;rw[j5]at hz;let(p,hp,U):=kg.mp hz;refine(_,U,U,?_);rw[wh,hp];simp
  ·subst e;rw[ej,tI];let ek:jJ (g.prs.map λp=>L2.T.s p.1)=Z (g.prs.map λp=>(.inr p.1)):=by
    induction g.prs with
    |nil=>rfl
    |cons p r ih=>rw[xY,jJ,ih];rfl
   obtain⟨rfl,rfl⟩|⟨rfl,rfl|rfl⟩:=V
   ·exact(U,q,_,ek,U,by decide,_,U,(_,U,U,hq))
   ·exact(U,q,_,ek,U,by decide,_,U,(_,U,U,hq))
   ·exact(U,q,_,ek,U,by decide,_,U,(_,U,U,hq))
 ·let(x,gs,f,g,vs,u,U,_):=h;exact(_,_,U,U)
theorem mH(T:Txt K mg a)(t2:Bool):bb P w K mg base CX0 3 a.dW a.jS [Ze,"program","f","args","coins"] (spL K 0 (A5 a.aD a.az t2)):=by
 refine T.gP.okL vU (λts Q h=>?_) (λ_ _ _ _ _ _ hr=>?_) λts Q h=>?_
 ·let(_,_,_,_,_,_,_,_,U,_):=h;rfl
 ·refine(_,_,((ag (dG T.aK T.cS (aU (j:=0)) (Zb (ar (qv 1) ah)))
 (ag (dG T.aK T.bG (aU (j:=0)) (aH (af (mv T.zd (kO T t2) hr.bw U T.zc T.mY (ae (bO (bC T.aK T.cS (aU (j:=0)))) (ae (qv 2) (ae (qv 3) au)))) ak)))
 (ag (dG T.aK T.fq (aU (j:=0)) (Zb (qv 4)))
 (ag (dG T.aK T.iW (aU (j:=0)) bS)
 (ai (dG T.aK T.cY (aU (j:=0)) cX))))))),λts Q t0 a0 h ht ha=>?_)
  let(x,ks,gs,f,g,vs,u,c,U,q,hg,hl,i4,i5,V,hq):=h;cases ht;cases ha;let hi:=q;exact(_,U,hi,U,by decide,_,U,(U,_,U,λz=>(z,gs,f,g,vs,u,U,q,hg,hl,i4,V,U,U,(U,by decide,_,U,(U,U,by decide,_,U,(U,by decide,_,U,(U,by decide,_,U,(_,U,U,hq z))))))))
 ·let(x,ks,gs,f,g,vs,u,c,U,_):=h;exact(_,_,U,U)
theorem nS(T:Txt K mg a):bb P w K mg base CX0 3 a.cN a.fL [Ze,Zl,"word"] (spL K 0 (El a.aD a.az)):=by
 refine T.dM.okL ic (λts Q h=>?_) (λ_ _ _ _ _ _ hr=>?_) λts Q h=>?_
 ·let(_,_,_,_,_,_,_,_,_,_,_,_,U,_):=h;rfl
 ·let V:=cC hr;refine(_,_,((ag (aC 3 ic.nd (Zb (ar (bO (bC T.aF T.aN (cR (j:=0) (i:=1)))) ah)))
 (ai (bc (QPW.pt (rB (cf V (qv 2) (Za aA)) (mj (uU (qv 3) (bO (bC T.aK T.fq (aU (j:=0))))))))
 (ai (cz T.aK T.fh (fg T) hr.bw T.fM (aU (j:=0)) (ae (Za (ax (af aA (af (Zb (qv 3)) ak)))) au)))
 (ag (wq T.aK T.fq Bx (aU (j:=0)) (Za (R8 (cf V (qv 2) (Za aA)) (Zb (qv 3)) (gY (qv 3)))))
 (ai (cz T.aF T.gn (gi T) hr.bw T.hJ (cR (j:=0) (i:=1)) (ae (ar (bO (bC T.aF T.aN (cR (j:=0) (i:=1)))) ah) (ae ah au))))))))),λts Q t0 a0 h ht ha=>?_)
  let(x0,x,fns,frs,f,n,wd,k,b,ns,c,m,U,q,hw,h1,h2,h3):=h;cases ht;cases ha;refine(x,_,wy frs,_,_,_,.inl U,U,aS,U,_,U,.i k,U,U,?_);obtain rfl|rfl:=hw
  ·refine(U,U,_,U,bH (λg=>?_) λg=>?_)
   ·exact(U,U,U,U,a0,_,_,c,m,.n,_,U,U,U,U,_,U,((_,U,U,h1 (U,of_decide_eq_true g))))
   ·refine(U,by decide,c,U,U,_,U,(x,_,wy frs,_,_,_,.inl U,U,aS (c:=c + -k),U,U,x,_,wy frs,_,_,_,.inl U,U,aS (c:=c + -k),U,_,U,b,U,(by show(b.im&&(O&&O))=O;rw[q];rfl),x,f,n,_,ns,b,0,U,q,U,U,_,U,?_))
    exact(_,U,ku (h2 (U,λz=>g (decide_eq_true z))))
  ·refine(U,U,by decide,c,U,U,U,_,U,(x,_,wy frs,_,_,_,.inl U,U,aS (c:=c+k),U,U,x,_,wy frs,_,_,_,.inl U,U,aS (c:=c+k),U,_,U,b,U,(by show(b.im&&(O&&O))=O;rw[q];rfl),x,f,n,_,ns,b,0,U,q,U,U,_,U,?_))
   exact(_,U,ku (h3 U))
 ·let(x0,x,fns,frs,f,n,wd,k,b,ns,c,m,U,_):=h;exact(_,_,U,U)
theorem pb(T:Txt K mg a):bb P w K mg base CX0 3 a.cZ a.gA [Ze,Zl] (spL K 0 (Hl a.aD a.az)):=by
 refine T.eQ.okL jh (λts Q h=>?_) (λ_ _ _ _ _ _ hr=>?_) λts Q h=>?_
 ·let(_,_,_,_,_,_,_,_,_,_,_,_,_,_,U,_):=h;rfl
 ·refine(_,_,((ag (aC 2 jh.nd (ax (af (Zb (ar (bO (bC T.aF T.aN (cR (j:=0) (i:=1)))) ah)) (af (yE T.aF T.gm (gh T) hr.bw T.gM (bO (cR (j:=0) (i:=1))) (ae (ar (bO (bC T.aF T.aN (cR (j:=0) (i:=1)))) ah) au)) ak))))
 (ai (bc (QPW.pt (oE (uU (Za (a8 (Mu T) hr T.JQ (ae (qv 2) au))) (Za (yH U T.uD))) (nI (uU (Za (a8 (HZ T) hr T.DN (ae (qv 2) au))) (Za (yH U T.uC))))))
 (ai (cz T.aK T.fh (fg T) hr.bw T.fM (aU (j:=0)) (ae (Za (ax (af aA (af (Zb (ar (bO (bC T.aF T.aN (cR (j:=0) (i:=1)))) ah)) ak)))) au)))
 (ai (cz T.aF T.du (dr T) hr.bw T.dS (cR (j:=0) (i:=1)) (ae (qv 2) au))))))),λts Q t0 a0 h ht ha=>?_)
  let(x0,x,fns,frs,f,n,y,mk,ys,vs,b,ns,c,m,U,hb,aP,hl,av,a3,hsz,q,aM):=h;cases ht;cases ha;let z:(L2.T.t [.s mk,.t (vs.map Vl.t)])=(Vl.mk mk vs).t:=by rw[Vl.Ap];rfl
  refine(x,_,wy frs,_,_,_,.inl U,U,aS,U,_,U,.s mk,U,U,(x,_,wy frs,_,_,_,.inl U,U,aS,U,U,(x,_,wy frs,_,_,_,.inl U,U,aS,U,_,U,.t (ys.map .s),U,(x,f,n,_,ns,ys,vs.map Vl.t,U,av,a3,(Vl.mk mk vs,by rw[<- z],hsz,?_)))))
  let g:(L2.T.t [.s mk,.t (vs.map Vl.t)]).im=true:=by rw[z];exact Vl.im _
  let V:=by
   show(O&&(O&&(O&&(L2.T.ims (ys.map .s)&&(b.im&&O)))))=O;rw[br,hb];rfl
  refine bH (λg1=>?_) (λg1=>?_)
  ·let g1:=of_decide_eq_true g1;refine(U,U,x,_,wy frs,_,_,_,.inl U,U,aS,U,_,U,.s mk,U,U,U,a0,_,_,c,m,.n,_,U,U,U,U,_,U,?_);exact(_,U,U,q (.inl (by lia)))
  ·refine(Vl.mk mk vs,by rw[<- z],hsz,bH (λg2=>?_) (λg2=>?_))
   ·refine(U,U,x,_,wy frs,_,_,_,.inl U,U,aS,U,_,U,.s mk,U,U,U,a0,_,_,c,m,.n,_,U,U,U,U,_,U,?_);exact(_,U,U,q (.inr (by lia)))
   ·refine(x,_,wy frs,_,_,_,.inl U,U,aS,U,U,(by show((L2.T.t [.s mk,.t (vs.map Vl.t)]).im&&O)=O;rw[g];rfl),x,f,n,_,ns,_,y,b,U,g,aP,hl,V,U,U,U,U,_,U,?_)
    let hq:=aM (by lia)
    rw[<- z]at hq;exact(_,U,ku hq)
 ·let(x0,x,fns,frs,f,n,y,mk,ys,vs,b,ns,c,m,U,_):=h;exact(_,_,U,U)
theorem wX(T:Txt K mg a):bb P w K mg base CX0 1 a.gJ a.oJ [Zw,"name"] (spQ K Hh):=by
 refine T.oU.F.okQ iK (λts Q h=>?_) (λ_ _ _ _ _ _ hr=>?_)
 ·let(_,_,_,_,U,_):=h;rfl
 ·let hu:=cC hr;refine(_,_,((ag (cw (g:=(Tg.tp [2,3])) PassesOwn.never U (La U T.jY (by kernel_rfl) (ae (qv 0) au)) (ik (bu 2 iK.nd) (bu 3 iK.nd))
 (ai (bc (cf hu (ar (qv 3) ah) (qv 1))
 (ai (aQ (Zb (qv 2))))
 aT)))
 (ai (aQ cX)))),λts Q h=>?_)
  let(gs,nm,f,g,U,aK,hg,aM,aF,hq):=h;let aN:=(kf.mp hg).1;refine(aK,λi q=>(∃o2 o3,q=[.r (.t (gs.map WF.t)),.r (.s nm),o2,o3])/\i<=f,((_,_,U),JG _),?_,?_)
  ·rintro i x q hx ⟨⟨o2,o3,rfl⟩,av⟩
   let(y,hy,U):=jP hx;rw[j5]at hy;let(g',az,U):=kg.mp hy;obtain z|rfl:=Nat.lt_or_eq_of_le av
   ·let(s',e,aD):=aF i g' z az;exact(_,U,.s s',by show Z g'.nm=_;rw[e],U,bH (λg=>(absurd (V.str.inj (of_decide_eq_true g)) aD)) λg=>((_,_,U),z))
   ·rw[hg]at az;cases az;refine(_,U,.s nm,by show Z g.nm=_;rw[aM],U,bH (λ_=>(U,hq)) λz=>absurd (decide_eq_true U) z)
  ·rintro q ⟨_,av⟩
   rw[dY,ej]at av
   lia
theorem kq(T:Txt K mg a):∀k:Nat,bb P w K mg base CX0 (k+1) a.mP a.zL [ZK] (spQ K (Hi k))
 | 0=>never λts Q h=>by let(_,_,_,h,_):=h;cases h
 |k+1=>by
  let fE:=kq T k;refine T.iF.F.okQ e9 (λts Q h=>?_) (λ_ _ _ _ _ _ hr=>?_)
  ·let(_,_,U,_):=h;rfl
  ·let hu:=cC hr;refine(_,_,((ag (aC 1 e9.nd (aH (af (Zb (qv 0)) ak)))
 (ag (bc (cf hu (ar (qv 0) ah) (Za aA))
 (ai (cw (g:=(Tg.tp [2,3,4])) PassesOwn.never U (gX (Zb (ar (qv 0) ah))) (fk (K:=K) (n:=3) U U (aW (bu 2 e9.nd) (aW (bu 3 e9.nd) (aW (bu 4 e9.nd) fj))))
 (ai (aC 1 e9.nd (aV (qv 1) (Za (a8 fE hr T.iF (ae (qv 4) au))))))))
 (ai (bc (cj HK Aw (bz _) (ar (qv 0) ah) (Za aA))
 (ai (aC 1 e9.nd (aV (qv 1) (Za (a8 fE hr T.iF (ae (ar (qv 0) (Za (gY ah))) au))))))
 aT)))
 (ai (kn (i:=1) (pv 1)))))),λts Q h=>?_)
   let(b,L,U,hL,hlen,hq):=h;let aK:=hL.ims;let av:=hL.im;cases hL with
   |@give _ y=>exact(U,_,U,U,_,U,U,hq)
   |@more _ wd ps b' L' h1 h2 h3 h4 h5 h6 =>
    let e0:=cH h1;let n1:=λz=>h3 (V.str.inj (of_decide_eq_true z))
    let n2:¬(!decide ((L2.T.s wd).v=(L2.T.s "give").v))=false:=λz=>h2 (V.str.inj (of_decide_eq_true (by cases hz:decide ((L2.T.s wd).v=(L2.T.s "give").v)with|true=>exact hz|false=>rw[hz]at z;cases z)))
    rw[rl]at hlen;refine(av,_,e0,U,bH (λz=>absurd z n1) λ_=>?_)
    refine(_,e0,U,bH (λ_=>?_) λz=>absurd (by simpa using z) n2)
    exact(b',xN h4,b',L',U,h6,by lia,QH (bj (by show 1+L'.length<=_;lia)),(by show((L2.T.t ps).im&&O)=O;rw[av];rfl),h6.ims,hq)
   |@case _ x arms Ls hl h2 h3 =>
    refine(av,_,U,U,bH (λ_=>?_) λz=>absurd (by decide +kernel) z)
    let len:∀i,((Ls.take i).flatten).length<=Ls.flatten.length:=λi=>by
     conv=>rhs;rw[<- W2 i Ls,XZ,pL]
     lia
    rw[rl]at hlen;obtain⟨b0,az⟩:∃b0:L2.T,b0=.t [.s "case",.s x,.t (arms.map fC)]:=(_,U)
    refine(_,U,h3,λi q=>∃(LL:List L2.T)(o2 o3 o4:Sl),q=[.r b0,.o (.l LL),o2,o3,o4]/\LL=b0 ::(Ls.take i).flatten,(_,_,_,_,by rw[az];rfl,by rw[az];rfl),?_,?_)
    ·rintro i y q hy ⟨LL,o2,o3,o4,rfl,rfl⟩
     rw[j5]at hy;let(z,hz,U):=kg.mp hy;let hi:=(kf.mp hz).1;let aF:Ls[i]?=Z (Ls[i]'(by lia)):=eO (by lia)
     let aD:=h2 i z _ hz aF;let e1:(Ls.take (i+1)).flatten=(Ls.take i).flatten++Ls[i]'(by lia):=by
      rw[wh,aF,XZ];simp
     let l1:=len (i+1);rw[e1,pL]at l1;let Vs:b0.im=true:=by rw[az];exact av
     let i1:L2.T.ims (b0 ::(Ls.take i).flatten)=true:=cp λt ht=>by
      obtain rfl|ht:=kz.mp ht
      ·exact Vs
      ·refine cn aK (j0 _ ?_);let(M,hM,ht):=W8.mp ht;exact W8.mpr (M,Wg hM,ht)
     refine(_,U,z.2.2,_,U,aD,by lia,QH (bj (by rw[rl];lia)),i1,aD.ims,_,_,_,_,U,?_)
     rw[e1];rfl
    ·rintro q ⟨LL,o2,o3,o4,rfl,rfl⟩
     rw[ej,<- hl,tI,az];exact hq
theorem yZ(T:Txt K mg a):∀k:Nat,bb P w K mg base CX0 (k+1) a.qj a.Df [Zo] (spQ K (LG k))
 | 0=>never λts Q h=>by let(v,_,h,_):=h;cases v with|mk m ps=>rw[Vl.dp]at h;lia
 |k+1=>by
  let xX:=yZ T k;refine T.x6.F.okQ yp (λts Q h=>?_) (λ_ _ _ _ _ _ hr=>?_)
  ·let(_,U,_):=h;rfl
  ·refine(_,_,((ag (ko (i:=1) yp.nd U (Or.inl U) U (d9 (ar (qv 0) ah)) (N':=["_law_part"]) (.own U .nil) (bQ (g:=(Tg.nm 0)) (λ_ _ _ _ _=>((dO 0),(a8 xX hr T.x6 (ae (qv 0) au))))))
 (ai (aQ (ax (af (aV ah (Za (bD (kA U U) pR (by rfl) T.Du (by kernel_rfl) (ae (Za (bM U (gF (qv 1)) (N':=["_law_one"]) (.own U .nil) (bQ (g:=(Tg.nm 0)) (λ_ _ _ _ _=>((dO 0),(Zb (ar (qv 0) ah))))))) au)))) (af (aV ah (Za (Li T.vB (Za (bM U (gF (qv 1)) (N':=["_law_one"]) (.own U .nil) (bQ (g:=(Tg.nm 0)) (λ_ _ _ _ _=>((dO 0),(Zb (ar (qv 0) ah)))))))))) ak))))))),λts Q h=>?_)
   let(v,U,hd,hs,hq):=h;rw[Vl.Ap];let az:=Vl.mL v.ps;let ev:v.sz=1+Vl.szs v.ps:=by cases v with|mk m ps=>rw[Vl.sz];rfl
   let ed:v.dp=1+Vl.dps v.ps:=by cases v with|mk m ps=>rw[Vl.dp];rfl
   refine(_,U,bj (by rw[ej];lia),λi ys=>ys=(v.ps.take i).map λu=>L2.T.t [.i (u.sz:Nat),.i (u.dp:Nat)],U,λi z ys V e=>?_,λys e=>?_)
   ·subst e;rw[j5]at V;let(u,q,U):=kg.mp V;let hm:=px q;let aD:=Vl.xE hm;let av:=Vl.As hm;refine(_,U,u,U,by lia,by lia,?_)
    rw[wh,q];simp
   ·subst e;rw[ej,tI];refine(bj (by rw[ej];lia),λi ys=>ys=(v.ps.take i).map λu=>L2.T.i (u.sz:Nat),U,λi z ys V e=>?_,λys e=>?_)
    ·subst e;rw[j5]at V;let(u,q,U):=kg.mp V;refine(_,U,_,U,U,?_);rw[wh,q];simp
    ·subst e;rw[ej,tI];refine(v.ps.map λu=>((u.sz:Nat):Int),by rw[<- L2.ins_map,Qo];rfl,?_)
     refine(bj (by rw[ej];lia),λi ys=>ys=(v.ps.take i).map λu=>L2.T.i (u.dp:Nat),U,λi z ys V e=>?_,λys e=>?_)
     ·subst e;rw[j5]at V;let(u,q,U):=kg.mp V;refine(_,U,_,U,U,?_);rw[wh,q];simp
     ·subst e;rw[ej,tI];refine(v.ps.map λu=>((u.dp:Nat):Int),by rw[Qo];rfl,?_)
      rw[Vl.B3,Vl.Nk];let e1:(1:Int)+((Vl.szs v.ps:Nat):Int)=((v.sz:Nat):Int):=by lia
      let e2:(1:Int)+((Vl.dps v.ps:Nat):Int)=((v.dp:Nat):Int):=by lia
      rw[<- e1,<- e2]at hq;exact hq
theorem y3(T:Txt K mg a)(t2:Bool):bb P w K mg base CX0 1 a.qD a.Dk [Zm,Zg,ZD,ZF] (spQ K (LM t2)):=by
 refine T.qH.F.okQ yq (λts Q h=>?_) (λ_ _ _ _ _ _ hr=>?_)
 ·let(_,_,_,_,_,_,_,U,_):=h;rfl
 ·refine(_,_,((ag (aC 4 yq.nd (rH (t2:=t2) U T.jZ U T.Dt (ae (Za (bM U (d9 (ar (ar (ar (qv 0) ah) (qv 1)) ah)) (N':=["_law_param"]) (.own U .nil) (bQ (g:=(Tg.nm 0)) (λ_ _ _ _ _=>((dO 0),(Zb (ar (qv 0) ah))))))) (ae (qv 2) au))))
 (ai (GL (i:=4) (aQ (GS (mq (Za aA) (Za (c9 (aH (af (ax (af (Zb (qv 1)) (af bS (af (Zb (qv 4)) ak)))) ak)))) (mq (Za aA) (qv 3) (mq (Za aA) ah (mq (Za aA) (Za cX) K7)))))))))),λts Q h=>?_)
  let(ks,gs,f,g,vs,u,c,U,aD,hg,hl,hv,az,av,hq):=h;let eg:atI (gs.map WF.t) (f)=Z g.t:=cH (by rw[j5,hg];rfl)
  refine(_,U,g.t,eg,_,U,bj (by rw[ej];lia),λi ys=>ys=((g.prs.take i).map λp=>L2.T.s p.1),U,λi z ys hz hi=>?_,λys e=>?_)
  ·subst hi;rw[j5]at hz;let(p,hp,U):=kg.mp hz;refine(_,U,_,U,U,?_);rw[wh,hp];simp
  ·subst e;rw[ej,tI];let ek:jJ (g.prs.map λp=>L2.T.s p.1)=Z (g.prs.map λp=>(.inr p.1)):=by
    induction g.prs with
    |nil=>rfl
    |cons p r ih=>rw[xY,jJ,ih];rfl
   let V:L2.T.imk (g.names vs)=true:=WF.za hv;let q:((O&&(O&&(L2.T.gC (g.names vs)&&O)))&&O)=true:=by rw[WF.va az];rfl
   obtain⟨rfl,rfl⟩|⟨rfl,rfl|rfl⟩:=av
   ·exact(U,hv,_,ek,V,λo ws=>(U,U,q,U,U,U,U,hq o ws))
   ·exact(U,hv,_,ek,V,λo ws=>(U,U,q,U,U,U,U,hq o ws))
   ·exact(U,hv,_,ek,V,λo ws=>(U,U,q,U,U,U,U,hq o ws))
theorem u9(T:Txt K mg a):bb P w K mg base CX0 1 a.mR a.zN [Zh,"_law_end"] (spM K 0 Hk):=by
 refine T.dE.F.okM D8 (λts Q h=>?_) (λ_ _ _ _ _ _ hr=>?_)
 ·let(_,_,_,_,_,_,U,_):=h;rfl
 ·let q:=cC hr;refine(_,_,((ag (iO q (pv 0) (Za aA) (qv 1))
 (ai (iO q (pv 0) (Za aA) (Za (c9 (aH ak))))))),λts Q p ks h z=>?_)
  let(a0,stk,c,m,e,e',U,he,g,hq):=h;cases z;let i1:=by show(O&&(O&&(O&&(e.im&&O))))=O;rw[he];rfl
  let i2:=by show(O&&(O&&(O&&(e'.im&&O))))=O;rw[g];rfl
  exact((by show 4<mu;decide),i1,g,(U,(by show 4<mu;decide),i2,U,(_,U,(by show(O&&(O&&(O&&(e'.im&&O))))=O;rw[g];rfl),hq)))
theorem HV(T:Txt K mg a)(t2:Bool):bb P w K mg base CX0 1 a.Ng a.T1 [Zh,Zv,Zx,ZS] (spM K 0 (UJ t2)):=by
 refine T.kK.F.okM qY (λts Q h=>?_) (λ_ _ _ _ _ _ hr=>?_)
 ·let(_,_,_,_,_,_,_,_,_,_,_,_,_,_,U,_):=h;rfl
 ·let hu:=cC hr;refine(_,_,((ag (iN (g:=(Tg.tp [4,5,6])) (ar (bg (qv 0) (Za aA)) (Za (gY ah))) (fk (K:=K) (n:=3) U U (aW (bu 4 qY.nd) (aW (bu 5 qY.nd) (aW (bu 6 qY.nd) fj)))))
 (ag (aC 7 qY.nd (aY jX lY (by rfl) T.jZ (by kernel_rfl) (ae (qv 6) au)))
 (ag (cw (g:=(Tg.tp [8,9])) PassesOwn.never U (K8 (t2:=t2) U T.Dt (by kernel_rfl) (ae (qv 2) (ae (qv 3) au))) (ik (bu 8 qY.nd) (bu 9 qY.nd))
 (ai (GJ (i:=7) hu (pv 7) (qv 8) (qv 9))))
 (ai (GL (i:=7) (iO (i:=0) hu (pv 0) (Za aA) (Za (c9 (aV (Za (gc (bg (qv 0) (Za aA)) iQ (iP (Za (gY ah))))) (Za (aH (af (ax (af (Zb (qv 4)) (af (Zb (qv 1)) (af (Zb (qv 7)) ak)))) ak))))))))))))),λts Q p ks h ht=>?_)
  let(a0,stk,f,n,n',o,vs,ns,c,m,ys,us,u1,u2,U,hi,hp,hl,aM,aP,bt,bx,a6,a7,e1,e2,hq):=h;cases ht;let Jb:atI (stk ++ [frL f n o vs ns]) (-1)=Z (frL f n o vs ns):=L2.m5 _ _;refine(_,U,_,Jb,U,_,U,?_);refine(hi,?_);obtain⟨V,av⟩:∃V,V=(ys.map λy=>(.inr y:Key)).zip us:=(_,U)
  let a3:V.length=ys.length:=by rw[av,NN,ej,aM];lia
  let az:∀p∈V,p.2.im=true:=λp hp=>by rw[av]at hp;exact cn aP (UU hp).2
  let a4:∀p∈V,p.2.pln=true:=λp hp=>by rw[av]at hp;exact gf bt (UU hp).2
  let stp:∀i,aO ns (V.take (i+1))=match V[i]? with|some q=>cF (aO ns (V.take i)) q.1 q.2|none=>aO ns (V.take i):=λi=>by
   rw[wh];cases V[i]? with
   |none=>rw[Option.toList_none,tG]
   |some q=>unfold aO;rw[Yc,List.foldl_append];rfl
  let loop:∀(u1 u2:L2.T)(D:dZ),(∀o8 o9,D.nx [.o (.dp p (stT (stk ++ [frL f n o vs ns]) c m .n)),.r (.i n'),.r u1,.r u2,.r (.i f),.r (.i n),.r (.fd o vs ns),.o (.d (aO ns V)),o8,o9]) ->
    Um (Tg.tp [8,9]) (Ef 7 (bo 8) (bo 9)) D (lQ (ys.map .s) us) [.o (.dp p (stT (stk ++ [frL f n o vs ns]) c m .n)),.r (.i n'),.r u1,.r u2,.r (.i f),.r (.i n),.r (.fd o vs ns),.o (.d ns),.no,.no]:=λu1 u2 D h=>by
   refine(λi q=>∃(DD:List (Key×L2.T))(o8 o9:Sl),q=[.o (.dp p (stT (stk ++ [frL f n o vs ns]) c m .n)),.r (.i n'),.r u1,.r u2,.r (.i f),.r (.i n),.r (.fd o vs ns),.o (.d DD),o8,o9]/\DD=aO ns (V.take i),(_,_,_,U,U),?_,?_)
   ·rintro i z q hz ⟨DD,o8,o9,rfl,rfl⟩
    let(x1,y1,aF,a5,U):=vG hz;rw[j5]at aF;let(y,hy,U):=kg.mp aF;let aN:V[i]?=Z (.inr y,y1):=by
     rw[av,NO];exact(by rw[j5,hy];rfl,a5)
    let Vj:=az _ (px aN);let l1:(aO ns (V.take i)).length<=ns.length+(V.take i).length:=kr;rw[z7]at l1;refine(_,U,bj (by lia),iy hi λq hq=>az q (Wg hq),Vj,_,_,_,U,?_)
    rw[stp i,aN]
   ·rintro q ⟨DD,o8,o9,rfl,rfl⟩
    rw[ju,ej,aM,Yj,<- a3,tI];exact h o8 o9
  let dI:L2.T.imk (aO ns V)=true:=iy hi az;let dP:L2.T.gC (aO ns V)=true:=k9 hp a4;rw[<- av]at hq;let i1:L2.T.imk (stT (stk ++ [frL f n o vs ns]) c m .n)=true:=rfl;let nl:∀o' vs',L2.T.dz (stk ++ [frL f n' o' vs' (aO ns V)])=true:=λo' vs'=>ij λt ht=>by
   obtain z|z:=p7.mp ht
   ·exact gf a6 z
   ·rw[g5.mp z];show(O&&(O&&(L2.T.gC (aO ns V)&&O)))=O;rw[dP];rfl
  let Tp:L2.T.ims (eV (stk ++ [frL f n o vs ns]) Y (Z (-1)))=true:=by rw[jU];exact a7
  let Ts:(eV (stk ++ [frL f n o vs ns]) Y (Z (-1))).length+1<=mu:=by rw[jU];exact QH (bj (by lia))
  let aD:∀o' vs',L2.T.dz (eV (stk ++ [frL f n o vs ns]) Y (Z (-1)) ++ [frL f n' o' vs' (aO ns V)])=true:=λo' vs'=>by rw[jU];exact nl o' vs'
  let aK:∀o' vs',Q (.dp p (stT (eV (stk ++ [frL f n o vs ns]) Y (Z (-1)) ++ [frL f n' o' vs' (aO ns V)]) c m .n)):=λo' vs'=>by rw[jU];exact hq o' vs'
  cases t2 with
  |true =>
   subst e1 e2;refine(U,br ys,aP,loop _ _ _ λo8 o9=>?_)
   refine(dI,λo' vs'=>?_)
   refine(_,U,?_);exact(U,U,U,Ts,Tp,U,aD o' vs',(by show 4<mu;decide),i1,U,_,U,U,aK o' vs')
  |false =>
   subst e1 e2;refine(U,loop _ _ _ λo8 o9=>?_)
   refine(dI,λo' vs'=>?_)
   refine(_,U,?_);exact(U,U,U,Ts,Tp,U,aD o' vs',(by show 4<mu;decide),i1,U,_,U,U,aK o' vs')
theorem nR(T:Txt K mg a):bb P w K mg base CX0 3 a.dH a.jk [Zp,"number"] (spQ K (Em a.bx)):=by
 refine T.jm.F.okQ nC (λts Q h=>?_) (λ_ _ _ _ _ _ hr=>?_)
 ·let(_,_,_,U,_):=h;rfl
 ·let hu:=cC hr;refine(_,_,((ag (bc (cf hu (ar (qv 0) ah) (Za aA))
 (ai (aQ (aH ak)))
 aT)
 (ag (bc (cf hu (ar (qv 0) ah) (Za aA))
 (ai (aQ (bM U (d9 (ar (qv 0) ah)) (N':=["arm","number"]) (.own U (.got (i:=1) U U (.inl U) .nil)) (bQ (g:=(Tg.nm 0)) (λ_ _ _ _ _=>((dO 0),(rF U T.xi (CK T) hr.bw U T.xh T.j6 (ae (ar (qv 0) ah) (ae (qv 1) (ae (qv 0) au))))))))))
 aT)
 (ai (aQ (aH (af (rF U T.xi (CK T) hr.bw U T.xh T.j6 (ae (ar (qv 0) (Za (gY ah))) (ae (qv 1) (ae (Za cX) au)))) ak))))))),λts Q h=>?_)
  let(b,bs,n,U,hb,hq):=h;cases hb with
  |give=>exact(_,U,U,hq _ .nil)
  |@more wd ps b' h0 h1 h2 h3 h4 =>
   let e0:=cH h0;let q:=cn h4 (XU h3);exact(_,e0,U,bH (λg=>absurd (of_decide_eq_true g) λz=>h1 (by cases z;rfl)) λ_=>(_,e0,U,bH (λg=>absurd (of_decide_eq_true g) λz=>h2 (by cases z;rfl)) λ_=>(b',xN h3,(by show(b'.im&&(O&&(O&&O)))=O;rw[q];rfl),U,hq _ .one)))
  |@case x arms h1 h2 =>
   refine(_,U,U,_,U,U,_,U,bj (by rw[ej];lia),λi ys=>SpL a.bx ys ((arms.take i).map (·.2.2)),.nil,λi z ys hz hy=>?_,λys hy=>?_)
   ·rw[j5]at hz;let(arm,ha,U):=kg.mp hz;let V:=cn h1 (Wj (px ha));let q:=by
     let h:(O&&(L2.T.ims (arm.2.1.map .s)&&(arm.2.2.im&&O)))=true:=V;simp only[tD]at h;exact h.2.2.1
    refine(_,U,_,U,(by show(arm.2.2.im&&(O&&((fC arm).im&&O)))=O;rw[q,V];rfl),?_)
    rw[wh,ha,zY];exact(U,hy.app .one)
   ·rw[ej,tI]at hy;exact hq _ hy
theorem HU(T:Txt K mg a):bb P w K mg base CX0 4 a.qh a.De ["body"] (spQ K (LF a.bx)):=by
 refine T.DK.F.okQ lZ (λts Q h=>?_) (λ_ _ _ _ _ _ hr=>?_)
 ·let(_,_,U,_):=h;rfl
 ·refine(_,_,((ag (aC 1 lZ.nd (aH ak))
 (ag (aC 2 lZ.nd (aH (af (rF U T.xi (CK T) hr.bw U T.xh T.j6 (ae (qv 0) (ae (Za cX) (ae (Za cX) au)))) ak)))
 (ag (rC PassesOwn.never (cK (qv 2))
 (ag (GK (j:=3) lZ.nd U (Or.inl U) (pv 2))
 (ag (uV (pv 2) (yG U U T.lH U T.lF (Za (a8 (nR T) hr T.jm (ae (Cr T.mV T.g6 (qv 3)) (ae (Za (bP T.cD (ae (qv 1) au))) au))))))
 (ai (bV (pv 1) (Zb (qv 3)))))))
 (ai (kn (pv 1))))))),λts Q h=>?_)
  let(b,L,U,hL,hl,hq):=h;refine((by show(b.im&&(O&&(O&&O)))=O;rw[hL.im];rfl),U,((λc q=>∃(L1 ds M X Yz:List L2.T)(o3:Sl),q=[.r b,.o (.l X),.o (.l Yz),o3]/\SpL a.bx X L1/\SpL a.bx Yz ds.reverse/\kJ ds M/\L=L1++M/\M.length=c,(L.length,[],[b],L,_,_,_,U,.nil,.one,by have:=kJ.cons hL .nil;rwa [tG]at this,U,U),?_)))
  rintro c q ⟨L1,ds,M,X,Yz,o3,rfl,hX,hY,hM,rfl,rfl⟩
  rw[pL]at hl;let aN:=hX.1;cases hM with
  |nil =>
   have:=WA hY.1
   subst this;rw[tG]at hq;exact hq _ hX
  |@cons d ds Ld M' hd az =>
   rw[pL]at hl;let(bs,Md,hb,U,aD):=hd.kids (by lia)
   rw[rl]at hl;rw[V6]at hY;let g:=hY.1;rw[pL,VT]at g;let(a1,r1,e1):=hY.2 ds.length d (by simp)
   obtain⟨Y',y,rfl⟩:∃Y' y,Yz=Y' ++ [y]:=(Yz.dropLast,Yz.getLast (by intro z;rw[z]at g;cases g),(List.dropLast_concat_getLast _).symm)
   let QF:=by simpa using g
   rw[vr (by lia),QF,WD]at e1
   cases e1;let aF:SpL a.bx Y' ds.reverse:=(by rw[QF,VT],λi b' e=>by
    let hi:i<Y'.length:=by rw[QF,<- VT];exact(kf.mp e).1
    have:=hY.2 i b' (by rw[u4 (by rw[VT];lia)];exact e)
    rwa [u4 hi]at this)
   refine bH (λ_=>(λq'=>∃(L9 V M2 X2 Y2:List L2.T)(o3:Sl),q'=[.r b,.o (.l X2),.o (.l Y2),o3]/\SpL a.bx X2 L9/\SpL a.bx Y2 V.reverse/\kJ V M2/\L1++(d::Md++M')=L9++M2/\M2.length=Md.length+M'.length,?_,?_)) (λz=>absurd (by cases Y' <;> rfl) z)
   ·rintro q' ⟨L9,V,M2,X2,Y2,o3,rfl,h1,h2,h3,h4,h5⟩
    exact(_,(by rw[pL,rl];lia),L9,V,M2,X2,Y2,o3,U,h1,h2,h3,h4,U)
   ·refine(Y',_,U,hY.ims,by decide,(U,by decide,_,U,d,bs,_,U,hb,λY2 av=>?_))
    let aP:=av.1;let aM:=aD.len;let aK:=az.len;refine(av.ims,QH (bj (by rw[VT];lia)),bj (by lia),U,?_)
    refine(L1 ++ [d],bs++ds,Md++M',_,_,_,U,hX.app .one,?_,aD.app az,by simp,by simp)
    rw[List.reverse_append];exact aF.app av.rev
theorem Ew(T:Txt K mg a):bb P w K mg base CX0 5 a.mO a.zK ["body"] (spQ K Hg):=by
 refine T.Ac.F.okQ D7 (λts Q h=>?_) (λ_ _ _ _ _ _ hr=>?_)
 ·let(_,_,U,_):=h;rfl
 ·refine(_,_,((ai (aQ (bM U (gF (Za (a8 (HU T) hr T.DK (ae (qv 0) au)))) (N':=["spot"]) (.own U .nil) (bQ (g:=(Tg.nm 0)) (λ_ _ _ _ _=>((dO 0),(Zb (Cr T.mV T.g6 (qv 0)))))))))),λts Q h=>?_)
  let(b,L,U,hL,hl,hq):=h;refine(b,L,U,hL,hl,λYz V=>?_)
  let q:=V.1;refine(bj (by lia),λi ys=>ys=L.take i,U,λi y ys z e=>?_,λys e=>?_)
  ·subst e;let hi:i<L.length:=by rw[<- q];exact(kf.mp z).1
   let(a1,r1,e1):=V.2 i L[i] (eO hi);rw[e1]at z;cases z;refine(_,U,U,(by decide),_,U,cn hL.ims (Wr hi),?_)
   rw[wh,eO hi];rfl
  ·subst e;rw[q,tI];exact hq
theorem jq(T:Txt K mg a):bb P w K mg base CX0 6 a.bL a.c6 [Ze] (spL K 0 (LI a.az)):=by
 refine T.cv.okL aX (λts Q h=>?_) (λ_ _ _ _ _ _ hr=>?_) λts Q h=>?_
 ·let(_,_,_,_,_,_,_,_,_,_,_,_,U,_):=h;rfl
 ·let hu:=cC hr;refine(_,_,((ag (aC 1 aX.nd (Zb (bO (bC T.aF T.aN (aU (j:=0))))))
 (ag (aC 2 aX.nd (Zb (bg (bO (bC T.aF T.bJ (aU (j:=0)))) (ar (qv 1) ah))))
 (ag (aC 3 aX.nd bS)
 (ai (cw (g:=(Tg.tp [4,5,6])) PassesOwn.never U (gX (Zb (ar (qv 1) ah))) (fk (K:=K) U U (aW (bu 4 aX.nd) (aW (bu 5 aX.nd) (aW (bu 6 aX.nd) fj))))
 (ag (bc (cf hu (qv 4) (ar (qv 2) ah))
 (ag (KS U (bC T.aF T.bJ (aU (j:=0))) (AX U U T.lH U T.Dt (ae (qv 5) (ae (ar (qv 2) ah) au))))
 (ag (cz T.aF T.gn (gi T) hr.bw T.hJ (aU (j:=0)) (ae (qv 6) (ae (qv 3) au)))
 (ai yD)))
 aT)
 (ai (Co (i:=3) aX.nd (Za (bP T.cD (ae (Za (a8 (Ew T) hr T.Ac (ae (qv 6) au))) au)))))))))))),λts Q t0 a0 h ht ha=>?_)
  let(x,f,n,z,arms,Ls,mk,us,ns,j,ys,b,U,aM,a6,hv,av,hA,hj,aP,a5,a4,hq):=h;cases ht;cases ha;let a7:=(kf.mp hj).1;let aK:(L2.T.t [.s "case",.s z,.t (arms.map fC)]).im=true:=by show(O&&(O&&(L2.T.ims _&&O)))=O;rw[hA.im];rfl
  let aD:=by show(O&&(L2.T.ims us&&O))=O;rw[av];rfl
  refine(U,_,U,aK,(U,_,U,.s z,U,_,hv,aD,(_,U,hA.im,((λi q=>∃(k:Int)(o4 o5 o6:Sl),q=[.o (fT a.az a0 f n (.t [.s "case",.s z,.t (arms.map fC)]) ns),.o (.t [.s "case",.s z,.t (arms.map fC)]),.o (.t [.s mk,.t us]),.o (.i k),o4,o5,o6]/\k=(ahd Ls i:Nat)/\i<=j,(0,_,_,_,U,U,JG _),?_,?_)))))
  ·rintro i y q hy ⟨k,o4,o5,o6,rfl,rfl,V⟩
   rw[j5]at hy;let(arm,nZ,U):=kg.mp hy;let(L,e1,e2,e3,e4):=hA.at nZ;refine(_,U,_,U,U,bH (λg=>?_) (λg=>?_))
   ·let g:arm.1=mk:=by have:=of_decide_eq_true g;cases this;rfl
    let a3:i=j:=Nat.le_antisymm V (W7 λz'=>aP i arm z' nZ g)
    subst a3;rw[hj]at nZ;cases nZ;refine(U,_,U,_,U,br _,av,aM,J1 av,_,_,u7 ys us,?_,U,?_)
    ·refine QH (bj ?_);rw[NN,ej]
     lia
    ·exact(U,U,(by show(b.im&&(O&&O))=O;rw[e4];rfl),a0,f,n,_,_,b,_,U,e4,U,U,_,U,(_,U,U,hq))
   ·let g:arm.1≠mk:=λz'=>g (decide_eq_true (by rw[z']))
    let IF:i<j:=Ye V λz'=>by
     subst z';rw[hj]at nZ;cases nZ;exact g U
    exact(_,U,arm.2.2,L,U,e2,e3,(_,_,_,_,U,by rw[zR e1];push_cast;rfl,IF))
  ·rintro q ⟨k,o4,o5,o6,rfl,rfl,V⟩
   rw[ej]at V
   lia
 ·let(_,_,_,_,_,_,_,_,_,_,_,_,U,_):=h;exact(_,_,U,U)
theorem pe(T:Txt K mg a):bb P w K mg base CX0 3 a.c5 a.gB [Ze,Zl] (spL K 0 (Hm a.aD a.az)):=by
 refine T.eR.okL ji (λts Q h=>?_) (λ_ _ _ _ _ _ hr=>?_) λts Q h=>?_
 ·let(_,_,_,_,_,_,_,_,_,_,_,U,_):=h;rfl
 ·refine(_,_,((ag (aC 2 ji.nd (Zb (bg (bO (bC T.aF T.bJ (cR (j:=0) (i:=1)))) (ar (bO (bC T.aF T.aN (cR (j:=0) (i:=1)))) ah))))
 (ag (K3 (bC T.aK T.bG (aU (j:=0))))
 (ai (bc (cK (bO (bC T.aK T.bG (aU (j:=0)))))
 (ai (cz T.aF T.du (dr T) hr.bw T.dS (N3 (bC T.aK T.bG (aU (j:=0))) (Hs Aj bA) (λ_ _ _ h=>(1,U,h))) (ae (qv 2) au)))
 (ai (cz T.aK T.fh (fg T) hr.bw T.fM (aU (j:=0)) (ae (Za (ax (af aA (af (Zb (qv 2)) ak)))) au)))))))),λts Q t0 a0 h ht ha=>?_)
  let(x0,x,fns,frs,f,n,z,ns,v,c,m,U,av,hv,q,aM,hq):=h;cases ht;cases ha;refine(x,_,wy frs,_,_,_,.inl U,U,aS,U,_,U,x,_,wy frs,_,_,_,.inl U,U,aS,U,_,U,.s z,U,v,hv,q,(U,_,U,WV _ (Rk _ _),_,U,?_));rw[Xa];obtain⟨rfl,hq⟩|⟨dv,x',f',n',ps',ns',y,b,hb,hq⟩:=hq
  ·exact(U,_,U,(U,U,q,(by show((O&&(v.im&&O))&&O)=O;rw[q];rfl),a0,_,_,c,m,.n,_,U,(by show(O&&(v.im&&O))=O;rw[q];rfl),U,U,_,U,(_,U,U,hq)))
  ·let(U,i1,i2,i3,i4,V):=hb;exact(U,_,U,(bH (λ_=>(U,_,U,dv.length,_,Iz,IT,U,U,(by show(v.im&&O)=O;rw[q];rfl),x',f',n',ps',ns',v,y,b,U,q,i1,i2,i3,i4,V,U,U,_,U,(_,U,ku (C:=a.aD) (a:=a0) (fns:=fns) (frs:=dv) (c:=c) (n:=m) (e:=.n) (t:=fT a.az x' f' n' (.t ps') ns') hq))) λg=>absurd (by cases dv <;> rfl) g))
 ·let(_,_,_,_,_,_,_,_,_,_,_,U,_):=h;exact(_,_,U,U)
theorem Bl(T:Txt K mg a):bb P w K mg base CX0 7 a.iA a.oh [Ze,Zl] (spL K 0 (UL a.aD a.az)):=by
 refine T.kB.okL kX (λts Q h=>?_) (λ_ _ _ _ _ _ hr=>?_) λts Q h=>?_
 ·let(_,_,_,_,_,_,_,_,_,_,_,U,_):=h;rfl
 ·let hu:=cC hr;refine(_,_,((ag (aC 2 kX.nd (Zb (ar (bO (bC T.aF T.aN (cR (j:=0) (i:=1)))) ah)))
 (ai (bc (cf hu (qv 2) (Za aA))
 (ai (cz T.aK T.pj (pe T) hr.bw T.sV (aU (j:=0)) (ae (qv 1) au)))
 (ai (bc (cf hu (qv 2) (Za aA))
 (ai (cz T.aK T.ph (pb T) hr.bw T.sU (aU (j:=0)) (ae (qv 1) au)))
 (ai (bc (cf hu (qv 2) (Za aA))
 (ag (aC 3 kX.nd (a8 (wX T) hr T.oU (ae (bO (bC T.aK T.cS (aU (j:=0)))) (ae (ar (bO (bC T.aF T.aN (cR (j:=0) (i:=1)))) ah) au))))
 (ai (K6 (bC T.aK T.bG (aU (j:=0))) (mv T.zd (kO T O) hr.bw U T.zc T.mY (ae (bO (bC T.aK T.cS (aU (j:=0)))) (ae (qv 3) (ae (Za (yE T.aF T.gm (gh T) hr.bw T.gM (bO (cR (j:=0) (i:=1))) (ae (ar (bO (bC T.aF T.aN (cR (j:=0) (i:=1)))) ah) au))) au)))))))
 (ai (bc (cf hu (qv 2) (Za aA))
 (ai (cz T.aF T.du (dr T) hr.bw T.dS (cR (j:=0) (i:=1)) (ae (bg (bO (bC T.aF T.bJ (cR (j:=0) (i:=1)))) (ar (bO (bC T.aF T.aN (cR (j:=0) (i:=1)))) ah)) au)))
 (ai (bc (cf hu (qv 2) (Za aA))
 (ai (Ee T.aF T.jr (jq T) hr.bw T.j7 (cR (j:=0) (i:=1))))
 (ai (cz T.aK T.nT (nS T) hr.bw T.pE (aU (j:=0)) (ae (qv 1) (ae (qv 2) au)))))))))))))))),λts Q t0 a0 h ht ha=>?_)
  let(x0,x,gs,frs,f,n,p,ns,c,m,r,U,hf,q,hl,aM,hs,av,hq):=h;let V:ns.length<1000:=Xi hl (by decide)
  cases ht;cases ha;cases hs with
  |@short k _ b _ h1 h2 =>
   refine(x,_,wy frs,_,_,_,.inl U,U,aS,U,_,U,.s "pay",U,U,?_);refine(U,U,U,U,U,U,U,U,a0,x,_,frs,f,n,_,k,b,ns,c,m,U,h1,.inl U,λ_=>(U,U,_,U,?_),λg=>absurd h2 g.2,λg=>absurd g (by decide))
   exact(_,U,U,hq _ U)
  |@pay k _ b _ h1 h2 =>
   refine(x,_,wy frs,_,_,_,.inl U,U,aS,U,_,U,.s "pay",U,U,?_);refine(U,U,U,U,U,U,U,U,a0,x,_,frs,f,n,_,k,b,ns,c,m,U,h1,.inl U,λg=>absurd g.2 h2,λ_=>(U,U,_,U,?_),λg=>absurd g (by decide))
   exact(_,U,U,hq _ U)
  |@get k _ b _ h1 =>
   refine(x,_,wy frs,_,_,_,.inl U,U,aS,U,_,U,.s "get",U,U,?_);refine(U,U,U,U,U,U,U,U,a0,x,_,frs,f,n,_,k,b,ns,c,m,U,h1,.inr U,λg=>absurd g.1 (by decide),λg=>absurd g.1 (by decide),λ_=>(U,U,_,U,?_))
   exact(_,U,U,hq _ U)
  |@name y z v b _ _ h1 h2 h3 =>
   refine(x,_,wy frs,_,_,_,.inl U,U,aS,U,_,U,.s "name",U,U,?_);refine(U,U,U,U,x,_,wy frs,_,_,_,.inl U,U,aS,U,U,x,_,wy frs,_,_,_,.inl U,U,aS,U,_,U,?_);refine(x,_,wy frs,_,_,_,.inl U,U,aS,U,_,U,.s z,U,v,h2,(by show(v.im&&O)=O;rw[h3];rfl),x,f,n,_,ns,v,y,b,U,h3,q,V,(by show(O&&(O&&(O&&(b.im&&O))))=O;rw[h1];rfl),U,U,U,U,_,U,?_)
   exact(_,U,ku (t:=fT a.az x f n (.t [.s "name",.s y,.s z,b]) ns) (hq _ U))
  |@great y mk ys vs b _ _ h1 h2 h3 h4 h5 =>
   refine(x,_,wy frs,_,_,_,.inl U,U,aS,U,_,U,.s "make",U,U,?_);refine(U,U,U,U,U,a0,x,_,frs,f,n,y,mk,ys,vs,b,ns,c,m,U,h1,q,V,h2,h3,h4.1,λ_=>(U,U,_,U,?_),λz=>absurd h5 z)
   exact(_,U,U,hq _ U)
  |@make y mk ys vs b _ _ h1 h2 h3 h4 h5 =>
   refine(x,_,wy frs,_,_,_,.inl U,U,aS,U,_,U,.s "make",U,U,?_);refine(U,U,U,U,U,a0,x,_,frs,f,n,y,mk,ys,vs,b,ns,c,m,U,h1,q,V,h2,h3,h4.1,λz=>absurd z h5,λ_=>(U,U,_,U,?_))
   exact(_,U,U,hq _ U)
  |@call y nm ys vs b _ _ h g h1 h2 h3 h4 h5 h6 h7 =>
   refine(x,_,wy frs,_,_,_,.inl U,U,aS,U,_,U,.s "call",U,U,?_);refine(U,U,U,U,_,U,x,_,wy frs,_,_,_,.inl U,U,aS,U,_,U,.s nm,U,gs,nm,h,g,U,hf,h4,h5,h6,?_);refine(U,_,U,bj (by rw[pL];show frs.length+1<=_;lia),?_)
   refine(U,_,U,x,_,wy frs,_,_,_,.inl U,U,aS,U,U,x,_,wy frs,_,_,_,.inl U,U,aS,U,_,U,.t (ys.map .s),U,?_);refine(x,f,n,_,ns,ys,vs,U,h2,h3,?_);let aP:(L2.T.t (gs.map WF.t)).im=true:=hf;refine λx'=>?_
   refine(x',gs,h,g,vs,.t vs,U,hf,h4,h7,h3.ims,.inl (U,U),U,U,?_);exact(_,U,_,U,U,hq _ (x',g,h4,U))
  |@give _ z v _ h1 h2 =>
   refine(x,_,wy frs,_,_,_,.inl U,U,aS,U,_,U,.s "give",U,U,?_);refine(U,U,U,U,a0,x,_,frs,f,n,z,ns,v,c,m,U,q,h1,h2,aM,?_);obtain rfl |⟨dv,x',f',n',ps',ns',y,b,hb⟩:=av
   ·exact .inl (U,U,U,_,U,_,U,U,hq _ (.inl (U,U)))
   ·exact .inr (dv,x',f',n',ps',ns',y,b,hb,U,U,_,U,_,U,U,hq _ (.inr (dv,x',f',n',ps',ns',y,b,hb,U)))
  |@case _ z mk us _ arms Ls j ys b h1 h2 h3 h4 h5 h6 h7 =>
   refine(x,_,wy frs,_,_,_,.inl U,U,aS,U,_,U,.s "case",U,U,?_)
   refine(U,U,U,U,U,x,_,wy frs,_,_,_,.inl U,U,aS,U,U,U,x,f,n,z,arms,Ls,mk,us,ns,j,ys,b,U,q,hl,h1,h2,h3,h4,h5,h6,h7,U,U,_,U,?_);exact(_,U,ku (hq _ U))
 ·let(x0,x,gs,frs,f,n,p,ns,c,m,r,U,_):=h;exact(_,_,U,U)
theorem w5(T:Txt K mg a):bb P w K mg base CX0 8 a.fB a.jR [Ze] (spL K 0 (wG a.aD a.az)):=by
 refine T.gO.okL vT (λts Q h=>?_) (λ_ _ _ _ _ _ hr=>?_) λts Q h=>?_
 ·obtain⟨_,_,_,_,_,_,_,_,_,_,_,rfl,_⟩|⟨_,_,_,_,_,rfl,_⟩:=h <;> rfl
 ·refine(_,_,((ag (bc (cj rY lX (bz _) (bO (bC T.aK T.cY (aU (j:=0)))) (Za cX))
 (ag (wq T.aK T.iW Bx (aU (j:=0)) ah)
 (ai (cz T.aK T.Br (Bl T) hr.bw T.E9 (aU (j:=0)) (ae (Za (O9 (N3 (bC T.aK T.bG (aU (j:=0))) (Hs Aj bA) (λ_ _ _ h=>(1,U,h))))) au))))
 aT)
 (ai (KY (iR rY lX (bz _) (bO (bC T.aK T.cY (aU (j:=0)))) (Za cX)))))),λts Q t0 a0 h q ha=>?_)
  obtain⟨x0,x,gs,frs,f,n,p,ns,c,m,r,rfl,hf,z,hl,av,hs,V,hq⟩|⟨x0,fns,c,m,ps,rfl,hi,hq⟩:=h
  ·cases q;cases ha;refine(U,_,U,U,by decide,m,U,_,U,(U,U,U,_,U,frs.length,fT a.az x f n p ns,?_,?_,U,a0,x,gs,frs,f,n,p,ns,c,m+1,r,U,hf,z,hl,av,hs,V,λt q=>?_))
   ·rw[pL];show(if -((frs.length+1):Int) <= -1 then Z (-1+((frs.length+1):Int)).toNat else Y)=Z frs.length
    rw[if_pos (by lia)]
    congr 1
    lia
   ·rw[vr (m9 _),WD];rfl
   ·cases r with
    |on n' p' ns' c' =>
     obtain rfl:=q;exact(U,U,_,U,(U,_,U,_,U,U,hq _ U))
    |push g vs =>
     let(x',g',hg,U):=q;exact(U,U,_,U,((U,_,U,_,U,U,hq _ (x',g',hg,U))))
    |give v =>
     obtain⟨rfl,rfl⟩|⟨dv,x',f',n',ps',ns',y,b,hb,rfl⟩:=q
     ·exact(U,U,_,U,((U,_,U,_,U,U,hq _ (.inl (U,U)))))
     ·refine(U,U,_,U,?_)
      have:=hq _ (.inr (dv,x',f',n',ps',ns',y,b,hb,U))
      let e:CP frs (.give v)=true:=by rw[hb.e];cases dv <;> rfl
      rw[e]at this;exact(U,_,U,_,U,U,this)
    |fin c' e' =>
     obtain⟨ps,rfl⟩:∃ps,e'=.t ps:=by cases hs <;> exact(_,U)
     obtain rfl:=q;exact(U,U,_,U,(U,_,U,_,U,U,hq _ U))
  ·cases q;cases ha;exact(U,_,U,U,_,U,_,U,U,hq)
 ·obtain⟨x0,x,gs,frs,f,n,p,ns,c,m,r,rfl,_⟩|⟨x0,fns,c,m,ps,rfl,_⟩:=h
  ·exact(_,_,U,U)
  ·exact(_,_,U,U)
theorem HX(T:Txt K mg a):bb P w K mg base CX0 97 a.qw a.Dh [Zm,Zh,Zo] (spM K 1 LJ):=by
 refine T.qG.F.okM l5 (λts Q h=>?_) (λ_ _ _ _ _ _ hr=>?_)
 ·let(_,_,_,_,_,_,_,_,U,_):=h;rfl
 ·let hu:=cC hr;refine(_,_,((ag (iO (i:=1) hu (pv 1) (Za aA) (Za (c9 (gc (bg (qv 1) (Za aA)) iQ (iP (Za (gY ah)))))))
 (ai (bc (cj (HN (zx hr) U) Cd (bz _) (bg (qv 1) (Za aA)) (Za (aH ak)))
 (ai (d7 (i:=1) (u9 T) hr.bw U T.dE.m T.dE.F.kp T.dE.b (d8 (pv 1) (ae (Za (ax (af aA (af (Zb (qv 2)) ak)))) au))))
 (ag (iN (g:=(Tg.tp [3,4,5])) (ar (bg (qv 1) (Za aA)) (Za (gY ah))) (fk U U (aW (bu 3 l5.nd) (aW (bu 4 l5.nd) (aW (bu 5 l5.nd) fj)))))
 (ai (d7 (i:=1) (j:=0) (HV T ϊ) hr.bw U T.kK.m T.kK.F.kp T.kK.b (d8 (i:=1) (pv 1) (ae (Za (aV (qv 4) ah)) (ae (Za (c9 (aH (af (Zb (ar (ar (Za (a8 (kq T 93) hr T.iF (ae (ar (ar (ar (qv 0) ah) (qv 3)) ah) au))) (qv 4)) ah)) ak)))) (ae (Za (c9 (aH (af (Zb (qv 2)) ak)))) au))))))))))),λts Q pp aM h V=>?_)
  let(a0,ks,gs,stk,fr,c,m,v,U,hv,z,aN,aD,av,aF,hq):=h;cases V;let cl:=jU (xs:=stk) (x:=fr);refine(_,U,(by rw[cl];exact av),(by show 4<mu;decide),U,U,?_)
  rw[cl];refine(_,U,stk,[],0,U,U,JG _,λj x y _ h=>by simp at h,λcc az=>?_)
  obtain⟨rfl,hq⟩|⟨lU,f',n',o',vs',ns',y,hg,hq⟩:=hq
  ·obtain rfl:=az.mpr U;exact(U,hv,(by show((O&&(v.im&&O))&&O)=O;rw[hv];rfl),pp,_,c,m,.n,_,U,U,(by show(O&&(v.im&&O))=O;rw[hv];rfl),(_,U,(by show(O&&(O&&(O&&((O&&(v.im&&O))&&O))))=O;rw[hv];rfl),hq))
  ·let(U,(g,L,ps,eg,hL,aK,hp,hy),q):=hg;cases cc with
   |true=>exact absurd (az.mp U) (WV _ (Rk _ _))
   |false =>
    let eg:atI (gs.map WF.t) (f':Int)=Z g.t:=cH (by rw[j5,eg];rfl)
    let s1:=ij λt V=>gf av (qF _ V)
    let s2:=cp λt V=>cn aF (qF _ V)
    rw[pL]at aD;refine(_,U,_,L2.m5 _ _,U,_,U,?_);refine(U,_,U,g.t,eg,g.b,U,g.b,L,U,hL,aK,_,cH hp,.s y,cH hy,U,U,hv,(by show(v.pln&&O)=O;rw[z];rfl),U,pp,lU,f',n',(n':Int)+1,o',vs',ns',c,m,[y],[v],.zl [.s y],.zl [v],U,q.1,q.2.1,(by have:=q.2.2;show ns'.length+1<1000;lia),U,(by show(v.im&&O)=O;rw[hv];rfl),(by show(v.pln&&O)=O;rw[z];rfl),by lia,s1,s2,U,U,λo2 vs2=>?_)
    exact(_,U,U,hq o2 vs2)
theorem wZ(T:Txt K mg a):bb P w K mg base CX0 97 a.gL a.oM [Zh,Zv,ZL,Zo] (spM K 0 Ba):=by
 refine T.gR.F.okM c8 (λts Q h=>?_) (λ_ _ _ _ _ _ hr=>?_)
 ·let(_,_,_,_,_,_,_,_,_,_,_,_,_,_,_,_,_,_,U,_):=h;rfl
 ·let hu:=cC hr;refine(_,_,((ag (aC 4 c8.nd (aV (qv 1) ah))
 (ai (cw (g:=(Tg.tp [5,6,7])) PassesOwn.never U (gX (Zb (ar (qv 2) ah))) (fk U U (aW (bu 5 c8.nd) (aW (bu 6 c8.nd) (aW (bu 7 c8.nd) fj))))
 (ag (bc (cf hu (qv 5) (ar (qv 3) ah))
 (ag (d7 (HV T O) hr.bw U T.kK.m T.kK.F.kp T.kK.b (d8 (pv 0) (ae (qv 4) (ae (qv 6) (ae (ar (qv 3) ah) au)))))
 (ai yD))
 aT)
 (ai (aC 4 c8.nd (aV (qv 4) (Za (bP T.cD (ae (Za (a8 (kq T 93) hr T.iF (ae (qv 7) au))) au))))))))))),λts Q pp a3 h ht=>?_)
  let(a0,stk,f,n0,n,o,vs,ns,c,m,z,mk,us,arms,Ls,j,ys,b,U,av,az,aD,a5,aK,aM,hA,hj,aN,aF,a4,hq):=h;cases ht;let a6:=(kf.mp hj).1;refine(_,U,hA.im,((λi q=>∃(k:Int)(o5 o6 o7:Sl),q=[.o (.dp pp (stT (stk ++ [frL f n0 o vs ns]) c m .n)),.r (.i n),.r (.t [.s "case",.s z,.t (arms.map fC)]),.r (.t [.s mk,.t us]),.o (.i k),o5,o6,o7]/\k=n+(1+(ahd Ls i:Nat))/\i<=j,(_,_,_,_,U,U,JG _),?_,?_)))
  ·rintro i y q hy ⟨k,o5,o6,o7,rfl,hk,V⟩
   rw[j5]at hy;let(arm,nZ,U):=kg.mp hy;let(L,e1,e2,e3,e4):=hA.at nZ;refine(_,U,_,U,U,bH (λg=>?_) (λg=>?_))
   ·let g:arm.1=mk:=by have:=of_decide_eq_true g;cases this;rfl
    let aP:=Nat.le_antisymm V (W7 λz'=>aN i arm z' nZ g)
    subst aP;rw[hj]at nZ;cases nZ;rw[<- hk]at hq;refine(U,_,U,(by show(O&&(L2.T.ims (ys.map .s)&&(L2.T.ims us&&O)))=O;rw[br,az];rfl),pp,stk,f,n0,k,o,vs,ns,c,m,ys,us,_,_,U,av.1,av.2.1,(by have:=av.2.2;lia),aF,az,aD,by lia,aK,aM,U,U,λo' vs'=>?_)
    exact(U,_,U,U,hq o' vs')
   ·let g:arm.1≠mk:=λz'=>g (decide_eq_true (by rw[z']))
    let IF:=Ye V λz'=>by
     subst z';rw[hj]at nZ;cases nZ;exact g U
    refine(arm.2.2,L,U,e2,by lia,?_)
    exact(_,_,_,_,U,by rw[zR e1,hk];lia,IF)
  ·rintro q ⟨k,o5,o6,o7,rfl,hk,V⟩
   rw[ej]at V
   lia
theorem Mt(T:Txt K mg a):bb P w K mg base CX0 98 a.xu a.Jg [Zm,Zh] (spM K 1 wH):=by
 refine T.x5.F.okM d3 (λts Q h=>?_) (λ_ _ _ _ _ _ hr=>?_)
 ·let(_,_,_,_,_,_,_,_,_,_,_,_,_,_,_,U,_):=h;rfl
 ·let hu:=cC hr;refine(_,_,((ag (iN (g:=(Tg.tp [2,3,4])) (ar (bg (qv 1) (Za aA)) (Za (gY ah))) (fk (K:=K) (n:=3) U U (aW (bu 2 d3.nd) (aW (bu 3 d3.nd) (aW (bu 4 d3.nd) fj)))))
 (ag (aC 5 d3.nd (Zb (ar (Za (a8 (kq T 93) hr T.iF (ae (ar (ar (ar (qv 0) ah) (qv 2)) ah) au))) (qv 3))))
 (ag (aC 6 d3.nd (Zb (ar (qv 5) ah)))
 (ag (iO (i:=1) hu (pv 1) (Za aA) (Za (aV (bg (qv 1) (Za aA)) ah)))
 (ai (bc (cf hu (qv 6) (Za aA))
 (ag (aC 7 d3.nd (ax (af (Zb (ar (qv 5) ah)) (af (aY (bW U) bU (by rfl) T.cT (by kernel_rfl) (ae (Za (bM U (d9 (ar (qv 5) ah)) (N':=["_law_y",ZH]) (.own U (.got (i:=4) U U (.inl U) .nil)) (bQ (g:=(Tg.nm 0)) (λ_ _ _ _ _=>((dO 0),(Zb (bg (qv 1) (qv 0)))))))) au)) ak))))
 (ag (iN (g:=(Tg.tp [8,9])) (Za (a8 (yZ T 90) hr T.x6 (ae (qv 7) au))) (ik (bu 8 d3.nd) (bu 9 d3.nd)))
 (ai (bc (QPW.pt (oE (uU (qv 8) ah) (nI (uU (qv 9) ah))))
 (ai (d7 (i:=1) (j:=0) (u9 T) hr.bw U T.dE.m T.dE.F.kp T.dE.b (d8 (i:=1) (pv 1) (ae (Za (ax (af aA (af (Zb (ar (qv 5) ah)) ak)))) au))))
 (ai (d7 (i:=1) (j:=0) (HV T ϊ) hr.bw U T.kK.m T.kK.F.kp T.kK.b (d8 (i:=1) (pv 1) (ae (Za (aV (qv 3) ah)) (ae (Za (c9 (aH (af (Zb (ar (qv 5) ah)) ak)))) (ae (Za (c9 (aH (af (Zb (qv 7)) ak)))) au))))))))))
 (ai (bc (cf hu (qv 6) (Za aA))
 (ag (aC 10 d3.nd (GR (Za (bM U (d9 (ar (qv 0) ah)) (N':=["_law_head"]) (.own U .nil) (bQ (g:=(Tg.nm 0)) (λ_ _ _ _ _=>((dO 0),(Zb (ar (qv 0) ah))))))) (ar (qv 5) ah)))
 (ag (ko (i:=11) d3.nd U (Or.inl U) U (d9 (ar (qv 5) ah)) (N':=["_law_y",ZH]) (.own U (.got (i:=4) U U (.inl U) .nil)) (bQ (g:=(Tg.nm 0)) (λ_ _ _ _ _=>((dO 0),(Zb (bg (qv 1) (qv 0)))))))
 (ai (iO (i:=1) hu (pv 1) (Za aA) (Za (c9 (Lr (bg (qv 1) (Za aA)) (bg (Za (a8 (y3 T ϊ) hr T.qH (ae (qv 0) (ae (qv 10) (ae (qv 11) (ae ah au)))))) (Za aA)))))))))
 (ai (bc (cf hu (qv 6) (Za aA))
 (ai (d7 (i:=1) (j:=0) (HV T ϊ) hr.bw U T.kK.m T.kK.F.kp T.kK.b (d8 (i:=1) (pv 1) (ae (Za (aV (qv 3) ah)) (ae (Za (c9 (aH (af (Zb (ar (qv 5) ah)) ak)))) (ae (Za (c9 (aH (af (Zb (bg (qv 4) (ar (qv 5) ah))) ak)))) au))))))
 (ai (bc (cf hu (qv 6) (Za aA))
 (ai (d7 (i:=1) (j:=0) (wZ T) hr.bw U T.gR.m T.gR.F.kp T.gR.b (d8 (i:=1) (pv 1) (ae (qv 3) (ae (qv 5) (ae (bg (qv 4) (ar (qv 5) ah)) au))))))
 (ai (bc (cf hu (qv 6) (Za aA))
 (ai (d7 (i:=1) (j:=1) (HX T) hr.bw U T.qG.m T.qG.F.kp T.qG.b (Cp (qv 0) (d8 (i:=1) (pv 1) (ae (bg (qv 4) (ar (qv 5) ah)) au)))))
 (ai (bc (QPW.pt (rB (cf hu (qv 6) (Za aA)) (mj (Cn (bg (qv 1) (Za aA)) (ar (qv 5) ah)))))
 (ai (d7 (i:=1) (j:=0) (u9 T) hr.bw U T.dE.m T.dE.F.kp T.dE.b (d8 (i:=1) (pv 1) (ae (Za (ax (af aA (af (Zb (ar (qv 5) ah)) ak)))) au))))
 (ag (iO (i:=1) hu (pv 1) (Za aA) (Za (aV (bg (qv 1) (Za aA)) (Za (rE (ar (qv 5) ah) (Za (k6 (aH (af bS (af (gY ah) ak))) (Za (aY oj vQ (by rfl) T.Dv (by kernel_rfl) (ae (Za (iR (Bi hu U) vR (bz _) (qv 6) (Za aA))) au))))))))))
 (ai (d7 (i:=1) (j:=0) (HV T ϊ) hr.bw U T.kK.m T.kK.F.kp T.kK.b (d8 (i:=1) (pv 1) (ae (Za (aV (qv 3) ah)) (ae (Za (c9 (aH ak))) (ae (Za (c9 (aH ak))) au)))))))))))))))))))))))),λts Q pp bx h ht=>?_)
  let(a0,ks,gs,stk,f,n,o,vs,ns,c,m,g,L,p,r,U,a5,aP,aD,bG,hg,hL,a7,hp,q,aN,V,av,hs,a6,hq):=h;cases ht;let eg:atI (gs.map WF.t) (f:Int)=Z g.t:=cH (by rw[j5,hg];rfl)
  let Jb:atI (stk ++ [frL f n o vs ns]) (-1)=Z (frL f n o vs ns):=L2.m5 _ _;let aF:p.im=true:=cn hL.ims (px hp);refine(_,U,_,Jb,U,_,U,?_);refine(_,U,g.t,eg,g.b,U,g.b,L,U,hL,a7,p,cH hp,aF,?_);cases hs with
  |@short k _ b _ h1 h2 =>
   refine(_,U,U,?_);refine(_,U,(by show 4<mu;decide),U,U,?_)
   refine(U,U,U,U,U,U,_,U,_,U,bH (λ_=>?_) (λz=>absurd (decide_eq_true h2) z))
   refine(U,_,U,U,U,pp,_,c,m+1,.n,_,U,U,U,?_);exact(_,U,U,hq _ U)
  |@pay k _ b _ h1 h2 =>
   refine(_,U,U,?_);refine(_,U,(by show 4<mu;decide),U,U,?_)
   refine(U,U,U,U,U,U,_,U,_,U,bH (λz=>absurd (of_decide_eq_true z) h2) (λ_=>?_))
   refine(_,U,_,U,U,.i (-1),by rfl,.inr (by decide,by decide),(by show 4<mu;decide),U,U,?_)
   refine(U,U,U,U,pp,stk,f,n,(n:Int)+1,o,vs,ns,c+k * -1,m+1,[],[],.zl [],.zl [],U,q.1,q.2.1,Xi q.2.2 (by decide),U,U,U,by lia,V,av,U,U,λo' vs'=>?_)
   exact(_,U,U,hq _ (o',vs',by rw[show c - k=c+k * -1 by lia];rfl))
  |@get k _ b _ h1 =>
   refine(_,U,U,?_);refine(_,U,(by show 4<mu;decide),U,U,?_)
   refine(U,U,U,U,U,U,?_);refine(_,U,_,U,U,.i 1,by rfl,.inr (by decide,by decide),(by show 4<mu;decide),U,U,?_)
   refine(U,U,U,U,pp,stk,f,n,(n:Int)+1,o,vs,ns,c+k*1,m+1,[],[],.zl [],.zl [],U,q.1,q.2.1,Xi q.2.2 (by decide),U,U,U,by lia,V,av,U,U,λo' vs'=>?_)
   exact(_,U,U,hq _ (o',vs',by rw[show c+k=c+k*1 by lia];rfl))
  |@name y z v b _ _ h1 h2 h3 =>
   refine(_,U,U,?_);refine(_,U,(by show 4<mu;decide),U,U,?_)
   refine(U,U,U,?_);let vp:=q.pln h2;refine(U,_,U,U,U,_,U,_,h2,h3,(by show(v.pln&&O)=O;rw[vp];rfl),U,pp,stk,f,n,(n:Int)+1,o,vs,ns,c,m+1,[y],[v],.zl [.s y],.zl [v],U,q.1,q.2.1,(by have:=q.2.2;show ns.length+1<1000;lia),U,(by show(v.im&&O)=O;rw[h3];rfl),(by show(v.pln&&O)=O;rw[vp];rfl),by lia,V,av,U,U,λo' vs'=>?_)
   exact(_,U,U,hq _ (o',vs',U))
  |@great y mk ys us b _ _ h1 h2 h3 h4 h5 =>
   refine(_,U,U,?_);refine(_,U,(by show 4<mu;decide),U,U,?_)
   refine(U,_,U,U,_,U,?_);refine(bj (by rw[ej];lia),λi zs=>zs=(us.map Vl.t).take i,U,λi z zs hz e=>?_,λzs e=>?_)
   ·subst e;rw[j5]at hz;let(y',az,U):=kg.mp hz;let(v,g1,g2,g3):=h3.2 i y' az;refine(_,U,v,g2,g3,?_);rw[wh,g1];rfl
   ·subst e;rw[ej,<- h3.1,tI];refine(Vl.ims us,?_);let et:(L2.T.t [.s mk,.t (us.map Vl.t)])=(Vl.mk mk us).t:=by rw[Vl.Ap];rfl
    refine(Vl.mk mk us,by rw[<- et],h4.2,h4.1,U,_,U,?_)
    refine bH (λ_=>?_) λz1=>bH (λ_=>?_) λz2=>?_
    ·refine(U,_,U,U,U,pp,_,c,m+1,.n,_,U,U,U,?_);exact(_,U,U,hq _ U)
    ·refine(U,_,U,U,U,pp,_,c,m+1,.n,_,U,U,U,?_);exact(_,U,U,hq _ U)
    ·exfalso
     let z1:¬((200:Int)<((Vl.mk mk us).sz:Nat)):=λz=>z1 (decide_eq_true z)
     let z2:¬((60:Int)<((Vl.mk mk us).dp:Nat)):=λz=>z2 (decide_eq_true z)
     lia
  |@make y mk ys us b _ _ h1 h2 h3 h4 h5 =>
   refine(_,U,U,?_);refine(_,U,(by show 4<mu;decide),U,U,?_)
   refine(U,_,U,U,_,U,?_);refine(bj (by rw[ej];lia),λi zs=>zs=(us.map Vl.t).take i,U,λi z zs hz e=>?_,λzs e=>?_)
   ·subst e;rw[j5]at hz;let(y',az,U):=kg.mp hz;let(v,g1,g2,g3):=h3.2 i y' az;refine(_,U,v,g2,g3,?_);rw[wh,g1];rfl
   ·subst e;rw[ej,<- h3.1,tI];refine(Vl.ims us,?_);let et:(L2.T.t [.s mk,.t (us.map Vl.t)])=(Vl.mk mk us).t:=by rw[Vl.Ap];rfl
    refine(Vl.mk mk us,by rw[<- et],h4.2,h4.1,U,_,U,?_)
    let aK:(L2.T.t [.s mk,.t (us.map Vl.t)]).im=true:=by rw[et];exact Vl.im _
    let a4:(L2.T.t [.s mk,.t (us.map Vl.t)]).pln=true:=by rw[et];exact Vl.pln _
    let i1:((L2.T.t [.s mk,.t (us.map Vl.t)]).im&&O)=true:=by rw[aK];rfl
    let p1:((L2.T.t [.s mk,.t (us.map Vl.t)]).pln&&O)=true:=by rw[a4];rfl
    rw[<- et]at hq;refine bH (λz1=>?_) λz1=>bH (λz2=>?_) λz2=>?_
    ·exact absurd (.inl (by have:=of_decide_eq_true z1;lia)) h5
    ·exact absurd (.inr (by have:=of_decide_eq_true z2;lia)) h5
    ·refine(U,_,U,U,U,aK,p1,U,pp,stk,f,n,(n:Int)+1,o,vs,ns,c,m+1,[y],[.t [.s mk,.t (us.map Vl.t)]],.zl [.s y],.zl [.t [.s mk,.t (us.map Vl.t)]],U,q.1,q.2.1,(by have:=q.2.2;show ns.length+1<1000;lia),U,i1,p1,by lia,V,av,U,U,λo' vs'=>?_)
     exact(_,U,U,hq _ (o',vs',U))
  |@call y nm ys us b _ _ h g' h1 h2 h3 h4 h5 h6 h7 =>
   refine(_,U,U,?_);refine(_,U,(by show 4<mu;decide),U,U,?_)
   refine(U,U,_,U,bj (by rw[ej];lia),λi zs=>zs=(gs.take i).map (·.nm),U,λi z zs hz e=>?_,λzs e=>?_)
   ·subst e;rw[j5]at hz;let(k,hk,U):=kg.mp hz;let(s',e1):=aD k (px hk);refine(_,U,k.nm,U,(by rw[e1];rfl),?_)
    rw[wh,hk];simp
   ·subst e;rw[ej,tI];refine(_,U,QM aD,U,h,Qr aD h4 h5 h6,?_);refine(_,U,bj (by rw[ej];lia),λi zs=>zs=us.take i,U,λi z zs hz e=>?_,λzs e=>?_)
    ·subst e;rw[j5]at hz;let(y',az,U):=kg.mp hz;let(v,g1,g2,g3):=h3.2 i y' az;refine(_,U,v,g2,g3,?_);rw[wh,g1];rfl
    ·subst e;rw[ej,<- h3.1,tI];let aM:=q.dz h3;refine(_,U,ks,gs,h,g',us,.l us,0,U,aP,h4,h7,h3.ims,aM,.inr (U,.inr U),λo' ws=>(_,U,?_))
     let Vd:L2.T.ims (stk ++ [frL f n o vs ns])=true:=cp λt ht=>by
      obtain z|z:=p7.mp ht
      ·exact cn av z
      ·rw[g5.mp z];rfl
     let Vb:L2.T.dz (stk ++ [frL f n o vs ns] ++ [frL h 0 o' ws (g'.names us)])=true:=ij λt ht=>by
      obtain z|z:=p7.mp ht
      ·obtain z|z:=p7.mp z
       ·exact gf V z
       ·rw[g5.mp z];show(O&&(O&&(L2.T.gC ns&&O)))=O;rw[q.2.1];rfl
      ·rw[g5.mp z];show(O&&(O&&(L2.T.gC (g'.names us)&&O)))=O;rw[WF.va aM];rfl
     refine(_,_,U,U,QH (bj (by rw[pL];show stk.length+1+1<=_;lia)),Vd,U,Vb,(by show 4<mu;decide),U,U,?_)
     exact(_,U,U,hq _ (o',ws,g',h4,U))
  |@give _ z v _ h1 h2 =>
   refine(_,U,U,?_);refine(_,U,(by show 4<mu;decide),U,U,?_)
   let vp:=q.pln h1;let bt:(L2.T.t [ks,.t (gs.map WF.t)]).im=true:=by show(ks.im&&(L2.T.ims (gs.map WF.t)&&O))=O;rw[a5,show L2.T.ims (gs.map WF.t)=O from aP];rfl
   refine(U,U,U,U,U,?_);refine(U,bt,.s z,U,v,h1,(by show(v.im&&O)=O;rw[h2];rfl),pp,ks,gs,stk,_,c,m+1,v,U,h2,vp,U,aN,V,av,?_)
   obtain rfl |⟨lU,f',n',o',vs',ns',y,hb⟩:=a6
   ·exact .inl (U,_,U,(by show(O&&(O&&(O&&((O&&(v.im&&O))&&O))))=O;rw[h2];rfl),hq _ (.inl (U,U)))
   ·exact .inr (lU,f',n',o',vs',ns',y,hb,λo2 vs2=>(_,U,U,hq _ (.inr (lU,f',n',o',vs',ns',y,o2,vs2,hb,U))))
  |@case _ z mk us _ arms Ls j ys b h1 h2 h3 h4 h5 h6 h7 =>
   refine(_,U,U,?_);refine(_,U,(by show 4<mu;decide),U,U,?_)
   let vp:=q.pln h1;let up:L2.T.dz us=true:=by
    let h:(O&&(L2.T.dz us&&O))=true:=vp;rw[Bool.true_and,X1]at h;exact h
   let a3:(L2.T.t [.s mk,.t us]).im=true:=by show(O&&(L2.T.ims us&&O))=O;rw[h2];rfl
   refine(U,U,U,U,?_);refine(U,.s z,U,_,h1,(by show(O&&((L2.T.t [.s "case",.s z,.t (arms.map fC)]).im&&((L2.T.t [.s mk,.t us]).im&&O)))=O;rw[aF,a3];rfl),pp,stk,f,n,n,o,vs,ns,c,m+1,z,mk,us,arms,Ls,j,ys,b,U,q,h2,up,aN,V,av,h3,h4,h5,h6,h7,λo' vs'=>?_)
   exact(_,U,U,hq _ (o',vs',U))
inductive Py(ts:List L2.T)(Q:L2.T->Prop):Prop
 |mk(W:Wd)(f:Nat)(fn:Fn)(h1:ts=[.df,W.t,.i (f:Nat),.i 12])(h2:Prog W.ks W.fs)(h3:iE W.ks)(h4:W.fs[f]?=Z fn)(h5:Q .n)(h6:∀vs,W.Args f fn vs->Q (.l vs))
theorem Mz(T:Txt K mg a):bb P w K mg base CX0 25 a.xC a.Jn [Zf,Zm,Zg,Zi] (spQ K Py):=by
 refine T.JS.F.okQ l7 (λts Q h=>?_) (λ_ _ _ _ _ _ hr=>?_)
 ·let(_,_,_,U,_):=h;rfl
 ·let hu:=cC hr;refine(_,_,((ag (aC 4 l7.nd (a8 (Ex T) hr T.Ad (ae (ar (qv 1) ah) au)))
 (ag (aC 5 l7.nd (aH ak))
 (ag (cw (g:=(Tg.tp [6,7])) PassesOwn.never U (gX (Zb (ar (ar (ar (qv 1) ah) (qv 2)) ah))) (ik (bu 6 l7.nd) (bu 7 l7.nd))
 (ag (bc (cj (Eu hu) Ge U (qv 7) (qv 4))
 (ai (aQ cX))
 aT)
 (ai (bV (i:=5) (pv 5) (a8 (HS T 21) hr T.x4 (ae (qv 0) (ae (ar (qv 1) ah) (ae (qv 4) (ae (qv 7) (ae (Za (bD (iC U) qT (by rfl) T.vB (by kernel_rfl) (ae (bg (qv 4) (qv 7)) (ae (Za (aV ah (Za (a8 (i7 (fR T)) hr T.aZ (ae (qv 0) (ae (qv 3) au)))))) au)))) au))))))))))
 (ai (kn (i:=5) (pv 5))))))),λts Q h=>?_)
  let(W,f,fn,U,pg,gk,hf,az,aD):=h;let eg:atI ((da W.fs).map WF.t) (f:Int)=Z (toW fn).t:=cH (by rw[j5,jO hf];rfl)
  let(p1,p2,p3,p4):=pg.pk fn (px hf);refine(_,U,W.ks,U,gk,λds hI hZ=>?_)
  let prim:(L2.T.t ((toW fn).prs.map λp=>.t [.s p.1,p.2])).im=true:=cp λt ht=>by
   let(p,hp,U):=tE.mp ht;unfold toW at hp;let(q,_,U):=tE.mp hp;rfl
  refine(_,U,(toW fn).t,eg,_,U,prim,?_);refine(λi q=>∃(L:List L2.T)(o6 o7:Sl),q=[.r .df,.r W.t,.r (.i f),.r (.i 12),.o (dT ds),.o (.l L),o6,o7]/\L.length=i/\∀(j:Nat)(u:L2.T)(k:Str),L[j]?=Z u->(fn.1.2.1.map (·.2))[j]?=Z k->GdV W.ks k u,([],_,_,U,U,λj u k h=>by simp at h),?_,?_)
  ·rintro i y q hy ⟨L,o6,o7,rfl,hL,hs⟩
   rw[j5]at hy;let(p,hp,U):=kg.mp hy;unfold toW at hp;rw[j5]at hp;let(pr,av,U):=kg.mp hp;let hi:=(kf.mp av).1;let ha:=gI ds pr.2;refine(_,U,?_);cases e:lk ds pr.2 with
   |none =>
    rw[e]at ha;let h1:(!(bI (ds.map dEn) (.inr pr.2)).isSome)=true:=by rw[ha];rfl
    exact bH (λ_=>az) λg=>absurd h1 g
   |some v =>
    rw[e]at ha;let h1:¬(!(bI (ds.map dEn) (.inr pr.2)).isSome)=true:=by rw[ha];exact λz=>nomatch z
    refine bH (λg=>absurd g h1) λ_=>?_
    let(b1,b2):=hI.bd _ (jH e);let b3:=BH (hI.len gk);let b4:bnd 3=21:=rfl;dsimp only at b1 b2;refine(bj (by lia),_,U,_,ha,by decide,by decide,λr r0 r1=>?_)
    obtain⟨room,Oi⟩:∃room:Int,room=if 1+r > v then 1+r else v:=(_,U)
    let r2:v<=room/\room<=21:=by rw[Oi];split <;> lia
    refine(W.ks,ds,pr.2,room,v,by rw[Oi],gk,hI,e,r2.1,by lia,by lia,λt h1 h2 h3=>?_)
    refine(L ++ [t],_,_,U,by rw[pL,hL];rfl,λj u k V e2=>?_)
    by_cases hj:j<L.length
    ·rw[u4 hj]at V;exact hs j u k V e2
    ·rw[vr (by lia)]at V
     let aF:j=L.length:=by
      have:=(kf.mp V).1
      simp at this
      lia
     subst aF;rw[WD]at V;cases V;rw[hL,j5,av]at e2;cases e2;let(v',q1,q2,q3):=Ql 21 _ _ h1;let q4:=v'.TY;exact(v',q1,q2,by lia,by lia)
  ·rintro q ⟨L,o6,o7,rfl,hL,hs⟩
   exact aD L (hf,by rw[hL,ej];unfold toW;rw[ej],hs)
def frN(g:J×Fr):L2.T:=.t [.i g.2.f,.i g.2.n,.d g.2.ns]
inductive yO(CW CF:J)(ts:List L2.T)(Q:L2.T->Prop):Prop
 |mk (a:J) (fns:L2.T) (gs:List (J×Fr)) (c m:Int) (e:L2.T) (h1:ts=[wT CW a fns (gs.map λg=>fT CF g.1 g.2.f g.2.n g.2.p g.2.ns) c m e]) (h2:gs.length<mu) (h3:∀g∈gs,T.imk g.2.ns=O) (h4:Q (.l (gs.map frN)))
theorem rZ(T:Txt K mg a):bb P w K mg base CX0 1 a.dB a.g7 [Ze] (spQ K (yO a.aD a.az)):=by
 refine T.ft.okQ qZ (λts Q h=>?_) (λ_ _ _ _ _ _ hr=>?_)
 ·let(_,_,_,_,_,_,U,_):=h;rfl
 ·refine(_,_,((ai (aQ (bM U (gF (gG T.aK T.bG (qv 0))) (N':=[Zl]) (.own U .nil) (bQ (g:=(Tg.nm 0)) (λ_ _ _ _ _=>((dO 0),(ax (af (Zb (gG T.aF T.se (qv 0))) (af (Zb (gG T.aF T.fJ (qv 0))) (af (aY jX lY (by rfl) T.jZ (by kernel_rfl) (ae (gG T.aF T.bJ (qv 0)) au)) ak))))))))))),λts Q h=>?_)
  let(x,fns,gs,c,m,e,U,hl,q,hq):=h;refine(U,_,U,by rw[ej];exact hl,λi ys=>ys=(gs.map frN).take i,U,λi z zs V e=>?_,λzs e=>?_)
  ·subst e;rw[j5]at V;let(g,hg,U):=kg.mp V;refine(_,U,(U,_,U,U,U,_,U,U,U,_,U,q g (px hg),?_));rw[wh,j5,hg];rfl
  ·subst e;rw[ej,XE (by rw[ej];exact m9 _)]
   exact hq
structure SmF(gs:List (J×Fr))(stk:List L2.T):Prop where
 l:gs.length=stk.length
 f:∀(j:Nat)(g:J×Fr)(y:L2.T),gs[j]?=Z g->stk[j]?=Z y->FrT (frN g) y
 i:∀g∈gs,T.imk g.2.ns=O/\g.2.ns.length<900
theorem SmF.fr{stk:List L2.T}(h:SmF gs stk)(j:Nat)(x y:L2.T)(hx:(gs.map frN)[j]?=Z x)(q:stk[j]?=Z y):FrT x y:=by
 rw[j5]at hx;let(g,hg,U):=kg.mp hx;exact h.f j g y hg q
def EnT(e:L2.T):Prop:=e=.n\/∃ps,e=.t ps/\T.ims ps=O/\∀z∈ps,Dep 120 z
inductive Hf(CW CF:J)(ts:List L2.T)(Q:L2.T->Prop):Prop
 |mk (a:J) (fns:L2.T) (gs:List (J×Fr)) (stk:List L2.T) (c m:Int) (e:L2.T) (h1:ts=[wT CW a fns (gs.map λg=>fT CF g.1 g.2.f g.2.n g.2.p g.2.ns) c m e,.d (stT stk c m e)]) (h2:SmF gs stk) (h3:gs.length<10000) (h4:EnT e) (h5:Q (.b O))
theorem Mv(T:Txt K mg a):bb P w K mg base CX0 2 a.xw a.Ji [ZM,Zh] (spQ K (Hf a.aD a.az)):=by
 refine T.oA.F.okQ pS (λts Q h=>?_) (λ_ _ _ _ _ _ hr=>?_)
 ·let(_,_,_,_,_,_,_,U,_):=h;rfl
 ·let hu:=cC hr;refine(_,_,((ag (aC 2 pS.nd (ie T.aK T.jG (rZ T) hr.bw T.kR (qv 0)))
 (ag (bc (QPW.pt (oE (nK (cK (Za (bD (fZ U) kj (by rfl) T.dg (by kernel_rfl) (ae (qv 2) (ae (Za (uW (n:="list") U T.lH (by kernel_rfl))) au)))))) (oE (cj (Mj (zx hr) U) yn (bz _) (qv 2) (bg (qv 1) (Za aA))) (nI (cj (PQ (zx hr) U) Kq (bz _) (Za (ie T.aK T.zh (y4 T) hr.bw T.BI (qv 0))) (bg (qv 1) (Za aA)))))))
 (ai (aQ oF))
 aT)
 (ag (GI (i:=2) (k:=3) (key:=.inr "none") PassesOwn.never U hu (pv 2) (bu 3 pS.nd) (QPW.pt (oE (nK (cK (Za (bD (fZ U) kj (by rfl) T.dg (by kernel_rfl) (ae (qv 3) (ae (Za (uW (n:="tuple") U T.cT (by kernel_rfl))) au)))))) (nI (nK (cK (Za (bD (fZ U) kj (by rfl) T.dg (by kernel_rfl) (ae (ar (qv 3) ah) (ae (Za (uW (n:="dict") U T.jZ (by kernel_rfl))) au))))))))) (ox.h (K:=K) (ai (aQ oF))) (pv 3) bA (λ_ _ _ h=>h) dq (λ_ _ _ h=>h) bA (λ_ _ _ h=>h))
 (ag (bV (i:=2) (pv 2) bS)
 (ag (aC 4 pS.nd (aH (af (ie T.aK T.ur (uh T) hr.bw T.xM (qv 0)) (af (ie T.aK T.uq (ug T) hr.bw T.xK (qv 0)) ak))))
 (ag (bc (nK (cK (Za (bD (oq U U) vS (by rfl) T.Jv (by kernel_rfl) (ae (Za (bM U (gF (qv 4)) (N':=["_law_one"]) (.own U .nil) (bQ (g:=(Tg.nm 0)) (λ_ _ _ _ _=>((dO 0),(AY (Za (bD (fZ U) kj (by rfl) T.dg (by kernel_rfl) (ae (qv 0) (ae (Za (uW (n:="int") U T.Dv (by kernel_rfl))) au)))) (AW (Pb (Za (bD (fZ U) kj (by rfl) T.dg (by kernel_rfl) (ae (qv 0) (ae (Za (uW (n:="bool") U T.Ju (by kernel_rfl))) au)))))))))))) au)))))
 (ai (aQ oF))
 aT)
 (ai (aQ (AY (Za (iR (HN (zx hr) U) Cd (bz _) (qv 4) (Za (aH (af (Zb (bg (qv 1) (Za aA))) (af (Zb (bg (qv 1) (Za aA))) ak)))))) (AW (iR (Mm (zx hr) U) yn (bz _) (Za (ie T.aK T.jG (rZ T) hr.bw T.kR (qv 0))) (bg (qv 1) (Za aA)))))))))))))),λts Q h=>?_)
  let(x0,fns,gs,stk,c,m,e,U,sm,hl,he,hq):=h;let fr:∀{Q:L2.T->Prop},Q (.l (gs.map frN))->yO a.aD a.az [wT a.aD x0 fns (gs.map λg=>fT a.az g.1 g.2.f g.2.n g.2.p g.2.ns) c m e] Q:=λh=>(x0,fns,gs,c,m,e,U,bj (by lia),λg hg=>(sm.i g hg).1,h)
  let ln:(gs.map frN).length=stk.length:=by rw[ej];exact sm.l
  let q:e.im=true:=by
   obtain rfl |⟨ps,rfl,h,_⟩:=he
   ·rfl
   ·exact h
  refine(U,U,fr ?_);let ne:∀{Q:L2.T->Prop},Q (.b ϊ)->Ph e e Q:=λ{Q} h=>by
   obtain rfl |⟨ps,rfl,_,hd⟩:=he
   ·exact(U,by rw[decide_eq_true rfl];exact h)
   ·refine(120,by decide,vC hd,λca V=>?_)
    obtain rfl:=V.mpr U;exact h
  refine(U,_,U,_,_,U,U,ln,sm.fr,U,U,x0,_,_,c,m,e,U,q,e,U,ne ?_);refine(gs.map frN,U,by decide,(by show 3<5;decide),λx hx=>?_,λus x ul hx=>?_,λus s ul=>?_)
  ·let(g,hg,U):=tE.mp hx
   have:=(sm.i g hg).2
   exact(_,_,_,U,(sm.i g hg).1,bj (by lia))
  ·let(g,hg,U):=tE.mp hx;exact(U,_,U,U,U)
  ·rw[ej]at ul;refine(bj (by lia),U,U,x0,_,_,c,m,e,U,q,U,U,x0,_,_,c,m,e,U,q,?_)
   refine(bj (by show 2<=_;lia),λi ys=>ys=BQ i (.b O),U,λi z zs hz ez=>?_,λzs ez=>?_)
   ·subst ez;obtain _|_|i:=i
    ·cases hz;exact(_,U,U,U,U)
    ·cases hz;exact(_,U,U,U,U)
    ·simp at hz
   ·subst ez;refine([O,O],U,?_);refine(_,U,U,_,U,U,_,_,0,U,U,by decide,vC (cg Dep.i (cg Dep.i eD)),λca V=>?_)
    obtain rfl:=V.mpr U;exact(U,U,fr (_,U,_,_,U,U,ln,sm.fr,hq))
theorem SmF.snoc{stk:List L2.T}{x:J}{fr:Fr}(h:SmF gs stk)(hf:nc ks fs fr):SmF (gs ++ [(x,fr)]) (stk ++ [frD o vs fr]):=by
 let hl:=h.l;let P:=hf.n92;let K:=hf.ln;refine(by rw[pL,pL,hl];rfl,λj g y hg q=>?_,λg hg=>?_)
 ·by_cases hj:j<gs.length
  ·rw[u4 hj]at hg;rw[u4 (by lia)]at q
   exact h.f j g y hg q
  ·rw[vr (by lia)]at hg
   rw[vr (by lia),<- hl]at q
   have:j - gs.length=0:=by have:=(kf.mp hg).1;simp at this;lia
   rw[this]at hg q;cases hg;cases q;exact(_,_,_,_,_,U,U,U,U,λp hp=>(hf.pl p hp).2)
 ·obtain z|z:=p7.mp hg
  ·exact h.i g z
  ·rw[g5.mp z];exact(hf.im,by lia)
theorem RL{frs:List L2.T}(hw:WkL CF stk frs):∀{r:Str}{ts:List L2.T},Blw W stk r->LwL stk ts->∃gs:List (J×Fr),frs=gs.map (λg=>fT CF g.1 g.2.f g.2.n g.2.p g.2.ns)/\SmF gs ts/\gs.length=stk.length:=by
 induction hw with
 |nil=>intro r ts _ hl;cases hl;exact([],U,(U,λj g y h=>by simp at h,λg h=>by cases h),U)
 |@cons fr stk frs x _ z =>
  intro r ts q hl;cases hl with
  |cons _ hl =>
   let(gs,U,h1,h2):=z q.2 hl;exact(gs ++ [(x,fr)],by rw[zY];rfl,h1.snoc q.1.ok,by rw[pL,h2];rfl)
inductive Lk(W:Wd)(a:Cf)(c:Int)(CW CF x0:J)(k:Nat):L2.T->List (Key×L2.T)->Prop
 |go{t:L2.T}{ds:List (Key×L2.T)}:W.Al a c k->WkS W a c CW CF x0 k t->LwS W a c k ds->Lk W a c CW CF x0 k t ds
 |fin{c' m:Int}{ps:List L2.T}:T.ims ps=O->(∀z∈ps,Dep 120 z)->Lk W a c CW CF x0 k (wT CW x0 (gsT W) [] c' m (.t ps)) (stT [] c' m (.t ps))
theorem Lk.same(pg:Prog W.ks W.fs){a:Cf}(ha:pO W 0 a){c:Int}{k:Nat}{t:L2.T}{ds:List (Key×L2.T)}(h:Lk W a c CW CF x0 k t ds)(q:k<8000){Q:L2.T->Prop}(hq:Q (.b O)):Hf CW CF [t,.d ds] Q:=by
 cases h with
 |go al hw hl =>
  let⟨(frs,x,hw,U)⟩:=hw;let⟨(ts,o,vs,hl,U)⟩:=hl;let gd:=Wd.gd pg ha al.g;let(gs,U,h1,h2):=RL hw gd.b hl;let n3:=gd.n3;exact(x0,_,gs ++ [(x,_)],_,_,_,.n,by rw[zY];rfl,h1.snoc gd.t,by simp;lia,.inl U,hq)
 |fin h1 h2=>exact(x0,_,[],[],_,_,_,U,(U,λj g y h=>by simp at h,λg h=>by cases h),by simp,.inr (_,U,h1,h2),hq)
theorem PV(T:Txt K mg a):bb P w K mg base CX0 130 a.vm a.Oo [Zu] (qP K):=by
 let aM:=i7 (@fR P w K mg base a T);refine T.Up.F.U1 (n:=11) (s1:=(cb oC).headD (.Pass (0,0,0,0))) (rest:=(cb oC).tail) fb U U (λ_ _ _ _ _ _ hr=>?_)
 let hu:=cC hr;refine(_,_,_,(gZ (i:=1) fb.nd U (Or.inl U) (wR (Mw T) hr.bw U T.x9.m T.x9.F.kp T.x9.b .nil kN (bN (pv 0) (bN bA eh)))),((ag (aC 2 fb.nd (a8 (Bk T) hr T.vF (ae (qv 1) (ae ah (ae (Za (aV ah (Za (a8 aM hr T.aZ (ae (qv 1) (ae ah au)))))) au)))))
 (ag (aC 3 fb.nd (a8 aM hr T.aZ (ae (qv 1) (ae (Za (bP T.cD (ae (ar (qv 2) ah) au))) au))))
 (ag (aC 4 fb.nd (a8 (Mz T) hr T.JS (ae (qv 1) (ae (qv 2) (ae (qv 3) (ae ah au))))))
 (ag (bc (cj rY lX (bz _) (qv 4) (Za cX))
 (ai (aQ oF))
 aT)
 (ag (aC 5 fb.nd (k6 (aH (af (a8 aM hr T.aZ (ae (qv 1) (ae ah au))) (af (a8 aM hr T.aZ (ae (qv 1) (ae ah au))) (af (rD (Za (Pa ah ah)) (Za (a8 aM hr T.aZ (ae (qv 1) (ae ah au))))) ak)))) (Za (a8 aM hr T.aZ (ae (qv 1) (ae ah au))))))
 (ag (aC 6 fb.nd (mv T.CN (mH T O) hr.bw U T.CM T.oO (ae (qv 2) (ae (qv 3) (ae (Za (aY (bW U) bU (by rfl) T.cT (by kernel_rfl) (ae (qv 4) au))) (ae (qv 5) au))))))
 (ag (aC 7 fb.nd (aY (vv U) uM (by rfl) T.lH (by kernel_rfl) (ae (qv 4) au)))
 (ag (aC 8 fb.nd (mv T.CN (mH T ϊ) hr.bw U T.CM T.oO (ae (qv 2) (ae (qv 3) (ae (qv 7) (ae (qv 5) au))))))
 (ag (GN (i:=7) (pv 7))
 (ag (aC 9 fb.nd (a8 (y3 T ϊ) hr T.qH (ae (qv 2) (ae (qv 3) (ae (qv 4) (ae (qv 5) au))))))
 (ag (aC 10 fb.nd (a8 (y3 T ϊ) hr T.qH (ae (qv 2) (ae (qv 3) (ae (qv 4) (ae (qv 5) au))))))
 (ag (cw (g:=(Tg.nm 11)) PassesOwn.never U (fY U T.fS (ae (Za (aV ah (Za (a8 aM hr T.aZ (ae (qv 1) (ae ah au)))))) au)) (bu 11 fb.nd)
 (ag (bc (nK (cK (Za (a8 (Mv T) hr T.oA (ae (qv 6) (ae (qv 9) au))))))
 (ai (aQ oF))
 aT)
 (ag (bc (cj pX lV (bz _) (bg (qv 9) (Za aA)) (Za cX))
 (ai (KZ (wu (Cq HL Cc (bz _) (nM T.aK T.iX (w5 T) hr.bw T.j4 (aU (j:=6))) (Za oF)) (wu (Cq HL Cc (bz _) (nM T.aK T.iX (w5 T) hr.bw T.j4 (aU (j:=6))) (Za oF)) (wu (GP (Za (a8 (Mv T) hr T.oA (ae (qv 6) (ae (qv 9) au))))) (Le (GP (Za (a8 (Mv T) hr T.oA (ae (qv 8) (ae (qv 10) au)))))))))))
 aT)
 (ag (d7 (i:=9) (j:=1) (Mt T) hr.bw U T.x5.m T.x5.F.kp T.x5.b (Cp (qv 2) (d8 (i:=9) (pv 9) au)))
 (ag (KU (i:=12) fb.nd (nM T.aK T.iX (w5 T) hr.bw T.j4 (aU (j:=6))))
 (ai (bc (QPW.pt (oE (nK (cK (Za (bD (fZ U) kj (by rfl) T.dg (by kernel_rfl) (ae (qv 12) (ae (Za (uW (n:="bool") U T.Ju (by kernel_rfl))) au)))))) (nI (cj HK Aw (bz _) (qv 12) (Za (iR rY lX (bz _) (bg (qv 9) (Za aA)) (Za cX)))))))
 (ai (aQ oF))
 aT)))))))
 (ai (aQ (AY (Za (a8 (Mv T) hr T.oA (ae (qv 6) (ae (qv 9) au)))) (AW (a8 (Mv T) hr T.oA (ae (qv 8) (ae (qv 10) au)))))))))))))))))))),λp0 ns D hS hlen k=>?_,λns hlen=>?_)
 ·refine(_,U,p0,ns,_,U,hS,hlen,by decide,by decide,λd l H1 fd fl D1 s1=>?_)
  exact k d l H1 fd fl D1 s1
 ·refine(by decide,by decide,λr r0 r1=>?_)
  refine(4,4+r,U,by decide,by decide,by lia,by lia,λks fs pg gk a4=>?_)
  obtain⟨W,hW⟩:∃W:Wd,W=⟨ks,fs⟩:=(_,U)
  let eW:L2.T.t [tKs ks,.t (fs.map tF)]=W.t:=by rw[hW];unfold Wd.t gsT;rw[TL]
  let a4:W.fs ≠ []:=by rw[hW];exact a4
  let pg:Prog W.ks W.fs:=by rw[hW];exact pg
  let gk:iE W.ks:=by rw[hW];exact gk
  rw[eW];clear eW hW;let l8:=pg.l8;let gl:((da W.fs).map WF.t).length=W.fs.length:=by unfold da;rw[ej,ej]
  let l0:=Wi.mpr a4;refine(_,U,by rw[gl];lia,by rw[gl];lia,λf' f0 f1=>?_)
  obtain⟨f,rfl⟩:∃f:Nat,f'=f:=(f'.toNat,by lia)
  rw[gl]at f1;let hf:f<W.fs.length:=by lia
  refine(W,f,W.fs[f],U,pg,gk,eO hf,U,λvs Q=>?_)
  generalize W.fs[f]=fn at Q
  let gd:=Q.ok pg;refine(by decide,by decide,λx x0 x1=>(by decide,by decide,λy y0 y1=>((by decide,by decide,by decide),by decide,by decide,λz z0 z1=>(by decide,by decide,λd d0 d1=>?_))))
  let(c,ex,_):=Nt (xs:=[x,y,10 ^ Int.toNat 9 - z]) d0 d1;refine(_,ex,?_);refine(Q.all.1,λxa=>(xa,tKs W.ks,da W.fs,f,toW fn,vs,_,c,U,pg.fns,jO Q.g,Q.pl pg,Q.all.1,nY _,.inl (U,U),λxf=>(U,U,?_)))
  refine(Q.all.1,λxb=>(xb,tKs W.ks,da W.fs,f,toW fn,vs,_,c,U,pg.fns,jO Q.g,Q.pl pg,Q.all.1,nY _,.inr (U,.inr U),λxg=>(U,U,?_)))
  refine(tKs W.ks,da W.fs,f,toW fn,vs,_,_,U,pg.fns,jO Q.g,Q.pl pg,Q.all.1,Q.all.2,.inr (U,.inr U),λo ws=>?_)
  refine(tKs W.ks,da W.fs,f,toW fn,vs,_,_,U,pg.fns,jO Q.g,Q.pl pg,Q.all.1,Q.all.2,.inr (U,.inr U),λo' a5=>?_)
  let st:∀{o:Obj}{ws:List (Key×V)}{x0 x:J},Lk W (W.a0 f fn vs) c a.aD a.az x0 0 (wT a.aD x0 (.t ((da W.fs).map WF.t)) [fT a.az x (f:Nat) 0 (toW fn).b ((toW fn).names vs)] c 0 .n) (stT [frL (f:Nat) 0 o ws ((toW fn).names vs)] c 0 .n):=.go .zero Wd.wk0 Wd.lw0
  let l1:=st (o:=o') (ws:=a5) (x0:=xb) (x:=xg)
  revert l1
  let l2:=st (o:=o) (ws:=ws) (x0:=xa) (x:=xf)
  revert l2
  generalize wT a.aD xa (.t ((da W.fs).map WF.t)) [fT a.az xf (f:Nat) 0 (toW fn).b ((toW fn).names vs)] c 0 .n=t1
  generalize wT a.aD xb (.t ((da W.fs).map WF.t)) [fT a.az xg (f:Nat) 0 (toW fn).b ((toW fn).names vs)] c 0 .n=t2
  generalize stT [frL (f:Nat) 0 o ws ((toW fn).names vs)] c 0 .n=e1
  generalize stT [frL (f:Nat) 0 o' a5 ((toW fn).names vs)] c 0 .n=e2
  intro l2 l1;clear st;refine(by decide,by decide,λu u0 u1=>?_)
  refine(by lia,by lia,λi q=>∃(t:L2.T)(ds:List (Key×L2.T))(a3 aP:Sl),q=[.r (.z ns),.r .df,.o W.t,.o (.i f),.o (.l vs),.o (.i c),.o t,.o (.l []),.o t2,.o (.d ds),.o (.d e2),a3,aP]/\i<40/\Lk W (W.a0 f fn vs) c a.aD a.az xa i t ds,(t1,e1,_,_,U,by decide,l2),?_,?_)
  ·rintro i yy q hy ⟨t,ds,a3,aP,rfl,hi,lk⟩
   let hn:=(iM hy).2;refine(_,U,?_);refine lk.same pg gd (by lia) ?_
   cases lk with
   |@fin c' m ps h1 h2 =>
    let pl:=(Lk.fin (c':=c') (m:=m) (W:=W) (a:=W.a0 f fn vs) (c:=c) (CW:=a.aD) (CF:=a.az) (x0:=xa) (k:=i) h1 h2);refine(_,U,U,U,U,.inr (xa,_,c',m,ps,U,h1,U,U,_,U,U,?_));refine(U,U,U,.inr (xa,_,c',m,ps,U,h1,U,U,_,U,U,?_));exact pl.same pg gd (by lia) (U,l1.same pg gd (by lia) (U,U))
   |go al hw hl =>
    let nb:¬(!decide ((L2.T.b ϊ).v=(L2.T.b ϊ).v))=true:=by decide
    let⟨(frs,xt,bt,U)⟩:=id hw;let⟨(ts,ot,vt,bK,U)⟩:=id hl;refine(_,U,?_);refine(U,λp=>(Wd.im pg,U,?_))
    refine Wd.stepK pg gd al (by lia) (nY _) hl (λq e=>?_) (λe1 e e'=>?_) (λaF bL aN=>?_)
    ·refine(U,U,U,Wd.FE pg gd al (by lia) hw (λq' e2=>?_) (λe2 e3 e4=>?_) (λaF t' aN=>?_))
     ·rw[e]at e2;cases e2;exact(U,U,_,U,U,_,U,U,bH (λg=>absurd g nb) λ_=>(_,_,_,_,U,by lia,.fin U (cg Dep.s (cg Dep.i eD))))
     ·rw[e]at e4;cases e4
     ·have:=aF.s i (by lia);rw[e]at this;cases this
    ·let(ps,U,h1,h2):=Wd.VA pg (Wd.gd pg gd al.g) e;refine(U,U,U,Wd.FE pg gd al (by lia) hw (λq' e2=>?_) (λe2 e3 e4=>?_) (λaF t' aN=>?_))
     ·rw[e']at e2;cases e2
     ·rw[e]at e3;cases e3;exact(U,U,_,U,U,_,U,U,bH (λg=>absurd g nb) λ_=>(_,_,_,_,U,by lia,.fin h1 h2))
     ·have:=aF.g i (by lia);rw[e]at this;cases this
    ·let⟨(a7,o2,v2,bG,U)⟩:=id aN;refine(U,U,U,Wd.FE pg gd al (by lia) hw (λq' e2=>?_) (λe2 e3 e4=>?_) (λb0 t' a6=>?_))
     ·have:=aF.s i (by lia);rw[e2]at this;cases this
     ·have:=aF.g i (by lia);rw[e3]at this;cases this
     ·let⟨(fr',x2,bx,U)⟩:=id a6;exact(U,U,_,U,U,_,U,U,bH (λg=>absurd g (by decide)) λ_=>(_,_,_,_,U,by lia,.go aF a6 aN))
  ·rintro q ⟨t,ds,a3,aP,rfl,hi,lk⟩
   refine lk.same pg gd (by lia) ?_
   exact l1.same pg gd (by lia) U
end
theorem all_mk{l:W.OpenLaw}{w:Cl}{h:Do}{fa:J}(X:K.In h)(G:h.Ns mainGlobals mg)(hfa:mg "law"=Z (.ref fa))
  {bx:J} (L4:W.nsIn K mainGlobals "Spot"=Z (Z (.ref bx))) (Mi:W.plainGet K bx Str.empty=O) (Mg:W.hasDictIn K bx=O) (Me:W.plainOver K bx=O)
  (Mb:W.findIn K (.ref bx) "__setattr__"=Z (Z (.builtin "object.__setattr__"))) (L8:W.makesIn K bx=O) (L6:W.keepIn K (.ref bx)=O)
  (uc:bf K bx "piece")
  (uf:bf K bx "above")
  (yR:bf K bx "arm")
  (wL:DM K bx "__init__" "Spot.__init__" iJ dX)
  {az:J} (HC:W.nsIn K mainGlobals "Frame"=Z (Z (.ref az))) (HI:W.plainGet K az Str.empty=O) (HH:W.hasDictIn K az=O) (HG:W.plainOver K az=O)
  (HF:W.findIn K (.ref az) "__setattr__"=Z (Z (.builtin "object.__setattr__"))) (HE:W.makesIn K az=O) (HD:W.keepIn K (.ref az)=O)
  (Bd:bf K az "f")
  (oZ:bf K az "number")
  (rR:bf K az "piece")
  (rS:bf K az "names")
  (ua:DM K az "__init__" "Frame.__init__" gU de)
  (lg:DM K az "values_at" "Frame.values_at" dN cq)
  (rM:DM K az "go_on" "Frame.go_on" f9 dC)
  (kD:DM K az "go_on_with" "Frame.go_on_with" dn b7)
  (jo:DM K az "go_on_in_arm" "Frame.go_on_in_arm" cQ bL)
  {aD:J} (L3:W.nsIn K mainGlobals "Walk"=Z (Z (.ref aD))) (Mh:W.plainGet K aD Str.empty=O) (Mf:W.hasDictIn K aD=O) (Mc:W.plainOver K aD=O)
  (Ma:W.findIn K (.ref aD) "__setattr__"=Z (Z (.builtin "object.__setattr__"))) (L7:W.makesIn K aD=O) (L5:W.keepIn K (.ref aD)=O)
  (mF:bf K aD "functions")
  (oY:bf K aD "running")
  (ub:bf K aD "coins")
  (wN:bf K aD "done")
  (rQ:bf K aD "ending")
  (wK:DM K aD "__init__" "Walk.__init__" iI dW)
  (wJ:DM K aD "turn" "Walk.turn" iH fB)
  (rL:DM K aD "frames" "Walk.frames" f7 dB)
  (t9:DM K aD "purse" "Walk.purse" gT eC)
  (t8:DM K aD "steps" "Walk.steps" gS eB)
  (yQ:DM K aD "end" "Walk.end" jy gy)
  (Bc:DM K aD "do" "Walk.do" kU iA)
  (oX:DM K aD "do_give" "Walk.do_give" fH c5)
  (oW:DM K aD "do_make" "Walk.do_make" fG cZ)
  (nP:DM K aD "do_coins" "Walk.do_coins" e7 cN)
  (nO:DM K aD "end_with" "Walk.end_with" eZ cM)
  (zp:DY K "number_of" jA gJ)
  (MN:DY K "spots" vY qh)
  (pq:DY K "spots_beneath" fI dH)
  (Iq:DY K "pieces" q9 mO)
  (zq:DY K "makers_in" jB gK)
  (P5:DY K "size" AE xv)
  (MS:DY K "depth" v9 qz)
  (P9:DY K "_law_deal" AH xA)
  (P8:DY K "_law_draw" AG xy)
  (ML:DY K "_law_words" vW qf)
  (MP:DY K "_law_kinds" v5 qm)
  (P7:DY K "_law_fill" AF xx)
  (MR:DY K "_law_ended" v8 qy)
  (Qa:DY K "_law_case" AI xB)
  (Qb:DY K "_law_body" AJ sL)
  (EJ:DY K "_law_program" nF kx)
  (Iu:DY K "_law_leasts" rh mQ)
  (MM:DY K "_law_value" vX qg)
  (Ir:DY K "_law_listed" rg mP)
  (MO:DY K "_law_sizes" vZ qj)
  (MT:DY K "_law_begun" wa qD)
  (U2:DY K "_law_on" OW Ng)
  (Iv:DY K "_law_halted" rj mR)
  (MQ:DY K "_law_given" v7 qw)
  (zr:DY K "_law_case_step" jC gL)
  (P4:DY K "_law_step" AB xu)
  (Qc:DY K "_law_args" AK xC)
  (P6:DY K "_law_same" s_same xw)
  (Ov:NI K "law" vm) (S8:LK K vm "law" "law" oC UP UO Qh QN Pz QY Jr QQ Ut) (T6:CI K Jr "law") (Ta:KI K vm)
  (Ry:NB K "len")
  (RA:NB K "all")
  (Oz:NB K "list")
  (J3:NB K "tuple")
  (Rz:NB K "int")
  (OB:NB K "bool")
  (OA:NB K "dict")
  (Af:NB K "reversed")
  (Rx:NB K "max")
  (Rw:NB K "min")
  (Rv:NB K "sum")
  (J4:NB K "range")
  (vH:NB K "isinstance")
  (Ru:NB K "zip")
  (ye:NB K "enumerate")
  {tS:Tok} (tO:W.nsIn K mainGlobals "MOST_MAKERS"=Z (Z (.int 200 tS)))
  {tR:Tok} (tN:W.nsIn K mainGlobals "MOST_WITHIN"=Z (Z (.int 60 tR)))
  : ∃fd:Ch,(∀(s:ϋ)(v:B),BindsTo s fd ([v],[]) [("_law_script",v)])/\∀base:Do,K.In base->base.Ns mainGlobals mg->bb l.prog w K mg base CX0 130 fa fd [Zu] (qP K):=by
 let e:=hfa.symm.trans (W.mg_of X G Ov);cases e;let(zS,_,oQ):=zp;let(Nx,_,DB):=MN;let(pI,_,jl):=pq;let(Jz,_,z8):=Iq;let(zT,_,oR):=zq;let(Q0,_,JI):=P5;let(ND,_,DH):=MS;let(Q8,_,JM):=P9;let(Q7,_,JL):=P8;let(Nv,_,Dz):=ML;let(Nz,_,DE):=MP;let(Q6,_,JK):=P7;let(NC,_,DG):=MR;let(Q9,_,JN):=Qa;let(Ra,_,JO):=Qb;let(Fe,_,vE):=EJ;let(JB,_,Aa):=Iu;let(Nw,_,DA):=MM;let(JA,_,z9):=Ir;let(Ny,_,DC):=MO;let(NF,_,DI):=MT;let(VL,_,Uo):=U2;let(JC,_,Ab):=Iv;let(NA,_,DF):=MQ;let(zU,_,oT):=zr;let(QZ,_,JH):=P4;let(Rb,_,JP):=Qc;let(Q5,_,JJ):=P6;let Ow:=BD S8 T6 Ta;let(kc,_,gQ):=wL;let(jd,_,fX):=ua;let(m8,_,cU):=lg;let(uG,_,fu):=rM;let(lN,_,cI):=kD;let(ke,_,cv):=jo;let(kb,_,gP):=wK;let(zX,_,gO):=wJ;let(uF,_,ft):=rL;let(xV,_,fW):=t9;let(xU,_,fV):=t8;let(BO,_,jg):=yQ;let(Fg,_,kB):=Bc;let(tw,_,eR):=oX;let(tu,_,eQ):=oW;let(pK,_,dM):=nP;let(pJ,_,dJ):=nO;let T:Txt K mg (bx,dX,_,az,de,_,cq,_,dC,_,b7,_,bL,_,aD,dW,_,fB,_,dB,_,eC,_,eB,_,gy,_,iA,_,c5,_,cZ,_,cN,_,cM,_,gJ,_,qh,_,dH,_,mO,_,gK,_,xv,_,qz,_,xA,_,xy,_,qf,_,qm,_,xx,_,qy,_,xB,_,sL,_,kx,_,mQ,_,qg,_,mP,_,qj,_,qD,_,Ng,_,mR,_,qw,_,gL,_,xu,_,xC,_,xw,_,vm,_):=((Mi,Mg,Me,Mb),W.mg_of X G L4,(L8,kc.1,kc.2,L6),uc,uf,yR,gQ,kc,gQ.b4,(HI,HH,HG,HF),W.mg_of X G HC,(HE,jd.1,jd.2,HD),Bd,oZ,rR,rS,fX,jd,fX.b4,cU,m8,cU.b2,fu,uG,fu.b3,cI,lN,cI.b2,cv,ke,cv.b1,(Mh,Mf,Mc,Ma),W.mg_of X G L3,(L7,kb.1,kb.2,L5),mF,oY,ub,wN,rQ,gP,kb,gP.b5,gO,zX,gO.b1,ft,uF,ft.b1,fW,xV,fW.b1,fV,xU,fV.b1,jg,BO,jg.b1,kB,Fg,kB.b2,eR,tw,eR.b2,eQ,tu,eQ.b2,dM,pK,dM.b3,dJ,pJ,dJ.b2,(oQ,W.mg_of X G zS,oQ.b2),(DB,W.mg_of X G Nx,DB.b1),(jl,W.mg_of X G pI,jl.b2),(z8,W.mg_of X G Jz,z8.b1),(oR,W.mg_of X G zT,oR.b1),(JI,W.mg_of X G Q0,JI.b1),(DH,W.mg_of X G ND,DH.b1),(JM,W.mg_of X G Q8,JM.b2),(JL,W.mg_of X G Q7,JL.b2),(Dz,W.mg_of X G Nv,Dz.b2),(DE,W.mg_of X G Nz,DE.b2),(JK,W.mg_of X G Q6,JK.b3),(DG,W.mg_of X G NC,DG.b5),(JN,W.mg_of X G Q9,JN.b5),(JO,W.mg_of X G Ra,JO.b5),(vE,W.mg_of X G Fe,vE.b3),(Aa,W.mg_of X G JB,Aa.b1),(DA,W.mg_of X G Nw,DA.b5),(z9,W.mg_of X G JA,z9.b1),(DC,W.mg_of X G Ny,DC.b1),(DI,W.mg_of X G NF,DI.b4),(Uo,W.mg_of X G VL,Uo.b4),(Ab,W.mg_of X G JC,Ab.b2),(DF,W.mg_of X G NA,DF.b3),(oT,W.mg_of X G zU,oT.b4),(JH,W.mg_of X G QZ,JH.b2),(JP,W.mg_of X G Rb,JP.b4),(JJ,W.mg_of X G Q5,JJ.b2),(Ow,W.mg_of X G Ov,Ow.b1),W.mg_none_of X G Ry,W.mg_none_of X G RA,W.mg_none_of X G Oz,W.mg_none_of X G J3,W.mg_none_of X G Rz,W.mg_none_of X G OB,W.mg_none_of X G OA,W.mg_none_of X G Af,W.mg_none_of X G Rx,W.mg_none_of X G Rw,W.mg_none_of X G Rv,W.mg_none_of X G J4,W.mg_none_of X G vH,W.mg_none_of X G Ru,W.mg_none_of X G ye,(_,W.mg_of X G tO),(_,W.mg_of X G tN));exact(W.fnOf "law" "law" (eI oC) (cb oC) (ao oC) .none Qh QN Pz QY Jr QQ,λs v=>.of_eq U,λbase _ _=>PV T)
theorem walk{l:W.OpenLaw}{q:Da}{loose:List Str}{XP:(Str->Option B)->Do->Prop}{Q:Cl->Do->Prop}{d:DefRec}{K:Params->BT}(hn:l.most=Z 63)(g:d.params.defaults=[])
  (V:∀(w:Cl)(h:Do),Q w h->(K w.params).In h)
  (F:∀(w:Cl)(mg:Str->Option B)(P:J)(h:Do),(K w.params).In h->h.Ns mainGlobals mg->mg d.name=Z (.ref P) ->
   ∃fd:Ch,(∀(s:ϋ)(u:B),BindsTo s fd ([u],[]) [("_law_script",u)])/\∀base:Do,(K w.params).In base->base.Ns mainGlobals mg->bb l.prog w (K w.params) mg base CX0 130 P fd [Zu] (qP (K w.params))):
  W.WalkO q loose XP Q l.row.toRowW d [] (λf vs=>PySem.call f vs) :=
 L2.J5 (n:=63) (k:=130) (x:="_law_script") (CX:=λ_=>CX0) (sp:=λw=>qP (K w.params)) hn (by decide) g (U,by decide,by decide) V F (λ_ _ a ns hl hO hS=>(a,ns,U,TR hO hS,hl,λ_=>rfl)) λ_ _ _ _ _ z=>z
end K20
namespace PySem.W.Fast
def tw10044176445602595608:=()
def tw10156665282691645085:=()
def tw10262169684130309405:=()
def tw1027733445621075817:=()
def tw10341298969949498684:=()
def tw10413183562175165028:=()
def tw10471215617080786321:=()
def tw1047550777373557362:=()
def tw10593029855811334712:=()
def tw10605503108407575113:=()
def tw10712407774867182304:=()
def tw10722056500296499786:=()
def tw10808898912059570890:=()
def tw10878849226675452982:=()
def tw10947072240069006238:=()
def tw10982823030484786797:=()
def tw10993018358274116355:=()
def tw10996489627741837854:=()
def tw11005649320620894916:=()
def tw11182829526471864009:=()
def tw11227371791651242027:=()
def tw11282457768776249925:=()
def tw11408670666930498671:=()
def tw11426790183214306545:=()
def tw11438943482997580043:=()
def tw11498131968864994844:=()
def tw11658785074044649594:=()
def tw11805298133916079484:=()
def tw11823268514318565619:=()
def tw11859763419243350838:=()
def tw11893657564665999:=()
def tw1193558133058405904:=()
def tw12006103177936408629:=()
def tw12034697649454536305:=()
def tw12035101945996288453:=()
def tw12136328663586667179:=()
def tw12304574584183205487:=()
def tw12382498976087339561:=()
def tw12490572766124653871:=()
def tw12567196662653396155:=()
def tw12596585981695399532:=()
def tw12683031378775504308:=()
def tw12843927908690209128:=()
def tw12941188174394827903:=()
def tw13090127854329400751:=()
def tw13136931954952067888:=()
def tw13329311815271464172:=()
def tw13356451005988481114:=()
def tw13364239592891173343:=()
def tw13397210615818237496:=()
def tw13410222326811532406:=()
def tw13538535604495021186:=()
def tw13625737696294800213:=()
def tw13667533533662022819:=()
def tw13723753002969190312:=()
def tw13793767931423812026:=()
def tw13870110245303495604:=()
def tw13873738560814712025:=()
def tw13875984690086256681:=()
def tw13956195998363652200:=()
def tw140931483644435916:=()
def tw14093600437294300080:=()
def tw14111581974269441666:=()
def tw14161382049546788632:=()
def tw14207611253200509558:=()
def tw14313627906625230736:=()
def tw14365609946111027994:=()
def tw14576031323381044414:=()
def tw14715185810393481930:=()
def tw14745077143549332686:=()
def tw14810782628886829971:=()
def tw14935831469658622831:=()
def tw14968642347046220469:=()
def tw15062641294947495691:=()
def tw15178623942879997429:=()
def tw15204370835257642007:=()
def tw15236796359114800023:=()
def tw15246328285420832094:=()
def tw15473194430943151915:=()
def tw15583578513371734368:=()
def tw15733821812440869301:=()
def tw15779288298644667818:=()
def tw15784637486245064445:=()
def tw1581274462515500649:=()
def tw15816868113660962928:=()
def tw15982727060890572347:=()
def tw16034407735356979927:=()
def tw16512400038178953810:=()
def tw16531194353876044697:=()
def tw16609191270936689528:=()
def tw16613045976324004166:=()
def tw16615359653884920067:=()
def tw16679689632732600138:=()
def tw16800633283175490588:=()
def tw16935150285386259307:=()
def tw16950895528860837609:=()
def tw17162098282601446249:=()
def tw17190506580606357073:=()
def tw17297078261143724929:=()
def tw17316518391447646381:=()
def tw17330240208718951560:=()
def tw17372375894863736343:=()
def tw17379254462426367023:=()
def tw17622664020379919691:=()
def tw17649382356956376024:=()
def tw17732838934748259032:=()
def tw18089544781927434988:=()
def tw1812476037503730149:=()
def tw18220752819828685452:=()
def tw18231173471334022477:=()
def tw18263424160129160658:=()
def tw18327345364633108194:=()
def tw18392186229298947939:=()
def tw1927840750311130027:=()
def tw2125538067625267243:=()
def tw2174188968910953984:=()
def tw2187011474647458734:=()
def tw2299053272236049465:=()
def tw2386294649662887671:=()
def tw241992881027291150:=()
def tw2774005087676453915:=()
def tw2891716547147250012:=()
def tw2920542731761519537:=()
def tw3096832877814052348:=()
def tw3115990769684285467:=()
def tw319228502993942862:=()
def tw3205387721409955434:=()
def tw3313528819392834633:=()
def tw3384130859211466304:=()
def tw3394516440578744118:=()
def tw3446736176654945529:=()
def tw3496357394361451250:=()
def tw3545055176769890153:=()
def tw3642489766320758276:=()
def tw3668744502597705545:=()
def tw3679921944698643270:=()
def tw3695799393367877601:=()
def tw3894885348515343728:=()
def tw4021875814470096192:=()
def tw4071049081922528920:=()
def tw4218794857502839115:=()
def tw427327421138478153:=()
def tw4314918225067171015:=()
def tw450737918513761194:=()
def tw4651358941257697553:=()
def tw4746108750606059810:=()
def tw4755964763194881760:=()
def tw484100911713021167:=()
def tw4853963276035018913:=()
def tw4861246582498221119:=()
def tw4874929534814996347:=()
def tw4956272676904513199:=()
def tw5212267855497183331:=()
def tw5291103003103098361:=()
def tw5363685640027927862:=()
def tw5444185273917656372:=()
def tw5473834034316697568:=()
def tw5506275274855366984:=()
def tw5553750385661675757:=()
def tw5775067028784660639:=()
def tw6042264670803784504:=()
def tw610657550356758585:=()
def tw6310573664196721687:=()
def tw6458466466878076650:=()
def tw6472893550557210293:=()
def tw6669862522080439168:=()
def tw6673800217240432533:=()
def tw6693338622703249800:=()
def tw6698624449388993134:=()
def tw6978599283492882446:=()
def tw7133636984172128618:=()
def tw7258144726217211970:=()
def tw7305554776520419733:=()
def tw7338306840352773038:=()
def tw7410842461017395954:=()
def tw7420204660242386944:=()
def tw7427879732149707915:=()
def tw7588241226512994560:=()
def tw7621826602106340677:=()
def tw7641519926519086773:=()
def tw7656185383321488725:=()
def tw7693362272032190271:=()
def tw7749404593571253604:=()
def tw7776971270981273060:=()
def tw7868391127873594830:=()
def tw7937221667128401969:=()
def tw7943716150485949983:=()
def tw7962267092347844017:=()
def tw8047740039242028264:=()
def tw8119303592495664104:=()
def tw8213509982121569212:=()
def tw8257505572399771351:=()
def tw8430666535421141448:=()
def tw8479411932271758676:=()
def tw8607688124976161033:=()
def tw8644651444633607176:=()
def tw8666490006295022544:=()
def tw8852314420977442899:=()
def tw8872135093708503599:=()
def tw9207332699694338307:=()
def tw9246505163327814556:=()
def tw934856367083853409:=()
def tw9432876740750695442:=()
def tw9440824424970406287:=()
def tw9661912978585070498:=()
def tw9702207217562674616:=()
def tw9785345101191219449:=()
def tw9938154058786608410:=()
def tw9982560333084281735:=()
end PySem.W.Fast
open PySem PySem.W PyProof.Rows
set_option maxRecDepth 100000 in
set_option maxHeartbeats 0 in
theorem PySem.Challenge.cw_pursewright_k20_pieces_done_holds : PySem.Challenge.rw_pursewright_k20_pieces_done.Holds := by
 w_on;o_law;k_head;(case hw=>w_witness2)
 k_fill
 refine K20.walk (l:=PySem.Challenge.rw_pursewright_k20_pieces_done) rfl rfl (fun w h Y=>PySem.W.kIn_of Y) ?F
 case F =>
  intro w mg fa h KX G hmg;refine' K20.all_mk KX G hmg ..
  all_goals try first|refine' L2.DY.of ?_ ?_ ?_ ?_|refine' L2.DM.of ?_ ?_ ?_ ?_ ?_
  all_goals try delta L2.NI L2.LK L2.CI L2.KI L2.NB L2.bf
  all_goals try first|k_is|kernel_rfl